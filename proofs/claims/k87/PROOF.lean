import PyProof.Rows.All
import Wide.All
import OpenK.AllK
import Wide.FinOn
import Lean
import PyProof.EqAt
import PyProof.EqKinds
import PyProof.TupleCall
import PyProof.ListMulRoad
import PyProof.Lay0
import PyProof.Rows.EqDataRows
import PyProof.ReprRoads
import PyProof.Rows.MinMaxN
import PyProof.ReprLen
import PyProof.FitsInt
import PyProof.MinMaxWalk
import KE.KRevSl
import KE.KRevIter
import PyProof.ListRange
import PyProof.Sched
import PyProof.Rows.SortShellK
import PyProof.Rows.SortRunK
import PyProof.Rows.SortRuns
import PyProof.TupleOfSeq
import PyProof.RulesAs
import OpenK.KDescr
import OpenK.KOwn
import KE.KIsNot
import KE.KIsAll
import PyProof.Rows.SetFrom
import PyProof.WalksMore
import PyProof.CollectWalk
import KE.KLam
import KE.KMinKey
import KE.KSortKey
import KE.KEqDict
import PyProof.ExcInit
import PyProof.ExcClass3
import PyProof.InstStoreFacts
import PySem.Challenge.RW_knockpurse_k87_calm_rows
set_option Elab.async false
set_option linter.all false
set_option maxRecDepth 100000
namespace L2
open PySem PySem.Spec PyProof.Rows
abbrev Key:=Sum Int Str
def keyIs:Key->Value->Bool
 | .inl k,v=>Value.isInt k v
 | .inr x,v=>Value.isStrOf x v
def keyH(w:World):Key->Int
 | .inl k=>hashInt k
 | .inr x=>hashStr w x
theorem keyIs_shape:∀{k:Key} {v:Value},keyIs k v=true->(∃ i t,k=Sum.inl i/\v=Value.int i t)\/(∃ x t,k=Sum.inr x/\v=Value.str x t)
 | .inl i,v,h=>by
  obtain⟨t,e⟩:=Value.isInt_shape (k:=i) (v:=v) h
  exact .inl ⟨i,t,rfl,e⟩
 | .inr x,v,h=>by
  obtain⟨t,e⟩:=Value.isStrOf_shape (x:=x) (v:=v) h
  exact .inr ⟨x,t,rfl,e⟩
theorem key_ll(a b:Int):decide ((Sum.inl a:Key)=Sum.inl b)=(a == b):=by
 by_cases e:a=b
 ·subst e;simp
 ·have h:¬ (Sum.inl a:Key)=Sum.inl b:=fun q=>e (Sum.inl.inj q)
  rw [decide_eq_false h]
  exact(beq_eq_false_iff_ne.mpr e).symm
theorem key_rr(a b:Str):decide ((Sum.inr a:Key)=Sum.inr b)=decide (a=b):=by
 by_cases e:a=b
 ·subst e;simp
 ·have h:¬ (Sum.inr a:Key)=Sum.inr b:=fun q=>e (Sum.inr.inj q)
  rw [decide_eq_false h,decide_eq_false e]
theorem key_lr(a:Int)(b:Str):decide ((Sum.inl a:Key)=Sum.inr b)=false:=decide_eq_false (fun q=>nomatch q)
theorem key_rl(a:Str)(b:Int):decide ((Sum.inr a:Key)=Sum.inl b)=false:=decide_eq_false (fun q=>nomatch q)
def mixKind(prog:Program)(w:World):PySem.KeyKind prog w Key where
 is:=keyIs
 hash:=keyH w
 inj:=fun v a b ha hb=>by
  rcases keyIs_shape ha with⟨i,t,rfl,rfl⟩ | ⟨x,t,rfl,rfl⟩
  ·rcases keyIs_shape hb with⟨j,u,rfl,e⟩ | ⟨y,u,rfl,e⟩
   ·injection e with e1 _;rw [e1]
   ·exact nomatch e
  ·rcases keyIs_shape hb with⟨j,u,rfl,e⟩ | ⟨y,u,rfl,e⟩
   ·exact nomatch e
   ·injection e with e1 _;rw [e1]
 byValue:=fun k v h=>by
  rcases keyIs_shape h with⟨i,t,rfl,rfl⟩ | ⟨x,t,rfl,rfl⟩ <;> rfl
 pyHash:=fun hv h=>by
  rcases keyIs_shape hv with⟨i,t,rfl,rfl⟩ | ⟨x,t,rfl,rfl⟩
  ·exact wpAny_pyHash_int h
  ·exact wpAny_pyHash_str h
 eqBool:=fun hu hv h=>by
  rcases keyIs_shape hu with⟨i,t,rfl,rfl⟩ | ⟨x,t,rfl,rfl⟩
  ·rcases keyIs_shape hv with⟨j,u,rfl,rfl⟩ | ⟨y,u,rfl,rfl⟩
   ·rw [key_ll] at h;exact wpAny_eqBool_int h
   ·rw [key_lr] at h;exact SeqAt.EqAt.int_str i t y u _ _ _ _ h
  ·rcases keyIs_shape hv with⟨j,u,rfl,rfl⟩ | ⟨y,u,rfl,rfl⟩
   ·rw [key_rl] at h;exact SeqAt.EqAt.str_int x t j u _ _ _ _ h
   ·rw [key_rr] at h;exact wpAny_eqBool_str h
 «strs»:=fun k x t v h=>by
  rcases keyIs_shape h with⟨i,u,rfl,e⟩ | ⟨y,u,rfl,e⟩
  ·exact nomatch e
  ·injection e with e1 _
   subst e1
   cases v <;> rfl
inductive V where
 | non | bl (b:Bool) | int (i:Int) | str (x:Str) | byt (b:Array UInt8) | flt (b:UInt64) | ref (a:Addr) | ty (n:String)
 deriving DecidableEq
def RelV:V->Value->Prop
 | .non,u=>u=Value.none
 | .bl b,u=>u=Value.bool b
 | .int i,u=>∃ t,u=Value.int i t
 | .str x,u=>∃ t,u=Value.str x t
 | .byt b,u=>∃ t,u=Value.bytes b t
 | .flt b,u=>∃ t,u=Value.float b t
 | .ref a,u=>u=Value.ref a
 | .ty n,u=>u=Value.type n
abbrev Vals:List V->List Value->Prop:=Paired RelV
theorem Vals.length{xs:List V}{us:List Value}(r:Vals xs us):xs.length=us.length:=Paired.length r
theorem Vals.get:∀{xs:List V} {us:List Value} {i:Nat} {x:V},Vals xs us->xs[i]?=some x->∃ u,us[i]?=some u/\RelV x u
 | _,_,_,_,.nil,e=>by simp at e
 | _,_,0,_,.cons r _,e=>by simp at e;subst e;exact⟨_,rfl,r⟩
 | _,_,i+1,x,.cons _ t,e=>by
  obtain⟨u,h1,h2⟩:=Vals.get (i:=i) (x:=x) t (by simpa using e)
  exact⟨u,by simpa using h1,h2⟩
theorem Vals.set{x:V}{u:Value}(r:RelV x u):∀{xs:List V} {us:List Value} (i:Nat),Vals xs us->Vals (xs.set i x) (us.set i u)
 | _,_,_,.nil=>.nil
 | _,_,0,.cons _ t=>.cons r t
 | _,_,i+1,.cons q t=>.cons q (Vals.set r i t)
theorem Vals.append:∀{xs ys:List V} {us ws:List Value},Vals xs us->Vals ys ws->Vals (xs++ys) (us++ws)
 | _,_,_,_,.nil,s=>s
 | _,_,_,_,.cons r t,s=>.cons r (Vals.append t s)
theorem Vals.take:∀{xs:List V} {us:List Value} (n:Nat),Vals xs us->Vals (xs.take n) (us.take n)
 | _,_,0,_=>.nil
 | _,_,_+1,.nil=>.nil
 | _,_,n+1,.cons r t=>.cons r (Vals.take n t)
theorem Vals.drop:∀{xs:List V} {us:List Value} (n:Nat),Vals xs us->Vals (xs.drop n) (us.drop n)
 | _,_,0,r=>r
 | _,_,_+1,.nil=>.nil
 | _,_,n+1,.cons _ t=>Vals.drop n t
def RelO:Option V->Option Value->Prop
 | some v,some u=>RelV v u
 | none,none=>True
 | _,_=>False
def KV{κ:Type}:List (κ×V)->List (κ×Value)->Prop:=Paired fun(p:κ×V) (q:κ×Value)=>p.1=q.1/\RelV p.2 q.2
def kV:Key->V
 | .inl i=>.int i
 | .inr x=>.str x
inductive HO where
  | lst (xs:List V)
  | tup (xs:List V)
  | dK (kvs:List (Key×V)) | dT (kvs:List (List Key×V))
  | set (S:Int->Bool) (n:Nat)
  | ins (C dx:Addr) (fs:List (Str×V))
  | own (x:Addr)
  | xd (fs:List (Str×V))
  | met (f x:Addr)
  | rng (lo hi:Int)
  | frz (o:Obj) (u:HO)
  | tbl (ps:Array Value)
  | ext (φ:Heap->Prop)
abbrev Hp:=Addr->Option HO
def upd(H:Hp)(a:Addr)(o:HO):Hp:=fun b=>if b=a then some o else H b
theorem upd_same{H:Hp}{a:Addr}{o:HO}:upd H a o a=some o:=by unfold upd;rw [if_pos rfl]
theorem upd_ne{H:Hp}{a b:Addr}{o:HO}(h:b≠a):upd H a o b=H b:=by unfold upd;rw [if_neg h]
theorem ne_of{H:Hp}{a b:Addr}{o u:HO}(h:H a=some o)(h':H b=some u)(d:o≠u):a≠b:=by
 intro e;subst e;rw [h] at h';exact d (Option.some.inj h')
theorem ne_of_none{H:Hp}{a b:Addr}{o:HO}(h:H a=some o)(h':H b=none):a≠b:=by
 intro e;subst e;rw [h] at h';cases h'
def TupD(h:Heap)(a:Addr)(items:Array Value):Prop:=∃ o,h.get? a=some o/\o.cls=.type "tuple" /\(∃ n,o.data=.seq items n)/\o.dict=none
theorem TupD.isTup{h:Heap}{a:Addr}{items:Array Value}(x:TupD h a items):IsTup h a items:=let ⟨o,e,c,d,_⟩:=x;⟨o,e,c,d⟩
theorem TupD.lt{h:Heap}{a:Addr}{items:Array Value}(x:TupD h a items):a<h.objs.size:=x.isTup.lt
theorem TupD.new(h:Heap)(items:Array Value):TupD (h.push { cls:=.type "tuple",data:=.seq items }) h.objs.size items:=⟨_,Heap.get?_push_size _ rfl,rfl,⟨_,rfl⟩,rfl⟩
def CodeO(oc:Obj)(q:Str):Prop:=∃ vs t,oc.data=.fields vs/\vs[1]?=some (.str q t)
def TabOk(H:Hp)(h:Heap)(a:Addr)(lab:Array Value):Prop:=∃(ps:Array Value) (q:Str) (t:Tok),lab = #[.str q t]/\h.get? a=some { cls:=.none,data:=.fields ps }/\TriplesOk ps.toList /\
 ∀ pos cv,codeAmong pos ps.toList=some cv->∃ c' oc u,cv=.ref c'/\H c'=some (.frz oc u)/\CodeO oc q
section
variable (P:Program)(w:World)
def ObjOk(H:Hp)(h:Heap)(a:Addr):HO->Prop
 | .lst xs=>xs.length<=sizeLine/\∃(its:List Value) (n:Nat),Vals xs its/\h.get? a=some { cls:=.type "list",data:=.seq its.toArray n }
 | .tup xs=>xs.length<=sizeLine/\∃ its:List Value,Vals xs its/\TupD h a its.toArray
 | .dK kvs=>kvs.length<=sizeLine/\(a == sysModules)=false/\∃ vs,KV kvs vs/\h.DictOf (mixKind P w) a vs
 | .dT kvs=>kvs.length<=sizeLine/\(a == sysModules)=false/\∃ xs:List (List Key×Addr×Value),
   Paired (fun(p:List Key×V) (q:List Key×Addr×Value)=>p.1=q.1/\H q.2.1=some (.tup (p.1.map kV))/\RelV p.2 q.2.2) kvs xs /\
   ∃ o es ep,h.get? a=some o/\o.ExactDict/\o.data=.dict es ep/\es.toList=xs.map (entryOfKey (tupleKind (mixKind P w)))/\(xs.map (·.1)).Nodup
 | .set S n=>h.SetOf (intKind P w) a S n
 | .ins C dx fs=>H dx=some (.own a)/\fs.length<=1000/\dx≠a/\h.get? a=some (PySem.W.instObj C dx) /\
   ∃ mA,h.Ns1 dx mA/\(∀ f,RelO (fs.lookup f) (mA f))/\PySem.Within mA (fs.map (·.1))
 | .own _=>∃ o,h.get? a=some o
 | .xd fs=>∃ mA,h.Ns1 a mA/\∀ f,RelO (fs.lookup f) (mA f)
 | .rng lo hi=>∃ t u v,h.get? a=some { cls:=.type "range",data:=.fields #[.int lo t,.int hi u,.int 1 v] }
 | .frz o u=>h.get? a=some o/\ObjOk H h a u
 | .tbl ps=>TabOk H h a ps
 | .met f x=>h.get? a=some (PySem.W.methodObj (.ref f) (.ref x))
 | .ext φ=>φ h/\(∃ o,h.get? a=some o)/\∀ h1 h2:Heap,φ h1->(∀ o,h1.get? a=some o->h2.get? a=some o)->φ h2
def HOk(H:Hp)(h:Heap):Prop:=∀ a o,H a=some o->ObjOk P w H h a o
end
section
variable {P:Program}{w:World}{H H':Hp}{h h':Heap}{a:Addr}{o:HO}
theorem ObjOk.lt(x:ObjOk P w H h a o):a<h.objs.size:=by
 cases o with
 | lst xs=>obtain⟨_,_,_,_,e⟩:=x;exact Heap.lt_size e
 | tup xs=>obtain⟨_,_,_,p⟩:=x;exact p.lt
 | dK kvs=>obtain⟨_,_,_,_,o,_,_,e,_⟩:=x;exact Heap.lt_size e
 | dT kvs=>obtain⟨_,_,_,_,o,_,_,e,_⟩:=x;exact Heap.lt_size e
 | set S n=>obtain⟨o,_,_,_,e,_⟩:=x;exact Heap.lt_size e
 | ins C dx fs=>obtain⟨_,_,_,e,_⟩:=x;exact Heap.lt_size e
 | own y=>obtain⟨_,e⟩:=x;exact Heap.lt_size e
 | xd fs=>obtain⟨_,⟨_,_,_,e,_⟩,_⟩:=x;exact Heap.lt_size e
 | rng lo hi=>obtain⟨_,_,_,e⟩:=x;exact Heap.lt_size e
 | frz ob u=>obtain⟨e,_⟩:=x;exact Heap.lt_size e
 | tbl ps=>obtain⟨_,_,_,_,e,_⟩:=x;exact Heap.lt_size e
 | met f y=>exact Heap.lt_size (show h.get? a=some _ from x)
 | ext φ=>obtain⟨_,⟨_,e⟩,_⟩:=x;exact Heap.lt_size e
theorem Paired.mapP{α β:Type}{F G:α->β->Prop}:∀{l₁:List α} {l₂:List β},Paired F l₁ l₂->(∀ a b,F a b->G a b)->Paired G l₁ l₂
 | _,_,.nil,_=>.nil
 | _,_,.cons r t,f=>.cons (f _ _ r) (Paired.mapP t f)
theorem ObjOk.stay(x:ObjOk P w H h a o)(k:∀ b u,(b=a\/H b=some (.own a))->h.get? b=some u->h'.get? b=some u)
  (ho:∀ b,H b=some (.own a)->H' b=some (.own a)) (ht:∀ b xs,H b=some (.tup xs)->H' b=some (.tup xs)) (hf:∀ b o u,H b=some (.frz o u)->H' b=some (.frz o u):=by exact fun _ _ _ q=>q):ObjOk P w H' h' a o:=by
 induction o with
 | lst xs=>obtain⟨z,its,n,r,e⟩:=x;exact⟨z,its,n,r,k _ _ (.inl rfl) e⟩
 | tup xs=>obtain⟨z,its,r,ob,e,c⟩:=x;exact⟨z,its,r,ob,k _ _ (.inl rfl) e,c⟩
 | dK kvs=>obtain⟨z,y,vs,r,ob,es,ep,e,c⟩:=x;exact⟨z,y,vs,r,ob,es,ep,k _ _ (.inl rfl) e,c⟩
 | dT kvs =>
  obtain⟨z,y,xs,r,ob,es,ep,e,c⟩:=x
  exact⟨z,y,xs,Paired.mapP r fun p q z=>⟨z.1,ht _ _ z.2.1,z.2.2⟩,ob,es,ep,k _ _ (.inl rfl) e,c⟩
 | set S n=>obtain⟨ob,es,ep,t,e,c⟩:=x;exact⟨ob,es,ep,t,k _ _ (.inl rfl) e,c⟩
 | ins C dx fs =>
  obtain⟨d,z,ne,e,mA,⟨od,es,ep,e2,c⟩,r⟩:=x
  exact⟨ho _ d,z,ne,k _ _ (.inl rfl) e,mA,⟨od,es,ep,k _ _ (.inr d) e2,c⟩,r⟩
 | own y=>obtain⟨ob,e⟩:=x;exact⟨ob,k _ _ (.inl rfl) e⟩
 | xd fs=>obtain⟨mA,⟨od,es,ep,e,c⟩,r⟩:=x;exact⟨mA,⟨od,es,ep,k _ _ (.inl rfl) e,c⟩,r⟩
 | rng lo hi=>obtain⟨t,u,v,e⟩:=x;exact⟨t,u,v,k _ _ (.inl rfl) e⟩
 | frz ob u ih=>obtain⟨e,q⟩:=x;exact⟨k _ _ (.inl rfl) e,ih q⟩
 | tbl ps =>
  obtain⟨rs,q,t,z,e,tr,r⟩:=x
  exact⟨rs,q,t,z,k a _ (.inl rfl) e,tr,fun pos cv y=>let ⟨c',oc,u,r1,r2,r3⟩:=r pos cv y;⟨c',oc,u,r1,hf _ _ _ r2,r3⟩⟩
 | met f y =>
  have e:h.get? a=some (PySem.W.methodObj (.ref f) (.ref y)):=x
  show h'.get? a=some (PySem.W.methodObj (.ref f) (.ref y))
  exact k a _ (.inl rfl) e
 | ext φ=>obtain⟨p,⟨o,e⟩,st⟩:=x;exact⟨st _ _ p fun o q=>k _ _ (.inl rfl) q,⟨o,k _ _ (.inl rfl) e⟩,st⟩
theorem HOk.lt(x:HOk P w H h)(e:H a=some o):a<h.objs.size:=(x a o e).lt
theorem HOk.fresh(x:HOk P w H h)(e:h.objs.size<=a):H a=none:=by
 cases q:H a with
 | none=>rfl
 | some u=>exact absurd (Nat.lt_of_lt_of_le (x.lt q) e) (Nat.lt_irrefl _)
theorem HOk.kept(x:HOk P w H h)(k:∀ b u,h.get? b=some u->h'.get? b=some u):HOk P w H h':=fun a o e =>
 (x a o e).stay (fun b u _ q=>k b u q) (fun _ q=>q) fun _ _ q=>q
theorem HOk.laid(x:HOk P w H h)(k:∀ b u,h.get? b=some u->h'.get? b=some u)(hp:h.objs.size<=a)(new:ObjOk P w (upd H a o) h' a o):HOk P w (upd H a o) h':=fun b u e=>by
 have hn:=x.fresh hp
 by_cases hb:b=a
 ·subst hb;rw [upd_same] at e;cases e;exact new
 ·rw [upd_ne hb] at e
  exact(x b u e).stay (fun c v _ q=>k c v q) (fun c q=>by rw [upd_ne (ne_of_none q hn)];exact q) (fun c xs q=>by rw [upd_ne (ne_of_none q hn)];exact q) fun c _ _ q=>by rw [upd_ne (ne_of_none q hn)];exact q
end
def Rd(H:Hp)(a:Addr)(u:HO):Prop:=H a=some u\/∃ o,H a=some (.frz o u)
theorem Rd.of{H:Hp}{a:Addr}{u:HO}(h:H a=some u):Rd H a u:=.inl h
theorem Rd.ok{P:Program}{w:World}{H:Hp}{h:Heap}{a:Addr}{u:HO}(r:Rd H a u)(x:HOk P w H h):ObjOk P w H h a u:=by
 rcases r with r | ⟨o,r⟩
 ·exact x a u r
 ·obtain⟨_,q⟩:=x a _ r
  exact q
def Mut:Option HO->Prop
 | some (.lst _)=>True
 | some (.dK _)=>True
 | some (.dT _)=>True
 | some (.set _ _)=>True
 | some (.ins _ _ _)=>True
 | some (.ext _)=>True
 | _=>False
section
variable {P:Program}{w:World}{H:Hp}{h h':Heap}{x e:Addr}{o':HO}
theorem HOk.write(ok:HOk P w H h)(mu:Mut (H x))(he:e=x\/H e=some (.own x))(k:∀ b u,b≠e->h.get? b=some u->h'.get? b=some u)(heo:∃ u,h'.get? e=some u)
  (new:ObjOk P w (upd H x o') h' x o'):HOk P w (upd H x o') h':=fun b u q=>by
 have nown:∀ c y,H c=some (.own y)->c≠x:=fun c y r z=>by subst z;rw [r] at mu;exact mu
 have ntup:∀ c xs,H c=some (.tup xs)->c≠x:=fun c xs r z=>by subst z;rw [r] at mu;exact mu
 have nfrz:∀ c o u,H c=some (.frz o u)->c≠x:=fun c o u r z=>by subst z;rw [r] at mu;exact mu
 by_cases hb:b=x
 ·subst hb;rw [upd_same] at q;cases q;exact new
 ·rw [upd_ne hb] at q
  by_cases hbe:b=e
  ·have q':H b=some (.own x):=by
    rcases he with z | z
    ·exact absurd (hbe.trans z) hb
    ·rw [hbe];exact z
   rw [q] at q';cases q'
   obtain⟨v,hv⟩:=heo
   exact⟨v,by rw [hbe];exact hv⟩
  ·refine(ok b u q).stay (fun c v hc r=>k c v ?_ r) (fun c r=>by rw [upd_ne (nown c b r)];exact r) (fun c xs r=>by rw [upd_ne (ntup c xs r)];exact r) (fun c o u r=>by rw [upd_ne (nfrz c o u r)];exact r)
   rcases hc with rfl | hc
   ·exact hbe
   ·rintro rfl
    rcases he with z | z
    ·exact nown c b hc z
    ·rw [hc] at z;cases z;exact hb rfl
end
structure Un(fs ex:List Addr)(H H':Hp)(h h':Heap):Prop where
 keep:∀ b o,h.get? b=some o->H b=none->b∉fs->b∉ex->h'.get? b=some o
 slot:∀ b o,h.get? b=some o->H b=none->b∈fs->b∉ex->∃ sl,h'.get? b=some { o with slots:=sl }
 free:∀ b o,h.get? b=some o->H b=none->b∉ex->H' b=none
 there:∀ b o,h.get? b=some o->b∉ex->∃ o',h'.get? b=some o'
 tups:∀ b xs,H b=some (.tup xs)->H' b=some (.tup xs)
 frzs:∀ b o u,H b=some (.frz o u)->H' b=some (.frz o u)
 tbls:∀ b ps,H b=some (.tbl ps)->∃ more,H' b=some (.tbl (ps++more))
section
variable {fs fs' ex ex':List Addr}{H H1 H2:Hp}{h h1 h2 h':Heap}{a x e:Addr}{o:HO}
theorem Un.any(u:Un fs ex H H1 h h1){b:Addr}{ob:Obj}(q:h.get? b=some ob)(n:H b=none)(hx:b∉ex):∃ sl,h1.get? b=some { ob with slots:=sl }:=by
 by_cases hb:b∈fs
 ·exact u.slot b ob q n hb hx
 ·exact⟨ob.slots,u.keep b ob q n hb hx⟩
theorem Un.trans(a:Un fs ex H H1 h h1)(b:Un fs ex H1 H2 h1 h2):Un fs ex H H2 h h2 where
 keep:=fun c ob q n hc hx=>b.keep c ob (a.keep c ob q n hc hx) (a.free c ob q n hx) hc hx
 slot:=fun c ob q n hc hx=>by
  obtain⟨sl,e1⟩:=a.slot c ob q n hc hx
  obtain⟨sl',e2⟩:=b.slot c _ e1 (a.free c ob q n hx) hc hx
  exact⟨sl',e2⟩
 free:=fun c ob q n hx=>by
  obtain⟨o',e1⟩:=a.there c ob q hx
  exact b.free c o' e1 (a.free c ob q n hx) hx
 there:=fun c ob q hx=>by
  obtain⟨o',e1⟩:=a.there c ob q hx
  exact b.there c o' e1 hx
 tups:=fun c xs q=>b.tups c xs (a.tups c xs q)
 frzs:=fun c ob xs q=>b.frzs c ob xs (a.frzs c ob xs q)
 tbls:=fun c ps q=>by
  obtain⟨m1,e1⟩:=a.tbls c ps q
  obtain⟨m2,e2⟩:=b.tbls c _ e1
  exact⟨m1++m2,by rw [e2,Array.append_assoc]⟩
theorem Un.kept(k:∀ b u,h.get? b=some u->h'.get? b=some u):Un fs ex H H h h' :=
 ⟨fun b ob q _ _ _=>k b ob q,fun b ob q _ _ _=>⟨ob.slots,k b ob q⟩,fun _ _ _ n _=>n,fun b ob q _=>⟨ob,k b ob q⟩,fun _ _ q=>q,fun _ _ _ q=>q,fun _ ps q=>⟨#[],by rw [q];simp⟩⟩
theorem Un.refl:Un fs ex H H h h:=Un.kept fun _ _ q=>q
theorem Un.laid(k:∀ b u,h.get? b=some u->h'.get? b=some u)(hp:h.objs.size<=a)(hn:H a=none):Un fs ex H (upd H a o) h h' where
 keep:=fun b u q _ _ _=>k b u q
 slot:=fun b u q _ _ _=>⟨u.slots,k b u q⟩
 free:=fun b u q n _=>by rw [upd_ne (Nat.ne_of_lt (Nat.lt_of_lt_of_le (Heap.lt_size q) hp))];exact n
 there:=fun b u q _=>⟨u,k b u q⟩
 tups:=fun b xs q=>by rw [upd_ne (ne_of_none q hn)];exact q
 frzs:=fun b u xs q=>by rw [upd_ne (ne_of_none q hn)];exact q
 tbls:=fun b ps q=>⟨#[],by rw [upd_ne (ne_of_none q hn),q];simp⟩
theorem Un.write(mu:Mut (H x))(he:e=x\/H e=some (.own x))(k:∀ b u,b≠e->h.get? b=some u->h'.get? b=some u)(heo:∃ u,h'.get? e=some u):Un fs ex H (upd H x o) h h':=by
 have hx:∀ b,H b=none->b≠x:=fun b n z=>by subst z;rw [n] at mu;exact mu
 have hb:∀ b,H b=none->b≠e:=fun b n z=>by
  subst z
  rcases he with r | r
  ·exact hx b n r
  ·rw [n] at r;cases r
 have hm:∀ b u,H b=some u->¬ Mut (some u)->b≠x:=fun b u q nm z=>by subst z;rw [q] at mu;exact nm mu
 refine⟨fun b u q n _ _=>k b u (hb b n) q,fun b u q n _ _=>⟨u.slots,k b u (hb b n) q⟩,fun b u q n _=>by rw [upd_ne (hx b n)];exact n,fun b u q _=>?_,
  fun b xs q=>by rw [upd_ne (hm b _ q fun z=>z)];exact q,fun b u xs q=>by rw [upd_ne (hm b _ q fun z=>z)];exact q,fun b ps q=>⟨#[],by rw [upd_ne (hm b _ q fun z=>z),q];simp⟩⟩
 by_cases hbe:b=e
 ·subst hbe;exact heo
 ·exact⟨u,k b u hbe q⟩
theorem Un.mono(u:Un fs ex H H1 h h1)(hs:∀ b∈fs,b∈fs')(hx:∀ b∈ex,b∈ex'):Un fs' ex' H H1 h h1 :=
 ⟨fun b ob q n hb he=>u.keep b ob q n (fun z=>hb (hs b z)) fun z=>he (hx b z),fun _ _ q n _ he=>u.any q n fun z=>he (hx _ z),fun b ob q n he=>u.free b ob q n fun z=>he (hx b z),fun b ob q he=>u.there b ob q fun z=>he (hx b z),u.tups,u.frzs,u.tbls⟩
end
def trk(h:Heap)(H:Hp):List Addr:=(List.range h.objs.size).filter fun a=>(H a).isSome
def hidT(h:Heap)(H:Hp):Heap:=PySem.W.hideAll h (trk h H)
theorem hidT_size(h:Heap)(H:Hp):(hidT h H).objs.size=h.objs.size:=PySem.W.hideAll_size _ _
theorem hidT_get{h:Heap}{H:Hp}{b:Addr}{o:Obj}(e:h.get? b=some o)(n:H b=none):(hidT h H).get? b=some o :=
 PySem.W.hideAll_get _ e fun hm=>by
  have q:(H b).isSome=true:=(List.mem_filter.mp hm).2
  rw [n] at q;simp at q
theorem of_hidT{h:Heap}{H:Hp}{b:Addr}{o:Obj}(e:(hidT h H).get? b=some o):h.get? b=some o/\H b=none:=by
 have e':h.get? b=some o:=PySem.W.of_hideAll (trk h H) e
 refine⟨e',?_⟩
 cases q:H b with
 | none=>rfl
 | some x =>
  have hm:b∈trk h H:=List.mem_filter.mpr ⟨List.mem_range.mpr (Heap.lt_size e'),by simp [q]⟩
  have z:(hidT h H).get? b=none:=PySem.W.hideAll_none (trk h H) hm
  rw [z] at e;cases e
def allNews(g h:Heap)(L:Addr):List (Addr×Obj):=(List.range h.objs.size).filterMap fun a=>if a=L\/(g.get? a).isSome=true then none else (h.get? a).map fun o=>(a,o)
def rest(g h:Heap)(L d:Addr):List (Addr×Obj):=(allNews g h L).filter fun p=>decide (p.1≠d)
structure Mod(K:PySem.W.Frag)(mg:Str->Option Value)(base:Heap):Prop where
 kin:K.In base
 glob:base.Ns mainGlobals mg
 blt:∃ mb,base.Ns builtinsNs mb/\∀ x:Str,x ≠ "__name__" -> mb x=bootBuiltins x
 nolimit:base.NoLimit
structure Cx where
 prog:Program
 w:World
 K:PySem.W.Frag
 mg:Str->Option Value
 base:Heap
 A:Around
 N:List Str
 s₀:Shared
 H₀:Hp
 env:Env
 outer:List Env
 stack:List Env
 ex:List Addr
 fn:Str->Bool
 calm:Bool
 pn:List (Addr×Obj)
 xe:Value->Shared->Prop
def frs(l:List Env):List Addr:=l.filterMap (·.frame)
abbrev Cx.fs(X:Cx):List Addr:=frs X.outer
def Vis(sc:Scope)(x:Str):Prop:=sc.names.lookup x=some .local\/sc.names.lookup x=some .cell\/sc.names.lookup x=some .free
def Loc(sc:Scope)(x:Str):Prop:=sc.names.lookup x=some .local\/sc.names.lookup x=some .cell
def Look(env:Env)(h:Heap)(m:Str->Option Value)(x:Str)(u:Value):Prop :=
 (env.kindOf x=some .local/\m x=some u)\/((env.kindOf x=some .cell\/env.kindOf x=some .free)/\∃ c,env.cells.lookup x=some c/\h.IsCell c (some u))
structure Cx.Ok(X:Cx):Prop where
 mod:Mod X.K X.mg X.base
 kind:X.env.scope.kind=.function
 glob:X.env.globals=mainGlobals
 blt:X.env.builtins=builtinsNs
 above:X.s₀.heap.objs.size<=X.env.locals
 inj:∀ x y c,X.env.cells.lookup x=some c->X.env.cells.lookup y=some c->x=y
 has:∀ x,(X.env.kindOf x=some .cell\/X.env.kindOf x=some .free)->∃ c,X.env.cells.lookup x=some c
 cab:∀ x c,X.fn x=true->X.env.cells.lookup x=some c->X.s₀.heap.objs.size<=c
 hd:X.calm=true->X.A.handled=none
 frames:X.A.frames=some X.stack
 stk:X.stack=X.outer\/(X.stack=X.env::X.outer/\X.env.frame=some X.env.locals)
 exf:∀ b∈X.ex,b≠X.env.locals/\∀ x c,X.env.cells.lookup x=some c->c≠b
 bs:∀ b o,X.base.get? b=some o->X.s₀.heap.get? b=some o/\X.H₀ b=none
 bsz:X.base.objs.size<=X.s₀.heap.objs.size
 noex:∀ b o,X.base.get? b=some o->b∉X.ex
 exfs:∀ b∈X.ex,b∉X.fs
 funs:X.s₀.heap.FunFrames X.base X.outer
 frf:∀ b∈X.fs,X.H₀ b=none
structure Inv(X:Cx)(pins:List (Addr×Obj))(σ:List (Option V))(H:Hp)(s:Shared):Prop where
 ok:X.Ok
 os:s.os=X.s₀.os
 bare:AllBare s.gens
 base:Un X.fs X.ex X.H₀ H X.s₀.heap s.heap
 loc:∃ m,s.heap.Ns X.env.locals m/\∀(i:Nat) (x:Str) (v:V),X.N[i]?=some x->σ[i]?=some (some v)->Vis X.env.scope x->∃ u,RelV v u/\Look X.env s.heap m x u
 cell:∀ x c,X.env.cells.lookup x=some c->∃ v,s.heap.IsCell c v
 free:H X.env.locals=none
 freeC:∀ x c,X.env.cells.lookup x=some c->H c=none
 pin:∀ p∈X.pn++pins,s.heap.get? p.1=some p.2/\H p.1=none/\p.1≠X.env.locals/\p.1∉X.fs/\∀ v,p.2.data ≠ .cell v
 hok:HOk X.prog X.w H s.heap
 len:σ.length=X.N.length
section
variable {X:Cx}{pins:List (Addr×Obj)}{σ:List (Option V)}{H H':Hp}{s:Shared}{h':Heap}
theorem Cx.Ok.nofr(ok:X.Ok){b:Addr}{o:Obj}(e:X.base.get? b=some o):b∉X.fs:=fun hb=>by
 have:=(ok.funs.mem hb).1
 rw [e] at this;cases this
theorem Inv.bs(I:Inv X pins σ H s):∀ b o,X.base.get? b=some o->s.heap.get? b=some o/\H b=none:=fun b o e =>
 ⟨I.base.keep b o (I.ok.bs b o e).1 (I.ok.bs b o e).2 (I.ok.nofr e) (I.ok.noex b o e),I.base.free b o (I.ok.bs b o e).1 (I.ok.bs b o e).2 (I.ok.noex b o e)⟩
theorem Inv.bk(I:Inv X pins σ H s):∀ b o,X.base.get? b=some o->s.heap.get? b=some o:=fun b o e=>(I.bs b o e).1
theorem Inv.mod(I:Inv X pins σ H s):Mod X.K X.mg X.base:=I.ok.mod
theorem Inv.kIn(I:Inv X pins σ H s):X.K.In s.heap:=I.ok.mod.kin.keeps I.bk
theorem Inv.lt(I:Inv X pins σ H s):X.env.locals<s.heap.objs.size:=let ⟨_,hn,_⟩:=I.loc;hn.lt
theorem Inv.sz(I:Inv X pins σ H s):X.s₀.heap.objs.size<=s.heap.objs.size:=Nat.le_trans I.ok.above (Nat.le_of_lt I.lt)
theorem Inv.nofs(I:Inv X pins σ H s){a:Addr}(h:s.heap.objs.size<=a):a∉X.fs:=fun hb=>by
 obtain⟨_,o,ho,_⟩:=I.ok.funs.mem hb
 exact absurd (Nat.lt_of_lt_of_le (Heap.lt_size ho) (Nat.le_trans I.sz h)) (Nat.lt_irrefl _)
theorem Inv.cne(I:Inv X pins σ H s):∀ x c,X.env.cells.lookup x=some c->c≠X.env.locals:=fun x c e z=>by
 obtain⟨v,o,ho,hd⟩:=I.cell x c e
 obtain⟨m,⟨o',es,ep,ho',hd',_⟩,_⟩:=I.loc
 rw [z,ho'] at ho;cases ho;rw [hd'] at hd;cases hd
theorem Inv.funs(I:Inv X pins σ H s):s.heap.FunFrames X.base X.outer:=by
 have all:∀(l:List Env),(∀ b∈frs l,b∈X.fs)->X.s₀.heap.FunFrames X.base l->s.heap.FunFrames X.base l:=by
  intro l
  induction l with
  | nil=>intro _ _;trivial
  | cons env r ih =>
   intro hs hl
   obtain⟨hk,⟨L,o,hf,hn,ho,hd⟩,hr⟩:=hl
   have hL:L∈X.fs:=hs L (by unfold frs;rw [List.filterMap_cons,hf];exact List.mem_cons_self)
   obtain⟨sl,e⟩:=I.base.slot L o ho (I.ok.frf L hL) hL fun z=>I.ok.exfs L z hL
   exact⟨hk,⟨L,_,hf,hn,e,hd⟩,ih (fun b hb=>hs b (by unfold frs;rw [List.filterMap_cons,hf];exact List.mem_cons_of_mem _ hb)) hr⟩
 exact all X.outer (fun _ hb=>hb) I.ok.funs
theorem Inv.stack(I:Inv X pins σ H s):s.heap.FunFrames X.base X.stack:=by
 rcases I.ok.stk with e | ⟨e,hf⟩
 ·rw [e];exact I.funs
 ·rw [e]
  obtain⟨m,hn,_⟩:=I.loc
  refine .cons (by rw [I.ok.kind];decide) hf hn ?_ I.funs
  exact Heap.get?_none_of_le (Nat.le_trans I.ok.bsz I.ok.above)
theorem Inv.stkSub(I:Inv X pins σ H s):∀ b∈frs X.stack,b∈X.env.locals::X.fs:=fun b hb=>by
 rcases I.ok.stk with e | ⟨e,hf⟩
 ·rw [e] at hb;exact List.mem_cons_of_mem _ hb
 ·rw [e] at hb
  unfold frs at hb
  rw [List.filterMap_cons,hf] at hb
  exact hb
theorem Inv.stkFree(I:Inv X pins σ H s):∀ b∈frs X.stack,H b=none:=fun b hb=>by
 rcases List.mem_cons.mp (I.stkSub b hb) with e | hb
 ·rw [e];exact I.free
 ·obtain⟨_,o,ho,_⟩:=I.ok.funs.mem hb
  exact I.base.free b o ho (I.ok.frf b hb) fun z=>I.ok.exfs b z hb
theorem Inv.step{g':Array GenState}{t':Nat}{d':Drawn}{ch:List Addr}(I:Inv X pins σ H s)
  (hch:∀ b∈ch,(b∈X.ex\/X.s₀.heap.objs.size<=b)/\b≠X.env.locals/\(∀ x c,X.env.cells.lookup x=some c->c≠b)/\∀ p∈X.pn++pins,p.1≠b)
  (keep:∀ b o,b≠X.env.locals->b∉X.fs->b∉ch->s.heap.get? b=some o->H b=none->h'.get? b=some o)
  (slot:∀ b o,b≠X.env.locals->b∈X.fs->b∉ch->s.heap.get? b=some o->H b=none->∃ sl,h'.get? b=some { o with slots:=sl }) (free:∀ b o,b∉ch->s.heap.get? b=some o->H b=none->H' b=none)
  (there:∀ b o,b∉ch->s.heap.get? b=some o->∃ o',h'.get? b=some o')
  (tups:∀ b xs,H b=some (.tup xs)->H' b=some (.tup xs)) (frzs:∀ b o u,H b=some (.frz o u)->H' b=some (.frz o u)) (tbls:∀ b ps,H b=some (.tbl ps)->∃ more,H' b=some (.tbl (ps++more)))
  (ns:∀ m,s.heap.Ns X.env.locals m->h'.Ns X.env.locals m) (hok:HOk X.prog X.w H' h') (hg:AllBare g') :
  Inv X pins σ H' { s with heap:=h',gens:=g',drawn:=d',toks:=t' }:=by
 have neL:∀ b o,X.s₀.heap.get? b=some o->b≠X.env.locals:=fun b o e=>Nat.ne_of_lt (Nat.lt_of_lt_of_le (Heap.lt_size e) I.ok.above)
 have neC:∀ b o,X.s₀.heap.get? b=some o->b∉X.ex->b∉ch:=fun b o e hx hb=>by
  rcases (hch b hb).1 with z | z
  ·exact hx z
  ·exact absurd (Nat.lt_of_lt_of_le (Heap.lt_size e) z) (Nat.lt_irrefl _)
 have cellK:∀ x c,X.env.cells.lookup x=some c->∀ v,s.heap.IsCell c v->h'.IsCell c v:=fun x c e v ⟨o,ho,hd⟩=>by
  have nch:c∉ch:=fun z=>(hch c z).2.2.1 x c e rfl
  by_cases hc:c∈X.fs
  ·obtain⟨sl,q⟩:=slot c o (I.cne x c e) hc nch ho (I.freeC x c e)
   exact⟨_,q,hd⟩
  ·exact⟨o,keep c o (I.cne x c e) hc nch ho (I.freeC x c e),hd⟩
 refine⟨I.ok,I.os,hg,⟨fun b o e n hb hx=>?_,fun b o e n hb hx=>?_,fun b o e n hx=>?_,fun b o e hx=>?_,fun b xs e=>tups b xs (I.base.tups b xs e),fun b o xs e=>frzs b o xs (I.base.frzs b o xs e),fun b ps e=>?_⟩,?_,fun x c e=>?_,?_,fun x c e=>?_,fun p hp=>?_,hok,I.len⟩
 ·exact keep b o (neL b o e) hb (neC b o e hx) (I.base.keep b o e n hb hx) (I.base.free b o e n hx)
 ·obtain⟨sl,e1⟩:=I.base.slot b o e n hb hx
  obtain⟨sl',e2⟩:=slot b _ (neL b o e) hb (neC b o e hx) e1 (I.base.free b o e n hx)
  exact⟨sl',e2⟩
 ·obtain⟨o',e1⟩:=I.base.there b o e hx
  exact free b o' (neC b o e hx) e1 (I.base.free b o e n hx)
 ·obtain⟨o',e1⟩:=I.base.there b o e hx
  exact there b o' (neC b o e hx) e1
 ·obtain⟨m1,e1⟩:=I.base.tbls b ps e
  obtain⟨m2,e2⟩:=tbls b _ e1
  exact⟨m1++m2,by rw [e2,Array.append_assoc]⟩
 ·obtain⟨m,hn,hl⟩:=I.loc
  refine⟨m,ns m hn,fun i x v e1 e2 e3=>?_⟩
  obtain⟨u,r,l⟩:=hl i x v e1 e2 e3
  refine⟨u,r,?_⟩
  rcases l with l | ⟨k,c,e,z⟩
  ·exact .inl l
  ·exact .inr ⟨k,c,e,cellK x c e _ z⟩
 ·obtain⟨v,z⟩:=I.cell x c e
  exact⟨v,cellK x c e v z⟩
 ·obtain⟨m,⟨o,_,_,ho,_⟩,_⟩:=I.loc
  exact free _ o (fun z=>(hch _ z).2.1 rfl) ho I.free
 ·obtain⟨v,o,ho,hd⟩:=I.cell x c e
  exact free c o (fun z=>(hch c z).2.2.1 x c e rfl) ho (I.freeC x c e)
 ·obtain⟨e,n,ne,nf,d⟩:=I.pin p hp
  have nch:p.1∉ch:=fun z=>(hch p.1 z).2.2.2 p hp rfl
  exact⟨keep p.1 p.2 ne nf nch e n,free p.1 p.2 nch e n,ne,nf,d⟩
theorem Inv.un{t':Nat}(I:Inv X pins σ H s)(u:Un X.fs [] H H' s.heap h')(hok:HOk X.prog X.w H' h'):Inv X pins σ H' { s with heap:=h',toks:=t' }:=by
 obtain⟨m,⟨o,es,ep,ho,r⟩,_⟩:=id I.loc
 obtain⟨sl,hL⟩:=u.any ho I.free (by simp)
 exact I.step (g':=s.gens) (d':=s.drawn) (ch:=[]) (fun _ z=>nomatch z) (fun b o _ hb _ e n=>u.keep b o e n hb (by simp)) (fun b o _ hb _ e n=>u.slot b o e n hb (by simp)) (fun b o _ e n=>u.free b o e n (by simp)) (fun b o _ e=>u.there b o e (by simp)) u.tups u.frzs u.tbls (fun m' hm=>by
  obtain⟨o',es',ep',ho',r'⟩:=hm
  rw [ho] at ho';cases ho'
  exact⟨_,es',ep',hL,r'⟩) hok I.bare
theorem Inv.call{g':Array GenState}{t':Nat}{d':Drawn}{ch:List Addr}(I:Inv X pins σ H s)(u:Un (frs X.stack) ch H H' s.heap h')(hok:HOk X.prog X.w H' h')(hg:AllBare g')
  (hch:∀ b∈ch,(b∈X.ex\/X.s₀.heap.objs.size<=b)/\b≠X.env.locals/\(∀ x c,X.env.cells.lookup x=some c->c≠b)/\∀ p∈X.pn++pins,p.1≠b) :
  Inv X pins σ H' { s with heap:=h',gens:=g',drawn:=d',toks:=t' }:=by
 obtain⟨m,⟨o,es,ep,ho,r⟩,_⟩:=id I.loc
 obtain⟨sl,hL⟩:=u.any ho I.free fun z=>(hch _ z).2.1 rfl
 exact I.step (ch:=ch) hch (fun b o hL hb hc e n=>u.keep b o e n (fun z=>(List.mem_cons.mp (I.stkSub b z)).elim hL hb) hc) (fun b o _ _ hc e n=>u.any e n hc) (fun b o hc e n=>u.free b o e n hc) (fun b o hc e=>u.there b o e hc) u.tups u.frzs u.tbls (fun m' hm=>by
  obtain⟨o',es',ep',ho',r'⟩:=hm
  rw [ho] at ho';cases ho'
  exact⟨_,es',ep',hL,r'⟩) hok hg
theorem Inv.turned{t':Nat}{it:Addr}(I:Inv X pins σ H s)(k:∀ b o,b≠it->s.heap.get? b=some o->h'.get? b=some o)(hn:H it=none)(hL:it≠X.env.locals)
  (h1:it∈X.ex\/X.s₀.heap.objs.size<=it) (h2:∀ x c,X.env.cells.lookup x=some c->c≠it) (h3:∀ p∈X.pn++pins,p.1≠it):Inv X pins σ H { s with heap:=h',toks:=t' }:=by
 have nit:∀ b u,H b=some u->b≠it:=fun b u e z=>by rw [z,hn] at e;cases e
 refine I.step (g':=s.gens) (d':=s.drawn) (ch:=[it]) (fun b hb=>?_) (fun b o _ _ hc e _=>k b o (fun z=>hc (by simp [z])) e) (fun b o _ _ hc e _=>⟨o.slots,k b o (fun z=>hc (by simp [z])) e⟩) (fun _ _ _ _ n=>n)
  (fun b o hc e=>⟨o,k b o (fun z=>hc (by simp [z])) e⟩) (fun _ _ e=>e) (fun _ _ _ e=>e) (fun b ps e=>⟨#[],by rw [e];simp⟩) (fun m hm=>?_) (fun b u e=>?_) I.bare
 ·have e:b=it:=by simpa using hb
  subst e
  exact⟨h1,hL,h2,h3⟩
 ·obtain⟨o,es,ep,ho,r⟩:=hm
  exact⟨o,es,ep,k _ o (Ne.symm hL) ho,r⟩
 ·refine(I.hok b u e).stay (fun c v hc q=>k c v ?_ q) (fun _ q=>q) fun _ _ q=>q
  rcases hc with z | z
  ·rw [z];exact nit b u e
  ·exact nit c _ z
theorem Inv.tok(I:Inv X pins σ H s)(t:Nat):Inv X pins σ H { s with toks:=t }:=I.un (h':=s.heap) (t':=t) Un.refl I.hok
theorem Inv.kept{t':Nat}(I:Inv X pins σ H s)(k:∀ b u,s.heap.get? b=some u->h'.get? b=some u):Inv X pins σ H { s with heap:=h',toks:=t' }:=I.un (Un.kept k) (I.hok.kept k)
theorem Inv.laid{a:Addr}{o:HO}{t':Nat}(I:Inv X pins σ H s)(k:∀ b u,s.heap.get? b=some u->h'.get? b=some u)(hp:s.heap.objs.size<=a)(new:ObjOk X.prog X.w (upd H a o) h' a o):
  Inv X pins σ (upd H a o) { s with heap:=h',toks:=t' }:=I.un (Un.laid k hp (I.hok.fresh hp)) (I.hok.laid k hp new)
theorem Inv.write{x e:Addr}{o:HO}{t':Nat}(I:Inv X pins σ H s)(mu:Mut (H x))(he:e=x\/H e=some (.own x))(k:∀ b u,b≠e->s.heap.get? b=some u->h'.get? b=some u)(heo:∃ u,h'.get? e=some u)
  (new:ObjOk X.prog X.w (upd H x o) h' x o):Inv X pins σ (upd H x o) { s with heap:=h',toks:=t' }:=I.un (Un.write mu he k heo) (I.hok.write mu he k heo new)
theorem Inv.pins_of{pins':List (Addr×Obj)}(I:Inv X pins σ H s)(h:∀ p∈pins',s.heap.get? p.1=some p.2/\H p.1=none/\p.1≠X.env.locals/\p.1∉X.fs/\∀ v,p.2.data ≠ .cell v):Inv X pins' σ H s :=
 ⟨I.ok,I.os,I.bare,I.base,I.loc,I.cell,I.free,I.freeC,fun p hp=>(List.mem_append.mp hp).elim (fun z=>I.pin p (List.mem_append_left _ z)) (h p),I.hok,I.len⟩
theorem nodup_ix{N:List Str}(hN:N.Nodup){i j:Nat}{x:Str}(a:N[i]?=some x)(b:N[j]?=some x):i=j:=by
 obtain⟨h1,e1⟩:=List.getElem?_eq_some_iff.mp a
 obtain⟨h2,e2⟩:=List.getElem?_eq_some_iff.mp b
 exact(List.getElem_inj hN).mp (e1.trans e2.symm)
theorem store_ok2{M:Model}{A:Around}{E:Value->Shared->Prop}{i:Nat}{x:Str}{v:V}{u:Value}{Q:Unit->Shared->Prop}(I:Inv X pins σ H s)(hN:X.N.Nodup)(hi:X.N[i]?=some x)(hx:Loc X.env.scope x)(r:RelV v u)
  (h:∀ s',Inv X pins (σ.set i (some v)) H s'->(∃ a,Heap.SameBut a s.heap s'.heap/\(a=X.env.locals\/X.env.cells.lookup x=some a))->Q () s') (hf:X.fn x=true\/X.env.scope.names.lookup x=some .local:=by first | exact .inl rfl | exact .inr rfl | assumption):wpAny M A (storeName X.env x u) Q E s:=by
 obtain⟨m,hn,hl⟩:=id I.loc
 have hcls:(X.env.scope.kind == .class || (X.env.scope.kind == .module && X.env.locals != X.env.globals))=false:=by rw [I.ok.kind];rfl
 have hiσ:i<σ.length:=by rw [I.len];exact(List.getElem?_eq_some_iff.mp hi).1
 have cne:=I.cne
 have tracked:∀{a:Addr} {h':Heap},(∃ o,s.heap.get? a=some o/\H a=none)->Heap.SameBut a s.heap h'->HOk X.prog X.w H h':=fun{a h'} ha hs b ob e=>by
  obtain⟨_,_,hfree⟩:=ha
  refine(I.hok b ob e).stay (fun c w' hc q=>(hs.2 c ?_).trans q) (fun _ q=>q) fun _ _ q=>q
  rintro rfl
  rcases hc with rfl | hc
  ·rw [hfree] at e;cases e
  ·rw [hfree] at hc;cases hc
 rcases hx with hk | hk
 ·refine wpAny_storeName_local hk hn (fun h' hn' hs=>?_) hcls
  obtain⟨oL,_,_,hoL,_⟩:=id hn
  refine h _ ⟨I.ok,I.os,I.bare,⟨fun b o e n hb hx=>?_,fun b o e n hb hx=>?_,I.base.free,fun b o e hx=>?_,I.base.tups,I.base.frzs,I.base.tbls⟩,⟨_,hn',fun j y v' e1 e2 e3=>?_⟩,fun y c e=>?_,I.free,I.freeC,fun p hp=>?_,tracked ⟨oL,hoL,I.free⟩ hs,by simpa using I.len⟩ ⟨_,hs,.inl rfl⟩
  ·exact(hs.2 b (Nat.ne_of_lt (Nat.lt_of_lt_of_le (Heap.lt_size e) I.ok.above))).trans (I.base.keep b o e n hb hx)
  ·obtain⟨sl,e1⟩:=I.base.slot b o e n hb hx
   exact⟨sl,(hs.2 b (Nat.ne_of_lt (Nat.lt_of_lt_of_le (Heap.lt_size e) I.ok.above))).trans e1⟩
  ·obtain⟨o',e1⟩:=I.base.there b o e hx
   exact⟨o',(hs.2 b (Nat.ne_of_lt (Nat.lt_of_lt_of_le (Heap.lt_size e) I.ok.above))).trans e1⟩
  ·by_cases hj:j=i
   ·subst hj
    rw [hi] at e1;cases e1
    rw [List.getElem?_set_self hiσ] at e2
    cases e2
    exact⟨u,r,.inl ⟨hk,by simp⟩⟩
   ·rw [List.getElem?_set_ne (Ne.symm hj)] at e2
    obtain⟨u',r',q⟩:=hl j y v' e1 e2 e3
    refine⟨u',r',?_⟩
    rcases q with⟨k,e⟩ | ⟨k,c,e,z⟩
    ·refine .inl ⟨k,?_⟩
     have:y≠x:=fun e=>hj (nodup_ix hN e1 (e ▸ hi))
     simp [this,e]
    ·exact .inr ⟨k,c,e,z.sameBut hs (cne y c e)⟩
  ·obtain⟨w',z⟩:=I.cell y c e
   exact⟨w',z.sameBut hs (cne y c e)⟩
  ·obtain⟨e,n,ne,nf,d⟩:=I.pin p hp
   exact⟨(hs.2 p.1 ne).trans e,n,ne,nf,d⟩
 ·have hfn:X.fn x=true:=by
   rcases hf with z | z
   ·exact z
   ·rw [z] at hk;cases hk
  obtain⟨c,hc⟩:=I.ok.has x (.inl hk)
  obtain⟨w',z⟩:=I.cell x c hc
  refine wpAny_storeName_cell I.ok.kind hk hc z (fun h' hc' hs=>?_)
  obtain⟨oc,hoc,hocd⟩:=id z
  refine h { s with heap:=h' } ⟨I.ok,I.os,I.bare,⟨fun b o e n hb hx=>?_,fun b o e n hb hx=>?_,I.base.free,fun b o e hx=>?_,I.base.tups,I.base.frzs,I.base.tbls⟩,⟨m,hn.sameBut hs (Ne.symm (cne x c hc)),fun j y v' e1 e2 e3=>?_⟩,fun y c' e=>?_,I.free,I.freeC,fun p hp=>?_,tracked ⟨oc,hoc,I.freeC x c hc⟩ hs,by simpa using I.len⟩ ⟨c,hs,.inr hc⟩
  ·exact(hs.2 b (Nat.ne_of_lt (Nat.lt_of_lt_of_le (Heap.lt_size e) (I.ok.cab x c hfn hc)))).trans (I.base.keep b o e n hb hx)
  ·obtain⟨sl,e1⟩:=I.base.slot b o e n hb hx
   exact⟨sl,(hs.2 b (Nat.ne_of_lt (Nat.lt_of_lt_of_le (Heap.lt_size e) (I.ok.cab x c hfn hc)))).trans e1⟩
  ·obtain⟨o',e1⟩:=I.base.there b o e hx
   exact⟨o',(hs.2 b (Nat.ne_of_lt (Nat.lt_of_lt_of_le (Heap.lt_size e) (I.ok.cab x c hfn hc)))).trans e1⟩
  ·by_cases hj:j=i
   ·subst hj
    rw [hi] at e1;cases e1
    rw [List.getElem?_set_self hiσ] at e2
    cases e2
    exact⟨u,r,.inr ⟨.inl hk,c,hc,hc'⟩⟩
   ·rw [List.getElem?_set_ne (Ne.symm hj)] at e2
    obtain⟨u',r',q⟩:=hl j y v' e1 e2 e3
    refine⟨u',r',?_⟩
    rcases q with q | ⟨k,c',e,z'⟩
    ·exact .inl q
    ·refine .inr ⟨k,c',e,z'.sameBut hs ?_⟩
     rintro rfl
     exact hj (nodup_ix hN e1 (I.ok.inj _ _ _ e hc ▸ hi))
  ·by_cases hcc:c'=c
   ·subst hcc;exact⟨_,hc'⟩
   ·obtain⟨w2,z2⟩:=I.cell y c' e
    exact⟨w2,z2.sameBut hs hcc⟩
  ·obtain⟨e,n,ne,nf,d⟩:=I.pin p hp
   refine⟨(hs.2 p.1 ?_).trans e,n,ne,nf,d⟩
   intro q
   rw [q,hoc] at e
   have q':oc=p.2:=Option.some.inj e
   exact d w' (by rw [<-q'];exact hocd)
theorem store_ok{M:Model}{A:Around}{E:Value->Shared->Prop}{i:Nat}{x:Str}{v:V}{u:Value}{Q:Unit->Shared->Prop}(I:Inv X pins σ H s)(hN:X.N.Nodup)(hi:X.N[i]?=some x)(hx:Loc X.env.scope x)(r:RelV v u)
  (h:∀ s',Inv X pins (σ.set i (some v)) H s'->Q () s') (hf:X.fn x=true\/X.env.scope.names.lookup x=some .local:=by first | exact .inl rfl | exact .inr rfl | assumption):wpAny M A (storeName X.env x u) Q E s :=
 store_ok2 I hN hi hx r (fun s' I' _=>h s' I') hf
theorem Inv.call'{s':Shared}{ch:List Addr}(I:Inv X pins σ H s)(ho:s'.os=s.os)(u:Un (frs X.stack) ch H H' s.heap s'.heap)(hok:HOk X.prog X.w H' s'.heap)(hg:AllBare s'.gens)
  (hch:∀ b∈ch,(b∈X.ex\/X.s₀.heap.objs.size<=b)/\b≠X.env.locals/\(∀ x c,X.env.cells.lookup x=some c->c≠b)/\∀ p∈X.pn++pins,p.1≠b):Inv X pins σ H' s':=by
 obtain⟨h',g',d',t',o'⟩:=s'
 have e:o'=s.os:=ho
 subst e
 exact I.call (g':=g') (t':=t') (d':=d') u hok hg hch
end
abbrev XK:=Value->Option Addr->Hp->Prop
abbrev St:=List (Option V)
abbrev VK:=V->Hp->Prop
abbrev TE:=St->Hp->VK->Prop
abbrev TT:=St->Hp->(Bool->Hp->Prop)->Prop
abbrev TA:=St->Hp->(List V->Hp->Prop)->Prop
structure Ends where
 nx:St->Hp->Prop
 rt:VK
 bk:St->Hp->Prop:=fun _ _=>False
 ct:St->Hp->Prop:=fun _ _=>False
abbrev TS:=Ends->St->Hp->Prop
def EP(X:Cx)(pins:List (Addr×Obj))(σ:St)(Q:VK)(u:Value)(s':Shared):Prop:=∃ v H',Inv X pins σ H' s'/\RelV v u/\Q v H'
def TP(X:Cx)(pins:List (Addr×Obj))(σ:St)(Q:Bool->Hp->Prop)(b:Bool)(s':Shared):Prop:=∃ H',Inv X pins σ H' s'/\Q b H'
def AP(X:Cx)(pins:List (Addr×Obj))(σ:St)(Q:List V->Hp->Prop)(us:List Value)(s':Shared):Prop:=∃ vs H',Inv X pins σ H' s'/\Vals vs us/\Q vs H'
def SP(X:Cx)(pins:List (Addr×Obj))(D:Ends)(f:Flow)(s':Shared):Prop :=
 match f with
 | .next=>∃ σ' H',Inv X pins σ' H' s'/\D.nx σ' H'
 | .brk=>∃ σ' H',Inv X pins σ' H' s'/\D.bk σ' H'
 | .cont=>∃ σ' H',Inv X pins σ' H' s'/\D.ct σ' H'
 | .ret u=>∃ v σ' H',Inv X pins σ' H' s'/\RelV v u/\D.rt v H'
def PE(X:Cx)(e:Expr)(t:TE):Prop :=
 ∀(pins:List (Addr×Obj)) (s:Shared) (σ:St) (H:Hp) (Q:VK),Inv X pins σ H s->t σ H Q->wpAny (model X.prog X.w) X.A (eval e X.env) (EP X pins σ Q) X.xe s
def PT(X:Cx)(e:Expr)(t:TT):Prop :=
 ∀(pins:List (Addr×Obj)) (s:Shared) (σ:St) (H:Hp) (Q:Bool->Hp->Prop),Inv X pins σ H s->t σ H Q->wpAny (model X.prog X.w) X.A (isTrue e X.env (eval e X.env)) (TP X pins σ Q) X.xe s
def PW(X:Cx)(e:Expr)(t:TT):Prop :=
 ∀(whole:Sem Value) (pins:List (Addr×Obj)) (s:Shared) (σ:St) (H:Hp) (Q:Bool->Hp->Prop),Inv X pins σ H s->t σ H Q->wpAny (model X.prog X.w) X.A (isTrue e X.env whole) (TP X pins σ Q) X.xe s
theorem PW.pt{X:Cx}{e:Expr}{t:TT}(h:PW X e t):PT X e t:=h _
def PA(X:Cx)(es:List Expr)(t:TA):Prop :=
 ∀(pos:Pos) (pins:List (Addr×Obj)) (s:Shared) (σ:St) (H:Hp) (Q:List V->Hp->Prop),Inv X pins σ H s->t σ H Q->wpAny (model X.prog X.w) X.A (spliced (backTo pos (starEach es X.env))) (AP X pins σ Q) X.xe s
def PS(X:Cx)(st:Stmt)(t:TS):Prop :=
 ∀(pins:List (Addr×Obj)) (s:Shared) (σ:St) (H:Hp) (D:Ends),Inv X pins σ H s->t D σ H->wpAny (model X.prog X.w) X.A (exec st X.env) (SP X pins D) X.xe s
def PSs(X:Cx)(st:List Stmt)(t:TS):Prop :=
 ∀(pins:List (Addr×Obj)) (s:Shared) (σ:St) (H:Hp) (D:Ends),Inv X pins σ H s->t D σ H->wpAny (model X.prog X.w) X.A (execs st X.env) (SP X pins D) X.xe s
theorem thn{α:Type}{t:Sem α}{Q Q':α->Shared->Prop}{M:Model}{A:Around}{E:Value->Shared->Prop}{s:Shared}(h:wpAny M A t Q E s)(hQ:∀ a s,Q a s->Q' a s):wpAny M A t Q' E s:=wpAny_mono h hQ fun _ _ x=>x
section
variable {X:Cx}
def tVar(i:Nat):TE:=fun σ H Q=>∃ v,σ[i]?=some (some v)/\Q v H
def tC(v:V):TE:=fun _ H Q=>Q v H
theorem pe_var{i:Nat}{x:Str}{pos:Pos}(hN:X.N[i]?=some x)(hv:Vis X.env.scope x)(hd:(x == ("__debug__" : Str))=false:=by decide)(hcd:(x == ("__classdict__" : Str))=false:=by decide):PE X (.Name x pos) (tVar i):=by
 intro pins s σ H Q I h
 obtain⟨v,e,h⟩:=h
 obtain⟨m,hn,hl⟩:=I.loc
 obtain⟨u,r,l⟩:=hl i x v hN e hv
 have fin:EP X pins σ Q u s:=⟨v,H,I,r,h⟩
 rcases l with⟨hk,hm⟩ | ⟨hk,c,hc,hcell⟩
 ·exact wpAny_Name (wpAny_loadName_local I.ok.kind hk hn hm fin) hd
 ·rcases hk with hk | hk
  ·exact wpAny_Name (wpAny_loadName_cell I.ok.kind hk hc hcell fin) hd
  ·exact wpAny_Name (wpAny_loadName_free I.ok.kind hk hc hcell fin hcd) hd
theorem pe_int{i j pos}:PE X (.Constant (.int i) j pos) (tC (.int i)):=fun _ _ _ H _ I h=>wpAny_Constant_int ⟨.int i,H,I.tok _,⟨_,rfl⟩,h⟩
theorem pe_bl{b j pos}:PE X (.Constant (.bool b) j pos) (tC (.bl b)):=fun _ _ _ H _ I h=>Constant_bool ⟨.bl b,H,I,rfl,h⟩
def Gl(X:Cx)(x:Str):Prop:=X.env.kindOf x=some .globalImplicit
theorem ld_glob{E:Value->Shared->Prop}{pins:List (Addr×Obj)}{s:Shared}{σ:St}{H:Hp}{x:Str}{u:Value}{pos:Pos}{Q:Value->Shared->Prop}(I:Inv X pins σ H s)(hg:Gl X x)(hm:X.mg x=some u)(h:Q u s)
  (hd:(x == ("__debug__" : Str))=false:=by decide):wpAny (model X.prog X.w) X.A (eval (.Name x pos) X.env) Q E s :=
 Calls.Name_function_global I.ok.kind hg (Calls.loadGlobal_global (by rw [I.ok.glob];exact I.mod.glob.keeps I.bk) hm h) hd
theorem ld_blt{E:Value->Shared->Prop}{pins:List (Addr×Obj)}{s:Shared}{σ:St}{H:Hp}{x:Str}{u:Value}{pos:Pos}{Q:Value->Shared->Prop}(I:Inv X pins σ H s)(hg:Gl X x)(hm:X.mg x=none)(hv:bootBuiltins x=some u)(h:Q u s)
  (hn:x ≠ "__name__" := by decide) (hd:(x == ("__debug__" : Str))=false:=by decide):wpAny (model X.prog X.w) X.A (eval (.Name x pos) X.env) Q E s:=by
 obtain⟨mb,h1,h2⟩:=I.mod.blt
 exact Calls.Name_function_global I.ok.kind hg (Calls.loadGlobal_builtin (by rw [I.ok.glob];exact I.mod.glob.keeps I.bk) hm (by rw [I.ok.blt];exact h1.keeps I.bk) ((h2 x hn).trans hv) h) hd
theorem pe_bltn{x:Str}{v:V}{u:Value}{pos:Pos}(hg:Gl X x)(hm:X.mg x=none)(hv:bootBuiltins x=some u)(r:RelV v u)(hn:x ≠ "__name__" := by decide)(hd:(x == ("__debug__" : Str))=false:=by decide):PE X (.Name x pos) (tC v) :=
 fun _ _ _ H _ I h=>ld_blt I hg hm hv ⟨v,H,I,r,h⟩ hn hd
variable {a b:Expr}{ta tb:TE}{pos:Pos}
variable {tA tB':TT}{rest:List Expr}
def tAnd(t u:TT):TT:=fun σ H Q=>t σ H fun c H1=>if c=true then u σ H1 Q else Q false H1
theorem pw_and1(ha:PT X a tA):PW X (.BoolOp .And [a] pos) tA:=by
 intro wh pins s σ H Q I h
 refine isTrue_and (thn (ha pins s σ H Q I h) fun c s1 e=>?_)
 cases c with
 | true=>exact isTrue_and_nil e
 | false=>exact e
theorem pw_and(ha:PT X a tA)(hb:PW X (.BoolOp .And (b::rest) pos) tB'):PW X (.BoolOp .And (a::b::rest) pos) (tAnd tA tB'):=by
 intro wh pins s σ H Q I h
 refine isTrue_and (thn (ha pins s σ H _ I h) fun c s1 ⟨H1,I1,q1⟩=>?_)
 cases c with
 | true=>exact hb wh pins s1 σ H1 Q I1 q1
 | false=>exact⟨H1,I1,q1⟩
def tNotV(ta:TE):TE:=fun σ H Q=>ta σ H fun x H1=>∃ c,x=.bl c/\Q (.bl (!c)) H1
theorem pe_not(ha:PE X a ta):PE X (.UnaryOp .Not a pos) (tNotV ta):=by
 intro pins s σ H Q I h
 refine UnaryOp_ (thn (ha pins s σ H _ I h) fun v s1 ⟨x,H1,I1,r1,q1⟩=>?_)
 obtain⟨c,rfl,q1⟩:=q1
 cases r1
 exact not_of (wpAny_truthy_bool ⟨.bl (!c),H1,I1,rfl,q1⟩)
def tIf(t:TT)(ta tb:TE):TE:=fun σ H Q=>t σ H fun c H1=>if c=true then ta σ H1 Q else tb σ H1 Q
theorem pe_ifExp{c:Expr}(hc:PT X c tA)(ha:PE X a ta)(hb:PE X b tb):PE X (.IfExp c a b pos) (tIf tA ta tb):=by
 intro pins s σ H Q I h
 refine wpAny_IfExp (thn (hc pins s σ H _ I h) fun d s1 ⟨H1,I1,q1⟩=>?_)
 cases d with
 | true=>exact ha pins s1 σ H1 Q I1 q1
 | false=>exact hb pins s1 σ H1 Q I1 q1
end
def SqL(K:PySem.W.Frag)(H:Hp)(a:Addr)(xs:List V):Prop :=
 Rd H a (.lst xs) \/
  ∃(o:Obj) (its:Array Value) (n:Nat),K.lookup a=some o/\o.cls=.type "list" /\ o.dict=none/\o.data=.seq its n/\its.size<=sizeLine/\Vals xs its.toList
def SqT(K:PySem.W.Frag)(H:Hp)(a:Addr)(xs:List V):Prop :=
 Rd H a (.tup xs) \/
  ∃(o:Obj) (its:Array Value) (n:Nat),K.lookup a=some o/\o.cls=.type "tuple" /\ o.dict=none/\o.data=.seq its n/\its.size<=sizeLine/\Vals xs its.toList
def absV:Value->Option V
 | .none=>some .non
 | .bool b=>some (.bl b)
 | .int i _=>some (.int i)
 | .str x _=>some (.str x)
 | .bytes b _=>some (.byt b)
 | .float b _=>some (.flt b)
 | .ref a=>some (.ref a)
 | .type n=>some (.ty n)
 | _=>none
theorem RelV.abs{x:V}{u:Value}(r:RelV x u):absV u=some x:=by
 cases x with
 | non=>cases r;rfl
 | bl _=>cases r;rfl
 | int _=>obtain⟨t,rfl⟩:=r;rfl
 | str _=>obtain⟨t,rfl⟩:=r;rfl
 | byt _=>obtain⟨t,rfl⟩:=r;rfl
 | flt _=>obtain⟨t,rfl⟩:=r;rfl
 | ref _=>cases r;rfl
 | ty _=>cases r;rfl
theorem RelV.inj{x y:V}{u:Value}(r:RelV x u)(q:RelV y u):x=y:=Option.some.inj (r.abs.symm.trans q.abs)
theorem Vals.inj:∀{xs ys:List V} {us:List Value},Vals xs us->Vals ys us->xs=ys
 | _,_,_,.nil,.nil=>rfl
 | _,_,_,.cons r t,.cons r' t'=>by rw [r.inj r',Vals.inj t t']
section
variable {X:Cx}{pins:List (Addr×Obj)}{σ:St}{H:Hp}{s:Shared}{a:Addr}{xs ys:List V}
theorem SqL.of{K:PySem.W.Frag}(h:H a=some (.lst xs)):SqL K H a xs:=.inl (.inl h)
theorem SqT.of{K:PySem.W.Frag}(h:H a=some (.tup xs)):SqT K H a xs:=.inl (.inl h)
theorem Inv.list(I:Inv X pins σ H s)(h:SqL X.K H a xs):∃ its:List Value,Vals xs its/\PlainL s.heap a its.toArray/\xs.length<=sizeLine:=by
 rcases h with h | ⟨o,its,n,hk,hc,hd,hs,hz,r⟩
 ·obtain⟨z,its,n,r,e⟩:=h.ok I.hok
  exact⟨its,r,⟨_,n,e,rfl,rfl,rfl⟩,z⟩
 ·refine⟨its.toList,r,⟨o,n,I.kIn a o hk,hc,hd,by simpa using hs⟩,?_⟩
  have e:=r.length
  simp only [Array.length_toList] at e
  omega
theorem Inv.tupleD(I:Inv X pins σ H s)(h:SqT X.K H a xs):∃ its:List Value,Vals xs its/\TupD s.heap a its.toArray/\xs.length<=sizeLine:=by
 rcases h with h | ⟨o,its,n,hk,hc,hd,hs,hz,r⟩
 ·obtain⟨z,its,r,p⟩:=h.ok I.hok
  exact⟨its,r,p,z⟩
 ·refine⟨its.toList,r,⟨o,I.kIn a o hk,hc,⟨n,by simpa using hs⟩,hd⟩,?_⟩
  have e:=r.length
  simp only [Array.length_toList] at e
  omega
theorem Inv.tuple(I:Inv X pins σ H s)(h:SqT X.K H a xs):∃ its:List Value,Vals xs its/\IsTup s.heap a its.toArray/\xs.length<=sizeLine:=by
 obtain⟨its,r,p,z⟩:=I.tupleD h
 exact⟨its,r,p.isTup,z⟩
theorem Inv.list_inj(I:Inv X pins σ H s)(h:SqL X.K H a xs)(h':SqL X.K H a ys):xs=ys:=by
 obtain⟨its,r,⟨o,n,e,_,_,d⟩,_⟩:=I.list h
 obtain⟨its',r',⟨o',n',e',_,_,d'⟩,_⟩:=I.list h'
 rw [e] at e';cases e'
 rw [d] at d'
 injection d' with d1 _
 have:its=its':=by simpa using congrArg Array.toList d1
 subst this
 exact r.inj r'
theorem Inv.tuple_inj(I:Inv X pins σ H s)(h:SqT X.K H a xs)(h':SqT X.K H a ys):xs=ys:=by
 obtain⟨its,r,⟨o,e,_,n,d⟩,_⟩:=I.tuple h
 obtain⟨its',r',⟨o',e',_,n',d'⟩,_⟩:=I.tuple h'
 rw [e] at e';cases e'
 rw [d] at d'
 injection d' with d1 _
 have:its=its':=by simpa using congrArg Array.toList d1
 subst this
 exact r.inj r'
end
abbrev Cx.wish(X:Cx)(E:Value->Shared->Prop):Cx:={ X with xe:=E }
abbrev Cx.nox(X:Cx):Cx:=X.wish fun _ _=>False
theorem Cx.Ok.wish{X:Cx}(ok:X.Ok)(E:Value->Shared->Prop):(X.wish E).Ok :=
 ⟨ok.mod,ok.kind,ok.glob,ok.blt,ok.above,ok.inj,ok.has,ok.cab,ok.hd,ok.frames,ok.stk,ok.exf,ok.bs,ok.bsz,ok.noex,ok.exfs,ok.funs,ok.frf⟩
theorem Cx.Ok.unwish{X:Cx}{E:Value->Shared->Prop}(ok:(X.wish E).Ok):X.Ok :=
 ⟨ok.mod,ok.kind,ok.glob,ok.blt,ok.above,ok.inj,ok.has,ok.cab,ok.hd,ok.frames,ok.stk,ok.exf,ok.bs,ok.bsz,ok.noex,ok.exfs,ok.funs,ok.frf⟩
section
variable {X:Cx}{pins:List (Addr×Obj)}{σ:St}{H:Hp}{s:Shared}{E:Value->Shared->Prop}
theorem Inv.wish(I:Inv X pins σ H s)(E:Value->Shared->Prop):Inv (X.wish E) pins σ H s:=⟨I.ok.wish E,I.os,I.bare,I.base,I.loc,I.cell,I.free,I.freeC,I.pin,I.hok,I.len⟩
theorem Inv.unwish(I:Inv (X.wish E) pins σ H s):Inv X pins σ H s:=⟨I.ok.unwish,I.os,I.bare,I.base,I.loc,I.cell,I.free,I.freeC,I.pin,I.hok,I.len⟩
theorem SP.unwish{D:Ends}{f:Flow}{s':Shared}(h:SP (X.wish E) pins D f s'):SP X pins D f s':=by
 cases f with
 | next=>obtain⟨σ',H',I,q⟩:=h;exact⟨σ',H',I.unwish,q⟩
 | brk=>obtain⟨σ',H',I,q⟩:=h;exact⟨σ',H',I.unwish,q⟩
 | cont=>obtain⟨σ',H',I,q⟩:=h;exact⟨σ',H',I.unwish,q⟩
 | ret u=>obtain⟨v,σ',H',I,r,q⟩:=h;exact⟨v,σ',H',I.unwish,r,q⟩
theorem PE.nox{e:Expr}{t:TE}(h:PE X.nox e t):PE X e t:=fun pins s σ H Q I hw =>
 wpAny_mono (h pins s σ H Q (I.wish _) hw) (fun _ _ ⟨v,H',I',r,q⟩=>⟨v,H',I'.unwish,r,q⟩) fun _ _ z=>False.elim z
theorem PSs.nox{st:List Stmt}{t:TS}(h:PSs X.nox st t):PSs X st t:=fun pins s σ H D I hw =>
 wpAny_mono (h pins s σ H D (I.wish _) hw) (fun _ _ q=>q.unwish) fun _ _ z=>False.elim z
end
section
variable {X:Cx}{st:Stmt}{rest:List Stmt}{t u:TS}{e:Expr}{te:TE}{pos:Pos}
def tNext:TS:=fun D σ H=>D.nx σ H
def tSeq(t u:TS):TS:=fun D σ H=>t { D with nx:=u D } σ H
theorem pss_nil:PSs X [] tNext:=fun _ _ σ H _ I h=>wpAny_execs_nil ⟨σ,H,I,h⟩
theorem pss_cons(h1:PS X st t)(h2:PSs X rest u):PSs X (st::rest) (tSeq t u):=by
 intro pins s σ H D I h
 refine wpAny_execs_cons (thn (h1 pins s σ H { D with nx:=u D } I h) fun f s1 q=>?_)
 cases f with
 | next =>
  obtain⟨σ',H',I',q⟩:=q
  exact h2 pins s1 σ' H' D I' q
 | ret v=>exact q
 | brk=>exact q
 | cont=>exact q
theorem pss_one(h1:PS X st t):PSs X [st] t:=by
 intro pins s σ H D I h
 refine wpAny_execs_cons (thn (h1 pins s σ H D I h) fun f s1 q=>?_)
 cases f with
 | next=>exact wpAny_execs_nil q
 | ret v=>exact q
 | brk=>exact q
 | cont=>exact q
theorem Inv.quiet{pins:List (Addr×Obj)}{σ:St}{H:Hp}{s:Shared}(I:Inv X pins σ H s):interactive X.env=false:=by simp [interactive,I.ok.kind]
def tDrop(te:TE):TS:=fun D σ H=>te σ H fun _ H1=>D.nx σ H1
theorem ps_expr(he:PE X e te)(hs:swapsWith e none pos.line X.env=pure false:=by rfl):PS X (.Expr e pos) (tDrop te):=by
 intro pins s σ H D I h
 exact wpAny_Expr_any (thn (he pins s σ H _ I h) fun v s1 ⟨x,H1,I1,r1,q1⟩=>⟨σ,H1,I1,q1⟩) I.quiet hs
def tRet(te:TE):TS:=fun D σ H=>te σ H D.rt
theorem ps_ret(he:PE X e te):PS X (.Return (some e) pos) (tRet te):=by
 intro pins s σ H D I h
 exact wpAny_Return_some (thn (he pins s σ H _ I h) fun v s1 ⟨x,H1,I1,r1,q1⟩=>⟨x,σ,H1,I1,r1,q1⟩)
def tIfS(c:TT)(t u:TS):TS:=fun D σ H=>c σ H fun b H1=>if b=true then t D σ H1 else u D σ H1
theorem ps_if{c:Expr}{a b:List Stmt}{tc:TT}(hc:PT X c tc)(ha:PSs X a t)(hb:PSs X b u):PS X (.If c a b pos) (tIfS tc t u):=by
 intro pins s σ H D I h
 refine wpAny_If (thn (hc pins s σ H _ I h) fun d s1 ⟨H1,I1,q1⟩=>?_)
 cases d with
 | true=>exact ha pins s1 σ H1 D I1 q1
 | false=>exact hb pins s1 σ H1 D I1 q1
end
abbrev TG:=V->St->Hp->(St->Hp->Prop)->Prop
abbrev TGs:=List V->St->Hp->(St->Hp->Prop)->Prop
def PG(X:Cx)(target:Expr)(t:TG):Prop :=
 ∀(pins:List (Addr×Obj)) (s:Shared) (σ:St) (H:Hp) (v:V) (u:Value) (Q:St->Hp->Prop),Inv X pins σ H s->RelV v u->t v σ H Q ->
  wpAny (model X.prog X.w) X.A (assign target X.env u) (fun _ s'=>∃ σ' H',Inv X pins σ' H' s'/\Q σ' H') X.xe s
def PGs(X:Cx)(ts:List Expr)(t:TGs):Prop :=
 ∀(pins:List (Addr×Obj)) (s:Shared) (σ:St) (H:Hp) (vs:List V) (us:List Value) (Q:St->Hp->Prop),Inv X pins σ H s->Vals vs us->t vs σ H Q ->
  wpAny (model X.prog X.w) X.A (assignInOrder ((assignEach ts X.env).map (·.2)) us) (fun _ s'=>∃ σ' H',Inv X pins σ' H' s'/\Q σ' H') X.xe s
abbrev TSet:=V->V->V->Hp->(Hp->Prop)->Prop
def PSet(X:Cx)(t:TSet):Prop :=
 ∀(pins:List (Addr×Obj)) (s:Shared) (σ:St) (H:Hp) (o i v:V) (ov iv u:Value) (Q:Hp->Prop),Inv X pins σ H s->RelV o ov->RelV i iv->RelV v u->t o i v H Q ->
  wpAny (model X.prog X.w) X.A (setItem ov iv u) (fun _ s'=>∃ H',Inv X pins σ H' s'/\Q H') X.xe s
abbrev TIp:=V->V->Hp->VK->Prop
def PIp(X:Cx)(op:Operator)(t:TIp):Prop :=
 ∀(pins:List (Addr×Obj)) (s:Shared) (σ:St) (H:Hp) (x y:V) (v u:Value) (Q:VK),Inv X pins σ H s->RelV x v->RelV y u->t x y H Q ->
  wpAny (model X.prog X.w) X.A (inplaceOp op v u) (EP X pins σ Q) X.xe s
section
variable {X:Cx}{pos:Pos}
def gName(i:Nat):TG:=fun v σ H Q=>Q (σ.set i (some v)) H
def gSub(to ti:TE)(t:TSet):TG:=fun v σ H Q=>to σ H fun o H1=>ti σ H1 fun i H2=>t o i v H2 fun H3=>Q σ H3
theorem pg_sub{o i:Expr}{to ti:TE}{t:TSet}(ho:PE X o to)(hi:PE X i ti)(hs:PSet X t)
  (ha:∀ v,assign (.Subscript o i pos) X.env v=(do
   let ov <-holding [v] (eval o X.env)
   let iv <-holding [v,ov] (eval i X.env)
   standAt pos
   holding [v,ov,iv] (setItem ov iv v)
   release [v,ov,iv] []):=by intro _;rfl):PG X (.Subscript o i pos) (gSub to ti t):=by
 intro pins s σ H v u Q I r h
 rw [ha]
 refine wpAny_bind (wpAny_holding (thn (ho pins s σ H _ I h) fun ov s1 ⟨x,H1,I1,r1,q1⟩=>?_))
 refine wpAny_bind (wpAny_holding (thn (hi pins s1 σ H1 _ I1 q1) fun iv s2 ⟨y,H2,I2,r2,q2⟩=>?_))
 refine wpAny_bind (wpAny_standAt (wpAny_bind (wpAny_holding (thn (hs pins s2 σ H2 x y v ov iv u _ I2 r1 r2 r q2) fun _ s3 ⟨H3,I3,q3⟩=>?_))))
 exact wpAny_release ⟨σ,H3,I3,q3⟩
def tAsg(te:TE)(g:TG):TS:=fun D σ H=>te σ H fun x H1=>g x σ H1 D.nx
theorem ps_asg{tg e:Expr}{te:TE}{g:TG}(he:PE X e te)(hg:PG X tg g)(hs:swapsWithSole [tg] e pos.line X.env=pure false:=by rfl)(hw:swappedStores [tg] e X.env=pure none:=by rfl)
  (h1:(assignEach [tg] X.env).map (·.2) = [assign tg X.env]:=by rfl):PS X (.Assign [tg] e pos) (tAsg te g):=by
 intro pins s σ H D I h
 refine wpAny_Assign_stores (thn (he pins s σ H _ I h) fun v s1 ⟨x,H1,I1,r1,q1⟩=>?_) hs hw
 rw [h1]
 exact thn (hg pins s1 σ H1 x v _ I1 r1 q1) fun _ s2 q=>q
theorem ps_set{i:Nat}{x:Str}{e:Expr}{te:TE}{pos':Pos}(hN:X.N.Nodup)(hi:X.N[i]?=some x)(hx:Loc X.env.scope x)(he:PE X e te)(hs:swapsWith e (some (.Name x pos')) pos.line X.env=pure false:=by rfl)(hf:X.fn x=true\/X.env.scope.names.lookup x=some .local:=by first | exact .inl rfl | exact .inr rfl | assumption):
  PS X (.Assign [.Name x pos'] e pos) (tAsg te (gName i)):=by
 intro pins s σ H D I h
 refine wpAny_Assign_Name (thn (he pins s σ H _ I h) fun v s1 ⟨y,H1,I1,r1,q1⟩=>?_) hs
 exact store_ok I1 hN hi hx r1 (fun s2 I2=>⟨_,H1,I2,q1⟩) hf
def tAug(i:Nat)(te:TE)(ti:TIp):TS:=fun D σ H=>∃ x,σ[i]?=some (some x)/\te σ H fun y H1=>ti x y H1 fun z H2=>D.nx (σ.set i (some z)) H2
theorem ps_aug{i:Nat}{x:Str}{e:Expr}{te:TE}{op:Operator}{ti:TIp}{pos':Pos}(hN:X.N.Nodup)(hi:X.N[i]?=some x)(hx:Loc X.env.scope x)(he:PE X e te)(ho:PIp X op ti)(hf:X.fn x=true\/X.env.scope.names.lookup x=some .local:=by first | exact .inl rfl | exact .inr rfl | assumption):
  PS X (.AugAssign (.Name x pos') op e pos) (tAug i te ti):=by
 intro pins s σ H D I h
 obtain⟨v,e1,h⟩:=h
 obtain⟨m,hn,hl⟩:=I.loc
 have vis:Vis X.env.scope x:=by rcases hx with k | k;exact .inl k;exact .inr (.inl k)
 obtain⟨u,r,l⟩:=hl i x v hi e1 vis
 refine wpAny_AugAssign_Name ?_
 have go:wpAny (model X.prog X.w) X.A (eval e X.env) (fun w s₂=>wpAny (model X.prog X.w) X.A (inplaceOp op u w) (fun r s₃=>wpAny (model X.prog X.w) X.A (storeName X.env x r) (fun _=>SP X pins D .next) X.xe s₃) X.xe s₂) X.xe s:=by
  refine thn (he pins s σ H _ I h) fun w s1 ⟨y,H1,I1,r1,q1⟩=>?_
  refine thn (ho pins s1 σ H1 v y u w _ I1 r r1 q1) fun z s2 ⟨zv,H2,I2,r2,q2⟩=>?_
  exact store_ok I2 hN hi hx r2 (fun s3 I3=>⟨_,H2,I3,q2⟩) hf
 rcases l with⟨hk,hm⟩ | ⟨hk,c,hc,hcell⟩
 ·exact wpAny_loadName_local I.ok.kind hk hn hm go
 ·rcases hk with hk | hk
  ·exact wpAny_loadName_cell I.ok.kind hk hc hcell go
  ·rcases hx with k | k
   ·have:X.env.scope.names.lookup x=some .free:=hk
    rw [k] at this;cases this
   ·have:X.env.scope.names.lookup x=some .free:=hk
    rw [k] at this;cases this
end
section
variable {X:Cx}{pos:Pos}
end
structure It where
 go:Nat->Hp->Prop
 yld:Nat->Hp->V->Hp->Prop
 stop:Nat->Hp->Prop
def FpOk(X:Cx)(pins:List (Addr×Obj))(H:Hp)(b:Addr):Prop :=
 H b=none/\b≠X.env.locals/\b∉X.fs/\(b∈X.ex\/X.s₀.heap.objs.size<=b)/\(∀ x c,X.env.cells.lookup x=some c->c≠b)/\∀ p∈X.pn++pins,p.1≠b
theorem Inv.fpOk{X:Cx}{pins:List (Addr×Obj)}{σ:St}{H H':Hp}{s:Shared}{b:Addr}(I:Inv X pins σ H s)(hb:s.heap.objs.size<=b)(hn:H' b=none):FpOk X pins H' b:=by
 refine⟨hn,Nat.ne_of_gt (Nat.lt_of_lt_of_le I.lt hb),I.nofs hb,.inr (Nat.le_trans I.sz hb),fun x c e z=>?_,fun p hp z=>?_⟩
 ·obtain⟨v,q⟩:=I.cell x c e
  exact absurd (Nat.lt_of_lt_of_le q.lt (by rw [z];exact hb)) (Nat.lt_irrefl _)
 ·exact absurd (Nat.lt_of_lt_of_le (Heap.lt_size (I.pin p hp).1) (by rw [z];exact hb)) (Nat.lt_irrefl _)
structure Turn(P:Program)(w:World)(K:PySem.W.Frag)(tg:Expr)(J:It)(fp:List Addr)(it:Addr)(tn:Nat->Heap->Prop):Prop where
 mem:it∈fp
 obj:∀ i h,tn i h->∀ b∈fp,∃ o,h.get? b=some o/\∀ v,o.data ≠ .cell v
 keep:∀ i h h',tn i h->(∀ b∈fp,∀ o,h.get? b=some o->h'.get? b=some o)->tn i h'
 item:∀(X:Cx),X.prog=P->X.w=w->X.K=K->X.calm=true->∀(i:Nat) (pins:List (Addr×Obj)) (s:Shared) (σ:St) (H:Hp) (E:Value->Shared->Prop),Inv X pins σ H s->(∀ b∈fp,FpOk X pins H b)->tn i s.heap->J.go i H ->
  wpAny (model P w) X.A (pyNext (.ref it)) (fun r s1=>∃ u,r=some u /\
   wpAny (model P w) X.A (letOwnedTupleGo tg (.ref it) u) (fun _ s2=>∃ x H',Inv X pins σ H' s2/\RelV x u/\J.yld i H x H'/\tn (i+1) s2.heap/\∀ b∈fp,H' b=none) E s1) E s
 done:∀(X:Cx),X.prog=P->X.w=w->X.K=K->X.calm=true->∀(i:Nat) (pins:List (Addr×Obj)) (s:Shared) (σ:St) (H:Hp) (E:Value->Shared->Prop),Inv X pins σ H s->(∀ b∈fp,FpOk X pins H b)->tn i s.heap->J.stop i H ->
  wpAny (model P w) X.A (pyNext (.ref it)) (fun r s1=>r=none/\Inv X pins σ H s1) E s
 self:∀(A:Around) (i:Nat) (s:Shared) (Q:Value->Shared->Prop) (E:Value->Shared->Prop),tn i s.heap->Q (.ref it) s->wpAny (model P w) A (pyIter (.ref it)) Q E s
abbrev TI:=St->Hp->(It->Hp->Prop)->Prop
def PIE(X:Cx)(pins:List (Addr×Obj))(σ:St)(tg:Expr)(R:It->Hp->Prop)(itv:Value)(s2:Shared):Prop :=
 ∃(it:Addr) (fp:List Addr) (tn:Nat->Heap->Prop) (J:It) (H':Hp),itv=.ref it/\Inv X pins σ H' s2/\Turn X.prog X.w X.K tg J fp it tn/\tn 0 s2.heap/\(∀ b∈fp,FpOk X pins H' b)/\R J H'
def PI(X:Cx)(tg iter:Expr)(wi:TI):Prop :=
 ∀(pins:List (Addr×Obj)) (s:Shared) (σ:St) (H:Hp) (R:It->Hp->Prop),Inv X pins σ H s->wi σ H R ->
  wpAny (model X.prog X.w) X.A (eval iter X.env) (fun v s1=>wpAny (model X.prog X.w) X.A (pyIter v) (PIE X pins σ tg R) X.xe s1) X.xe s
theorem go_of{M:Model}{A:Around}{E:Value->Shared->Prop}{s:Shared}{tg:Expr}{it:Addr}{u:Value}{o:Obj}{n:String}{vs:Array Value}{Q:Unit->Shared->Prop}(ho:s.heap.get? it=some o)(hc:o.cls=.type n)(hd:o.data=.fields vs)
  (hn : ["enumerate", "zip", "dict_itemiterator", "dict_reverseitemiterator", "odict_iterator", "itertools.zip_longest", "itertools.pairwise"].contains n=false) (hQ:Q () s):wpAny M A (letOwnedTupleGo tg (.ref it) u) Q E s:=by
 unfold letOwnedTupleGo
 cases tg <;> first
  | exact wpAny_pure hQ
  | (cases u <;> first
    | exact wpAny_pure hQ
    | (refine wpAny_bind (wpAny_load ho ?_);rw [hc,hd];show wpAny M A (if (["enumerate", "zip", "dict_itemiterator", "dict_reverseitemiterator", "odict_iterator", "itertools.zip_longest", "itertools.pairwise"].contains n && vs[0]? == some (rawInt _))=true then _ else _) Q E s;rw [if_neg (by intro h;rw [hn,Bool.false_and] at h;cases h)];exact wpAny_pure hQ))
def Itl(K:PySem.W.Frag)(a:Addr):It :=
 ⟨fun i H=>∃ xs x,SqL K H a xs/\xs[i]?=some x,fun i H x H'=>H'=H/\∀ xs,SqL K H a xs->xs[i]?=some x,fun i H=>∃ xs,SqL K H a xs/\xs.length<=i⟩
def Itt(K:PySem.W.Frag)(a:Addr):It :=
 ⟨fun i H=>∃ xs x,SqT K H a xs/\xs[i]?=some x,fun i H x H'=>H'=H/\∀ xs,SqT K H a xs->xs[i]?=some x,fun i H=>∃ xs,SqT K H a xs/\xs.length<=i⟩
def Itr(lo:Int)(n:Nat):It:=⟨fun i _=>i<n,fun i H x H'=>H'=H/\x=.int (lo+i),fun i _=>n<=i⟩
theorem turn_list{P:Program}{w:World}{K:PySem.W.Frag}{tg:Expr}(a it:Addr):Turn P w K tg (Itl K a) [it] it (fun i h=>h.IsListIter it a i) where
 mem:=by simp
 obj:=fun i h st b hb=>by
  have e:b=it:=by simpa using hb
  subst e
  obtain⟨o,e,c,d⟩:=st
  exact⟨o,e,fun v z=>by rw [d] at z;cases z⟩
 keep:=fun i h h' st k=>st.at fun o e=>k it (by simp) o e
 item:=by
  intro X hP hw hK hc i pins s σ H E I hf st hg
  subst hP hw hK
  obtain⟨xs,x,hq,hx⟩:=hg
  obtain⟨its,rv,p,hz⟩:=I.list hq
  obtain⟨u,hu,ru⟩:=rv.get hx
  obtain⟨f0,f1,f2,f3,f4,f5⟩:=hf it (by simp)
  refine wpAny_pyNext_list_item st p.isList (x:=u) (by simpa using hu) fun h' st' sb=>?_
  have I1:Inv X pins σ H { s with heap:=h' }:=I.turned (t':=s.toks) (fun b o hb e=>(sb.2 b hb).trans e) f0 f1 f3 f4 f5
  obtain⟨o,e,c,d⟩:=id st'
  exact⟨u,rfl,go_of (s:={ s with heap:=h' }) e c d (by decide) ⟨x,H,I1,ru,⟨rfl,fun ys hy=>by rw [I.list_inj hy hq];exact hx⟩,st',fun b hb=>(hf b hb).1⟩⟩
 done:=by
  intro X hP hw hK hc i pins s σ H E I hf st hg
  subst hP hw hK
  obtain⟨xs,hq,hx⟩:=hg
  obtain⟨its,rv,p,hz⟩:=I.list hq
  obtain⟨f0,f1,f2,f3,f4,f5⟩:=hf it (by simp)
  have hl:=rv.length
  exact wpAny_pyNext_list_end (I.ok.hd hc) st p.isList (by simp;omega) fun h' eb=>⟨rfl,I.turned (t':=s.toks) (fun b o hb e=>eb b o hb e) f0 f1 f3 f4 f5⟩
 self:=fun _ _ _ _ _ st h=>wpAny_pyIter_listiter st h
theorem turn_tuple{P:Program}{w:World}{K:PySem.W.Frag}{tg:Expr}(a it:Addr):Turn P w K tg (Itt K a) [it] it (fun i h=>h.IsTupleIter it a i) where
 mem:=by simp
 obj:=fun i h st b hb=>by
  have e:b=it:=by simpa using hb
  subst e
  obtain⟨o,e,c,d⟩:=st
  exact⟨o,e,fun v z=>by rw [d] at z;cases z⟩
 keep:=fun i h h' st k=>st.at fun o e=>k it (by simp) o e
 item:=by
  intro X hP hw hK hc i pins s σ H E I hf st hg
  subst hP hw hK
  obtain⟨xs,x,hq,hx⟩:=hg
  obtain⟨its,rv,p,hz⟩:=I.tuple hq
  obtain⟨u,hu,ru⟩:=rv.get hx
  obtain⟨f0,f1,f2,f3,f4,f5⟩:=hf it (by simp)
  refine wpAny_pyNext_tuple_item st (show s.heap.IsTuple a its.toArray from p) (x:=u) (by simpa using hu) fun h' st' sb=>?_
  have I1:Inv X pins σ H { s with heap:=h' }:=I.turned (t':=s.toks) (fun b o hb e=>(sb.2 b hb).trans e) f0 f1 f3 f4 f5
  obtain⟨o,e,c,d⟩:=id st'
  exact⟨u,rfl,go_of (s:={ s with heap:=h' }) e c d (by decide) ⟨x,H,I1,ru,⟨rfl,fun ys hy=>by rw [I.tuple_inj hy hq];exact hx⟩,st',fun b hb=>(hf b hb).1⟩⟩
 done:=by
  intro X hP hw hK hc i pins s σ H E I hf st hg
  subst hP hw hK
  obtain⟨xs,hq,hx⟩:=hg
  obtain⟨its,rv,p,hz⟩:=I.tuple hq
  obtain⟨f0,f1,f2,f3,f4,f5⟩:=hf it (by simp)
  have hl:=rv.length
  exact wpAny_pyNext_tuple_end (I.ok.hd hc) st (show s.heap.IsTuple a its.toArray from p) (by simp;omega) fun h' eb=>⟨rfl,I.turned (t':=s.toks) (fun b o hb e=>eb b o hb e) f0 f1 f3 f4 f5⟩
 self:=fun _ _ _ _ _ st h=>wpAny_pyIter_tupleiter st h
theorem turn_range{P:Program}{w:World}{K:PySem.W.Frag}{tg:Expr}(it:Addr)(lo:Int)(n:Nat):Turn P w K tg (Itr lo n) [it] it (fun i h=>IsRangeIter h it (lo+(i:Nat) * 1) ((n:Int)-(i:Nat)) 1) where
 mem:=by simp
 obj:=fun i h st b hb=>by
  have e:b=it:=by simpa using hb
  subst e
  exact⟨_,st,fun v z=>by
   have z':Data.fields _=Data.cell v:=z
   cases z'⟩
 keep:=fun i h h' st k=>k it (by simp) _ st
 item:=by
  intro X hP hw hK hc i pins s σ H E I hf st hg
  subst hP hw hK
  obtain⟨f0,f1,f2,f3,f4,f5⟩:=hf it (by simp)
  have W:=Walks.range (prog:=X.prog) (w:=X.w) (I.ok.hd hc) it lo 1 n
  refine W.item i s _ _ hg st fun v h' tk hv st' kk=>?_
  obtain⟨t,rfl⟩:=hv
  have I1:Inv X pins σ H { s with heap:=h',toks:=tk }:=I.turned (fun b o hb e=>kk b o (by simpa using hb) e) f0 f1 f3 f4 f5
  refine⟨_,rfl,go_of (s:={ s with heap:=h',toks:=tk }) (n := "range_iterator") st' rfl rfl (by decide) ⟨.int (lo+i),H,I1,⟨t,?_⟩,⟨rfl,rfl⟩,st',fun b hb=>(hf b hb).1⟩⟩
  rw [Int.mul_one]
 done:=by
  intro X hP hw hK hc i pins s σ H E I hf st hg
  subst hP hw hK
  obtain⟨f0,f1,f2,f3,f4,f5⟩:=hf it (by simp)
  exact wpAny_pyNext_range_end (I.ok.hd hc) st (by have:n<=i:=hg;omega) fun h' eb=>⟨rfl,I.turned (t':=s.toks) (fun b o hb e=>eb b o hb e) f0 f1 f3 f4 f5⟩
 self:=fun _ _ _ _ _ st h=>wpAny_pyIter_rangeiter st h
section
variable {X:Cx}{tg:Expr}
theorem range_it{pins:List (Addr×Obj)}{σ:St}{H:Hp}{s:Shared}{R:It->Hp->Prop}{E:Value->Shared->Prop}{lo hi:Int}{t u v:Tok}{tk:Nat}(I:Inv X pins σ H s)(h1 : -(2 ^ 62)<=lo)(h2:lo<2 ^ 62)(h3 : -(2 ^ 62)<=hi)(h4:hi<2 ^ 62)
  (q:R (Itr lo (hi-lo).toNat) H):wpAny (model X.prog X.w) X.A (pyIter (.ref s.heap.objs.size)) (PIE X pins σ tg R) E { s with heap:=s.heap.push { cls:=.type "range",data:=.fields #[.int lo t,.int hi u,.int 1 v] },toks:=tk }:=by
 refine wpAny_pyIter_range (IsRange.new ..) (small_one h1 h2 h3 h4) ?_
 have I1:Inv X pins σ H { s with heap:=s.heap.push { cls:=.type "range",data:=.fields #[.int lo t,.int hi u,.int 1 v] },toks:=tk }:=I.kept fun b o e=>Heap.get?_push_of_some _ e
 refine⟨(s.heap.push { cls:=.type "range",data:=.fields #[.int lo t,.int hi u,.int 1 v] }).objs.size,[(s.heap.push { cls:=.type "range",data:=.fields #[.int lo t,.int hi u,.int 1 v] }).objs.size],_,_,H,rfl,
  I1.kept (t':=tk) fun b o e=>Heap.get?_push_of_some _ e,turn_range _ lo (hi-lo).toNat,?_,fun b hb=>?_,q⟩
 ·have e1:lo+((0:Nat):Int) * 1=lo:=by simp
  have e2:(((hi-lo).toNat:Nat):Int)-((0:Nat):Int)=Builtin.Range.rangeSize lo hi 1:=by rw [rangeSize_one];split <;> omega
  show IsRangeIter _ _ (lo+((0:Nat):Int) * 1) ((((hi-lo).toNat:Nat):Int)-((0:Nat):Int)) 1
  rw [e1,e2]
  exact Heap.get?_push_size _ rfl
 ·have e:b=(s.heap.push { cls:=.type "range",data:=.fields #[.int lo t,.int hi u,.int 1 v] }).objs.size:=by simpa using hb
  subst e
  exact I1.fpOk (Nat.le_refl _) (I1.hok.fresh (Nat.le_refl _))
def iRng1(ta:TA):TI:=fun σ H R=>ta σ H fun vs H1=>∃ j:Int,vs = [.int j]/\-(2 ^ 62)<=j/\j<2 ^ 62/\R (Itr 0 j.toNat) H1
theorem pi_range1{a:Expr}{ta:TA}{p pos:Pos}(hg:Gl X "range")(hm:X.mg "range" = none)(ha:PA X [a] ta)(hs:starEach [a] X.env = [(false,eval a X.env)]:=by rfl):PI X tg (.Call (.Name "range" p) [a] [] pos) (iRng1 ta):=by
 intro pins s σ H R I h
 refine Call_ (ld_blt I hg hm boot_range (PyProof.Rows.callWith_type1 (thn (ha pos pins s σ H _ I h) fun us s1 ⟨vs,H1,I1,r1,q1⟩=>?_) hs rfl))
 obtain⟨j,e,q1,q2,q⟩:=q1
 subst e
 cases r1 with
 | cons r rr =>
  cases rr
  obtain⟨t,rfl⟩:=r
  exact call_range_1 (range_it I1 (by omega) (by omega) q1 q2 (by simpa using q))
def tFor(wi:TI)(g:TG)(tb:TS):TS:=fun D σ H=>wi σ H fun J H1=>∃ W:Nat->Nat->St->Hp->Prop,(∃ m,W 0 m σ H1)/\∀ i m σ H,W i m σ H ->
 (J.stop i H/\D.nx σ H)\/(J.go i H/\∃ N:St->Hp->Prop,(∀ σ' H',N σ' H'->∃ m',m' < m/\W (i+1) m' σ' H')/\∀ x H',J.yld i H x H'->g x σ H' fun σ2 H2=>tb { D with nx:=N,ct:=N,bk:=D.nx } σ2 H2)
def pinsAt(fp:List Addr)(h:Heap):List (Addr×Obj):=fp.filterMap fun b=>(h.get? b).map fun o=>(b,o)
theorem mem_pinsAt{fp:List Addr}{h:Heap}{b:Addr}{o:Obj}(hb:b∈fp)(e:h.get? b=some o):(b,o)∈pinsAt fp h:=List.mem_filterMap.mpr ⟨b,hb,by rw [e];rfl⟩
theorem of_pinsAt{fp:List Addr}{h:Heap}{p:Addr×Obj}(hp:p∈pinsAt fp h):p.1∈fp/\h.get? p.1=some p.2:=by
 obtain⟨b,hb,e⟩:=List.mem_filterMap.mp hp
 cases q:h.get? b with
 | none=>rw [q] at e;cases e
 | some o =>
  rw [q] at e
  have e':(b,o)=p:=Option.some.inj e
  subst e'
  exact⟨hb,q⟩
theorem Inv.pinned{pins:List (Addr×Obj)}{σ:St}{H:Hp}{s:Shared}{fp:List Addr}(I:Inv X pins σ H s)(hf:∀ b∈fp,FpOk X pins H b)(ho:∀ b∈fp,∃ o,s.heap.get? b=some o/\∀ v,o.data ≠ .cell v):Inv X (pins++pinsAt fp s.heap) σ H s :=
 I.pins_of fun p hp=>(List.mem_append.mp hp).elim (fun z=>I.pin p (List.mem_append_right _ z)) fun z=>by
  obtain⟨hb,e⟩:=of_pinsAt z
  obtain⟨f0,f1,f2,_⟩:=hf p.1 hb
  obtain⟨o,e',d⟩:=ho p.1 hb
  rw [e] at e';cases e'
  exact⟨e,f0,f1,f2,d⟩
theorem Inv.unpinned{pins pl:List (Addr×Obj)}{σ:St}{H:Hp}{s:Shared}(I:Inv X (pins++pl) σ H s):Inv X pins σ H s:=I.pins_of fun p hp=>I.pin p (List.mem_append_right _ (List.mem_append_left _ hp))
theorem ps_for{iter:Expr}{body:List Stmt}{wi:TI}{g:TG}{tb:TS}{pos:Pos}(hp:PassesOwn (model X.prog X.w) X.A X.env X.xe)(hc:X.calm=true)(hi:PI X tg iter wi)(hg:PG X tg g)(hb:PSs X body tb)
  (hs:∀ x,foldedSetIterable iter X.env x=pure x:=by intro _;rfl):PS X (.For tg iter body [] pos) (tFor wi g tb):=by
 intro pins s σ H D I h
 refine wpAny_For (thn (hi pins s σ H _ I h) fun v s1 h1=>thn h1 fun itv s2 h2=>?_) hs
 obtain⟨it,fp,tn,J,H2,e,I2,T,st2,f2,W,⟨m0,w0⟩,turn⟩:=h2
 subst e
 -- what stays true of the iterator's objects through the loop
 have stat:∀{H':Hp},(∀ b∈fp,H' b=none)->∀ b∈fp,FpOk X pins H' b:=fun hn b hb=>⟨hn b hb,(f2 b hb).2⟩
 refine codeAny_forLoop_any (fun n s'=>∃ i σ' H',Inv X pins σ' H' s'/\tn i s'.heap/\(∀ b∈fp,H' b=none)/\W i n σ' H') ?_ m0 ⟨0,σ,H2,I2,st2,fun b hb=>(f2 b hb).1,w0⟩
 rintro n s3 ⟨i,σ3,H3,I3,st3,fr3,w3⟩
 rcases turn i n σ3 H3 w3 with⟨stop,qn⟩ | ⟨go,N,hN,step⟩
 ·refine wpAny_passesOwn hp (thn (T.done X rfl rfl rfl hc i pins s3 σ3 H3 X.xe I3 (stat fr3) st3 stop) fun r s4 ⟨hr,I4⟩=>?_)
  subst hr
  exact wpAny_execs_nil ⟨σ3,H3,I4,qn⟩
 ·refine wpAny_passesOwn hp (thn (T.item X rfl rfl rfl hc i pins s3 σ3 H3 X.xe I3 (stat fr3) st3 go) fun r s4 ⟨u,hr,h4⟩=>?_)
  subst hr
  refine wpAny_passesOwn hp (thn h4 fun _ s5 ⟨x,H5,I5,r5,y5,st5,fr5⟩=>?_)
  have I5':=I5.pinned (stat fr5) (T.obj _ _ st5)
  refine wpAny_passesOwn hp (thn (hg _ s5 σ3 H5 x u _ I5' r5 (step x H5 y5)) fun _ s6 ⟨σ6,H6,I6,q6⟩=>?_)
  refine wpAny_passesOwn hp (thn (hb _ s6 σ6 H6 _ I6 q6) fun f s7 q7=>?_)
  have again:∀{σ7:St} {H7:Hp},Inv X (pins++pinsAt fp s5.heap) σ7 H7 s7->N σ7 H7->∃ m,m<n/\∃ i σ' H',Inv X pins σ' H' s7/\tn i s7.heap/\(∀ b∈fp,H' b=none)/\W i m σ' H':=fun{σ7 H7} I7 n7=>by
   obtain⟨m',hm,w7⟩:=hN σ7 H7 n7
   refine⟨m',hm,i+1,σ7,H7,I7.unpinned,T.keep _ _ _ st5 fun b hb o e=>(I7.pin (b,o) (List.mem_append_right _ (List.mem_append_right _ (mem_pinsAt hb e)))).1,fun b hb=>?_,w7⟩
   obtain⟨o,e,d⟩:=T.obj _ _ st5 b hb
   exact(I7.pin (b,o) (List.mem_append_right _ (List.mem_append_right _ (mem_pinsAt hb e)))).2.1
  cases f with
  | next=>obtain⟨σ7,H7,I7,n7⟩:=q7;exact again I7 n7
  | cont=>obtain⟨σ7,H7,I7,n7⟩:=q7;exact again I7 n7
  | brk=>obtain⟨σ7,H7,I7,q7⟩:=q7;exact⟨σ7,H7,I7.unpinned,q7⟩
  | ret v=>obtain⟨x7,σ7,H7,I7,r7,q7⟩:=q7;exact⟨x7,σ7,H7,I7.unpinned,r7,q7⟩
end
abbrev R2:=V->V->Hp->VK->Prop
def OpR(X:Cx)(f:Value->Value->Sem Value)(r:R2):Prop :=
 ∀(pins:List (Addr×Obj)) (s:Shared) (σ:St) (H:Hp) (x y:V) (v u:Value) (Q:VK),Inv X pins σ H s->RelV x v->RelV y u->r x y H Q ->
  wpAny (model X.prog X.w) X.A (f v u) (EP X pins σ Q) X.xe s
def UnR(X:Cx)(f:Value->Sem Value)(r:V->Hp->VK->Prop):Prop :=
 ∀(pins:List (Addr×Obj)) (s:Shared) (σ:St) (H:Hp) (x:V) (v:Value) (Q:VK),Inv X pins σ H s->RelV x v->r x H Q ->
  wpAny (model X.prog X.w) X.A (f v) (EP X pins σ Q) X.xe s
def CallR(X:Cx)(f:Value)(r:List V->Hp->VK->Prop):Prop :=
 ∀(pins:List (Addr×Obj)) (s:Shared) (σ:St) (H:Hp) (xs:List V) (us:List Value) (Q:VK),Inv X pins σ H s->Vals xs us->r xs H Q ->
  wpAny (model X.prog X.w) X.A (call f us) (EP X pins σ Q) X.xe s
def TruR(X:Cx)(r:V->Hp->(Bool->Hp->Prop)->Prop):Prop :=
 ∀(pins:List (Addr×Obj)) (s:Shared) (σ:St) (H:Hp) (x:V) (v:Value) (Q:Bool->Hp->Prop),Inv X pins σ H s->RelV x v->r x H Q ->
  wpAny (model X.prog X.w) X.A (truthy v) (TP X pins σ Q) X.xe s
def tOp(r:R2)(ta tb:TE):TE:=fun σ H Q=>ta σ H fun x H1=>tb σ H1 fun y H2=>r x y H2 Q
def tUn(r:V->Hp->VK->Prop)(ta:TE):TE:=fun σ H Q=>ta σ H fun x H1=>r x H1 Q
def rI(C:Int->Int->Prop)(g:Int->Int->V):R2:=fun x y H Q=>∃ i j,x=.int i/\y=.int j/\C i j/\Q (g i j) H
def rI0(g:Int->Int->V):R2:=fun x y H Q=>∃ i j,x=.int i/\y=.int j/\Q (g i j) H
def rU(g:Int->V):V->Hp->VK->Prop:=fun x H Q=>∃ i,x=.int i/\Q (g i) H
section
variable {X:Cx}{a b c:Expr}{ta tb tc:TE}{pos:Pos}
theorem binT(ha:PE X a ta)(hb:PE X b tb){pins:List (Addr×Obj)}{s:Shared}{σ:St}{H:Hp}{R:V->V->Hp->Prop}(I:Inv X pins σ H s)
  (h:ta σ H fun x H1=>tb σ H1 fun y H2=>R x y H2) {Q:Value->Shared->Prop} {f:Value->Value->Sem Value}
  (hf:∀ v u s2 x y H2,Inv X pins σ H2 s2->RelV x v->RelV y u->R x y H2->wpAny (model X.prog X.w) X.A (f v u) Q X.xe s2) :
  wpAny (model X.prog X.w) X.A (eval a X.env) (fun v s₁=>wpAny (model X.prog X.w) X.A (eval b X.env) (fun u s₂=>wpAny (model X.prog X.w) X.A (f v u) Q X.xe s₂) X.xe s₁) X.xe s:=by
 refine thn (ha pins s σ H _ I h) fun v s1 ⟨x,H1,I1,r1,q1⟩=>?_
 refine thn (hb pins s1 σ H1 _ I1 q1) fun u s2 ⟨y,H2,I2,r2,q2⟩=>?_
 exact hf v u s2 x y H2 I2 r1 r2 q2
theorem pe_op{op:Operator}{r:R2}(ho:OpR X (binaryOp op) r)(ha:PE X a ta)(hb:PE X b tb):PE X (.BinOp a op b pos) (tOp r ta tb):=by
 intro pins s σ H Q I h
 exact wpAny_BinOp (binT ha hb I h fun v u s2 x y H2 I2 rx ry q=>ho pins s2 σ H2 x y v u Q I2 rx ry q)
theorem pe_un{op:UnaryOp}{r:V->Hp->VK->Prop}(ho:UnR X (unaryOp op) r)(ha:PE X a ta):PE X (.UnaryOp op a pos) (tUn r ta):=by
 intro pins s σ H Q I h
 exact UnaryOp_ (thn (ha pins s σ H _ I h) fun v s1 ⟨x,H1,I1,r1,q1⟩=>ho pins s1 σ H1 x v Q I1 r1 q1)
theorem opI{f:Value->Value->Sem Value}{C:Int->Int->Prop}{g:Int->Int->Int}
  (rule:∀(i j:Int) (t u:Tok) (s:Shared) (Q:Value->Shared->Prop) (E:Value->Shared->Prop),C i j->Q (.int (g i j) s.toks) { s with toks:=s.toks+1 }->wpAny (model X.prog X.w) X.A (f (.int i t) (.int j u)) Q E s) :
  OpR X f (rI C fun i j=>.int (g i j)):=by
 intro pins s σ H x y v u Q I rx ry h
 obtain⟨i,j,rfl,rfl,hc,q⟩:=h
 obtain⟨t,rfl⟩:=rx
 obtain⟨t',rfl⟩:=ry
 exact rule i j t t' s _ _ hc ⟨.int (g i j),H,I.tok _,⟨_,rfl⟩,q⟩
theorem opI0{f:Value->Value->Sem Value}{g:Int->Int->Int}
  (rule:∀(i j:Int) (t u:Tok) (s:Shared) (Q:Value->Shared->Prop) (E:Value->Shared->Prop),Q (.int (g i j) s.toks) { s with toks:=s.toks+1 }->wpAny (model X.prog X.w) X.A (f (.int i t) (.int j u)) Q E s) :
  OpR X f (rI0 fun i j=>.int (g i j)):=by
 intro pins s σ H x y v u Q I rx ry h
 obtain⟨i,j,rfl,rfl,q⟩:=h
 obtain⟨t,rfl⟩:=rx
 obtain⟨t',rfl⟩:=ry
 exact rule i j t t' s _ _ ⟨.int (g i j),H,I.tok _,⟨_,rfl⟩,q⟩
theorem opB0{f:Value->Value->Sem Value}{g:Int->Int->Bool}
  (rule:∀(i j:Int) (t u:Tok) (s:Shared) (Q:Value->Shared->Prop) (E:Value->Shared->Prop),Q (.bool (g i j)) s->wpAny (model X.prog X.w) X.A (f (.int i t) (.int j u)) Q E s) :
  OpR X f (rI0 fun i j=>.bl (g i j)):=by
 intro pins s σ H x y v u Q I rx ry h
 obtain⟨i,j,rfl,rfl,q⟩:=h
 obtain⟨t,rfl⟩:=rx
 obtain⟨t',rfl⟩:=ry
 exact rule i j t t' s _ _ ⟨.bl (g i j),H,I,rfl,q⟩
def CPow(i j:Int):Prop:=0<=j/\j<=1000000/\i.natAbs<2 ^ 64
def CMul(i j:Int):Prop:=(-(2 ^ 64)<i/\i<2 ^ 64)\/(-(2 ^ 64)<j/\j<2 ^ 64)
theorem CMul.ok{i j:Int}(h:CMul i j):IntMulOk i j:=by
 rcases h with⟨h1,h2⟩ | ⟨h1,h2⟩
 ·exact .of_left (intBits_le_64 h1 h2)
 ·exact .of_right (intBits_le_64 h1 h2)
theorem op_add:OpR X (binaryOp .Add) (rI0 fun i j=>.int (i+j)):=opI0 fun _ _ _ _ _ _ _ q=>add_int q
theorem op_sub:OpR X (binaryOp .Sub) (rI0 fun i j=>.int (i-j)):=opI0 fun _ _ _ _ _ _ _ q=>sub_int q
theorem op_mul:OpR X (binaryOp .Mult) (rI CMul fun i j=>.int (i * j)):=opI fun _ _ _ _ _ _ _ hc q=>mul_int q hc.ok
theorem op_mod:OpR X (binaryOp .Mod) (rI (fun _ j=>0<j) fun i j=>.int (i % j)):=opI fun i j _ _ _ _ _ hc q=>by
 have h1:(0:Int)<j:=hc
 exact mod_int' (by omega) (by rw [Int.fmod_eq_emod_of_nonneg i (by omega)];exact q)
theorem op_pow:OpR X (binaryOp .Pow) (rI CPow fun i j=>.int (i ^ j.toNat)):=opI fun _ _ _ _ _ _ _ hc q=>pow_int_small hc.1 hc.2.1 hc.2.2 q
theorem iop_mul:OpR X (inplaceOp .Mult) (rI CMul fun i j=>.int (i * j)):=opI fun _ _ _ _ _ _ _ hc q=>imul_int q hc.ok
theorem unI{f:Value->Sem Value}{g:Int->Int}
  (rule:∀(i:Int) (t:Tok) (s:Shared) (Q:Value->Shared->Prop) (E:Value->Shared->Prop),Q (.int (g i) s.toks) { s with toks:=s.toks+1 }->wpAny (model X.prog X.w) X.A (f (.int i t)) Q E s) :
  UnR X f (rU fun i=>.int (g i)):=by
 intro pins s σ H x v Q I rx h
 obtain⟨i,rfl,q⟩:=h
 obtain⟨t,rfl⟩:=rx
 exact rule i t s _ _ ⟨.int (g i),H,I.tok _,⟨_,rfl⟩,q⟩
theorem un_neg:UnR X (unaryOp .USub) (rU fun i=>.int (-i)):=unI fun _ _ _ _ _ q=>neg_int q
end
def scal:V->V->Bool
 | .non,.non=>true | .non,.int _=>true | .int _,.non=>true | .non,.bl _=>true | .bl _,.non=>true | .non,.str _=>true | .str _,.non=>true
 | .int _,.int _=>true | .bl _,.bl _=>true | .str _,.str _=>true | .byt _,.byt _=>true
 | .int _,.str _=>true | .str _,.int _=>true | .bl _,.str _=>true | .str _,.bl _=>true
 | _,_=>false
def rEq:R2:=fun x y H Q=>scal x y=true/\Q (.bl (decide (x=y))) H
def rNe:R2:=fun x y H Q=>scal x y=true/\Q (.bl (!decide (x=y))) H
theorem dec_int{i j:Int}:decide (V.int i=V.int j)=(i == j):=by
 rw [Bool.eq_iff_iff]
 simp
theorem dec_bl{i j:Bool}:decide (V.bl i=V.bl j)=(i == j):=by
 rw [Bool.eq_iff_iff]
 simp
theorem dec_str{i j:Str}:decide (V.str i=V.str j)=(i == j):=by
 rw [Bool.eq_iff_iff]
 simp
theorem dec_byt{i j:Array UInt8}:decide (V.byt i=V.byt j)=(i.toList == j.toList):=by
 rw [Bool.eq_iff_iff]
 cases i
 cases j
 simp
section
variable {X:Cx}{a b c:Expr}{ta tb tc:TE}{pos:Pos}
theorem fin_bl{pins:List (Addr×Obj)}{σ:St}{H:Hp}{s:Shared}{Q:VK}{k k':Bool}(I:Inv X pins σ H s)(q:Q (.bl k) H)(e:k=k'):EP X pins σ Q (.bool k') s:=by
 subst e
 exact⟨.bl k,H,I,rfl,q⟩
theorem op_eq:OpR X (compareOp .Eq) rEq:=by
 intro pins s σ H x y v u Q I rx ry h
 obtain⟨hs,q⟩:=h
 cases x with
 | non =>
  cases rx
  cases y with
  | non=>cases ry;exact PySem.EqNone.eq_none_none (fin_bl I q (by simp))
  | bl j=>cases ry;exact PySem.EqNone.eq_none_bool (fin_bl I q (by simp))
  | int j=>obtain⟨t',rfl⟩:=ry;exact PySem.EqNone.eq_none_int (fin_bl I q (by simp))
  | str j=>obtain⟨t',rfl⟩:=ry;exact PySem.EqNone.eq_none_str (fin_bl I q (by simp))
  | _=>exact absurd (show false=true from hs) Bool.false_ne_true
 | bl i =>
  cases rx
  cases y with
  | non=>cases ry;exact PySem.EqNone.eq_bool_none (fin_bl I q (by simp))
  | bl j=>cases ry;exact eq_bool (fin_bl I q dec_bl)
  | str j=>obtain⟨t',rfl⟩:=ry;exact PySem.EqMixed.eq_bool_str (fin_bl I q (by simp))
  | _=>exact absurd (show false=true from hs) Bool.false_ne_true
 | int i =>
  obtain⟨t,rfl⟩:=rx
  cases y with
  | non=>cases ry;exact PySem.EqNone.eq_int_none (fin_bl I q (by simp))
  | int j=>obtain⟨t',rfl⟩:=ry;exact eq_int (fin_bl I q dec_int)
  | str j=>obtain⟨t',rfl⟩:=ry;exact PySem.EqMixed.eq_int_str (fin_bl I q (by simp))
  | _=>exact absurd (show false=true from hs) Bool.false_ne_true
 | str i =>
  obtain⟨t,rfl⟩:=rx
  cases y with
  | non=>cases ry;exact PySem.EqNone.eq_str_none (fin_bl I q (by simp))
  | bl j=>cases ry;exact PySem.EqMixed.eq_str_bool (fin_bl I q (by simp))
  | int j=>obtain⟨t',rfl⟩:=ry;exact PySem.EqMixed.eq_str_int (fin_bl I q (by simp))
  | str j=>obtain⟨t',rfl⟩:=ry;exact eq_str (fin_bl I q dec_str)
  | _=>exact absurd (show false=true from hs) Bool.false_ne_true
 | byt i =>
  obtain⟨t,rfl⟩:=rx
  cases y with
  | byt j=>obtain⟨t',rfl⟩:=ry;exact PySem.W.eq_bytes (fin_bl I q dec_byt)
  | _=>exact absurd (show false=true from hs) Bool.false_ne_true
 | _=>cases y <;> exact absurd (show false=true from hs) Bool.false_ne_true
theorem op_ne:OpR X (compareOp .NotEq) rNe:=by
 intro pins s σ H x y v u Q I rx ry h
 obtain⟨hs,q⟩:=h
 cases x with
 | non =>
  cases rx
  cases y with
  | non=>cases ry;exact PySem.EqNone.ne_none_none (fin_bl I q (by simp))
  | bl j=>cases ry;exact PySem.EqNone.ne_none_bool (fin_bl I q (by simp))
  | int j=>obtain⟨t',rfl⟩:=ry;exact PySem.EqNone.ne_none_int (fin_bl I q (by simp))
  | str j=>obtain⟨t',rfl⟩:=ry;exact PySem.EqNone.ne_none_str (fin_bl I q (by simp))
  | _=>exact absurd (show false=true from hs) Bool.false_ne_true
 | bl i =>
  cases rx
  cases y with
  | non=>cases ry;exact PySem.EqNone.ne_bool_none (fin_bl I q (by simp))
  | bl j=>cases ry;exact ne_bool (fin_bl I q (congrArg not dec_bl))
  | str j=>obtain⟨t',rfl⟩:=ry;exact PySem.EqMixed.ne_bool_str (fin_bl I q (by simp))
  | _=>exact absurd (show false=true from hs) Bool.false_ne_true
 | int i =>
  obtain⟨t,rfl⟩:=rx
  cases y with
  | non=>cases ry;exact PySem.EqNone.ne_int_none (fin_bl I q (by simp))
  | int j=>obtain⟨t',rfl⟩:=ry;exact ne_int (fin_bl I q (congrArg not dec_int))
  | str j=>obtain⟨t',rfl⟩:=ry;exact PySem.EqMixed.ne_int_str (fin_bl I q (by simp))
  | _=>exact absurd (show false=true from hs) Bool.false_ne_true
 | str i =>
  obtain⟨t,rfl⟩:=rx
  cases y with
  | non=>cases ry;exact PySem.EqNone.ne_str_none (fin_bl I q (by simp))
  | bl j=>cases ry;exact PySem.EqMixed.ne_str_bool (fin_bl I q (by simp))
  | int j=>obtain⟨t',rfl⟩:=ry;exact PySem.EqMixed.ne_str_int (fin_bl I q (by simp))
  | str j=>obtain⟨t',rfl⟩:=ry;exact ne_str (fin_bl I q (congrArg not dec_str))
  | _=>exact absurd (show false=true from hs) Bool.false_ne_true
 | byt i =>
  obtain⟨t,rfl⟩:=rx
  cases y with
  | byt j=>obtain⟨t',rfl⟩:=ry;exact PySem.W.ne_bytes (fin_bl I q (congrArg not dec_byt))
  | _=>exact absurd (show false=true from hs) Bool.false_ne_true
 | _=>cases y <;> exact absurd (show false=true from hs) Bool.false_ne_true
theorem op_lt:OpR X (compareOp .Lt) (rI0 fun i j=>.bl (decide (i<j))):=opB0 fun _ _ _ _ _ _ _ q=>lt_int q
theorem op_le:OpR X (compareOp .LtE) (rI0 fun i j=>.bl (decide (i<=j))):=opB0 fun _ _ _ _ _ _ _ q=>le_int q
theorem op_gt:OpR X (compareOp .Gt) (rI0 fun i j=>.bl (decide (j<i))):=opB0 fun _ _ _ _ _ _ _ q=>gt_int q
theorem op_ge:OpR X (compareOp .GtE) (rI0 fun i j=>.bl (decide (j<=i))):=opB0 fun _ _ _ _ _ _ _ q=>ge_int q
theorem nomark(b:Expr){op:CmpOp}(h:op ≠ .In:=by decide)(h2:op ≠ .NotIn:=by decide):behindInMarks op b=false:=by
 have e1:(op == CmpOp.In)=false:=by cases op <;> first | rfl | exact absurd rfl h
 have e2:(op == CmpOp.NotIn)=false:=by cases op <;> first | rfl | exact absurd rfl h2
 cases b <;> simp [behindInMarks,e1,e2]
def tTest(t:TE):TT:=fun σ H Q=>t σ H fun x H'=>∃ k,x=.bl k/\Q k H'
theorem pt_cmpR{op:CmpOp}{r:R2}(ho:OpR X (compareOp op) r)(ha:PE X a ta)(hb:PE X b tb)(hm:behindInMarks op b=false):PT X (.Compare a [op] [b] pos) (tTest (tOp r ta tb)):=by
 intro pins s σ H Q I h
 refine wpAny_isTrue_Compare1 (thn (ha pins s σ H _ I h) fun v s1 ⟨x,H1,I1,r1,q1⟩=>thn (hb pins s1 σ H1 _ I1 q1) fun u s2 ⟨y,H2,I2,r2,q2⟩ =>
  thn (ho pins s2 σ H2 x y v u _ I2 r1 r2 q2) fun c s3 ⟨z,H3,I3,r3,k,e,q3⟩=>?_) hm
 subst e
 cases r3
 exact wpAny_truthy_bool ⟨H3,I3,q3⟩
def TruV(K:PySem.W.Frag)(x:V)(H:Hp)(k:Bool):Prop :=
 match x with
 | .non=>k=false
 | .bl b=>k=b
 | .int i=>k=(i != 0)
 | .str y=>y.length<=sizeLine/\k=((y.length:Int) != 0)
 | .byt y=>y.size<=sizeLine/\k=((y.size:Int) != 0)
 | .ref p=>(∃ xs,SqL K H p xs/\k = !xs.isEmpty)\/(∃ xs,SqT K H p xs/\k = !xs.isEmpty)\/∃ kvs,H p=some (.dK kvs)/\k = !kvs.isEmpty
 | _=>False
theorem isEmpty_kv{κ:Type}{kvs:List (κ×V)}{vs:List (κ×Value)}(r:KV kvs vs):(!vs.isEmpty) = !kvs.isEmpty:=by
 cases r <;> rfl
theorem isEmpty_of{xs:List V}{its:List Value}(r:Vals xs its):(!its.toArray.isEmpty) = !xs.isEmpty:=by
 cases r <;> simp
theorem line63:(sizeLine:Nat)<2 ^ 63:=by rw [sizeLine_eq];decide
theorem tru_ok:TruR X (fun x H Q=>∃ k,TruV X.K x H k/\Q k H):=by
 intro pins s σ H x v Q I rx h
 obtain⟨k,e,q⟩:=h
 have hl:=line63
 have hs:sizeLine=16777216:=sizeLine_eq
 cases x with
 | non =>
  cases rx
  have e':k=false:=e
  subst e'
  exact truthy_none ⟨H,I,q⟩
 | bl b =>
  cases rx
  have e':k=b:=e
  subst e'
  exact wpAny_truthy_bool ⟨H,I,q⟩
 | int i =>
  obtain⟨t,rfl⟩:=rx
  have e':k=(i != 0):=e
  subst e'
  exact PySem.P.truthy_int ⟨H,I,q⟩
 | str y =>
  obtain⟨t,rfl⟩:=rx
  obtain⟨hy,e'⟩:y.length<=sizeLine/\k=((y.length:Int) != 0):=e
  subst e'
  exact PySem.P.truthy_str (by omega) ⟨H,I.tok _,q⟩
 | byt y =>
  obtain⟨t,rfl⟩:=rx
  obtain⟨hy,e'⟩:y.size<=sizeLine/\k=((y.size:Int) != 0):=e
  subst e'
  exact PySem.W.truthy_bytes (by omega) ⟨H,I.tok _,q⟩
 | ref p =>
  cases rx
  have e':(∃ xs,SqL X.K H p xs/\k = !xs.isEmpty)\/(∃ xs,SqT X.K H p xs/\k = !xs.isEmpty)\/∃ kvs,H p=some (.dK kvs)/\k = !kvs.isEmpty:=e
  rcases e' with⟨xs,hx,e'⟩ | ⟨xs,hx,e'⟩ | ⟨kvs,hx,e'⟩
  ·subst e'
   obtain⟨its,r,pl,hz⟩:=I.list hx
   have hlen:=r.length
   exact wpAny_truthy_list pl.isList (by simp only [List.size_toArray];omega) ⟨H,I.tok _,by rw [isEmpty_of r];exact q⟩
  ·subst e'
   obtain⟨its,r,pl,hz⟩:=I.tuple hx
   have hlen:=r.length
   exact truthy_tuple pl (by simp only [List.size_toArray];omega) ⟨H,I.tok _,by rw [isEmpty_of r];exact q⟩
  ·subst e'
   obtain⟨hz,hS,vs,r,m⟩:kvs.length<=sizeLine/\(p == sysModules)=false/\∃ vs,KV kvs vs/\s.heap.DictOf (mixKind X.prog X.w) p vs:=I.hok p _ hx
   have hlen:kvs.length=vs.length:=Paired.length r
   exact wpAny_truthy_dict hS m (by omega) ⟨H,I.tok _,by rw [isEmpty_kv r];exact q⟩
 | _=>exact(show False from e).elim
theorem pt_truth(ha:PE X a ta)(he:∀ whole,isTrue a X.env whole=(do let v <-whole;standAt a.pos;holding [v] (truthy v))):
  PT X a (fun σ H Q=>ta σ H fun x H'=>∃ k,TruV X.K x H' k/\Q k H'):=by
 intro pins s σ H Q I h
 exact isTrue_plain (thn (ha pins s σ H _ I h) fun v s1 ⟨x,H1,I1,r1,q1⟩=>tru_ok pins s1 σ H1 x v Q I1 r1 q1) (he _)
theorem op_add_str:OpR X (binaryOp .Add) (fun x y H Q=>∃ i j,x=.str i/\y=.str j/\i.length+j.length<=sizeLine/\Q (.str (i++j)) H):=by
 intro pins s σ H x y v u Q I rx ry h
 obtain⟨i,j,rfl,rfl,hz,q⟩:=h
 obtain⟨t,rfl⟩:=rx
 obtain⟨t',rfl⟩:=ry
 exact add_str (fun t' tk=>⟨.str (i++j),H,I.tok _,⟨_,rfl⟩,q⟩) hz
theorem vals1{x:V}{us:List Value}(r:Vals [x] us):∃ u,us = [u]/\RelV x u:=by
 cases r with
 | cons r1 r2=>cases r2;exact⟨_,rfl,r1⟩
theorem vals2{x y:V}{us:List Value}(r:Vals [x,y] us):∃ u w',us = [u,w']/\RelV x u/\RelV y w':=by
 cases r with
 | cons r1 r2 =>
  cases r2 with
  | cons r3 r4=>cases r4;exact⟨_,_,rfl,r1,r3⟩
theorem call_max2(hc:X.calm=true):CallR X (.builtin "max") (fun xs H Q=>∃ i j,xs = [.int i,.int j]/\Q (.int (if j > i then j else i)) H):=by
 intro pins s σ H xs us Q I r h
 obtain⟨i,j,rfl,q⟩:=h
 obtain⟨u,w',rfl,⟨t,rfl⟩,⟨t',rfl⟩⟩:=vals2 r
 refine max_two_ints (I.ok.hd hc) fun h' tk k=>⟨_,H,I.kept k,?_,q⟩
 by_cases hj:j > i
 ·rw [if_pos hj,if_pos hj];exact⟨_,rfl⟩
 ·rw [if_neg hj,if_neg hj];exact⟨_,rfl⟩
theorem call_int1:CallR X (.type "int") (fun xs H Q=>(∃ i,xs = [.int i]/\Q (.int i) H)\/∃ k,xs = [.bl k]/\Q (.int (if k then 1 else 0)) H):=by
 intro pins s σ H xs us Q I r h
 rcases h with⟨i,rfl,q⟩ | ⟨k,rfl,q⟩
 ·obtain⟨u,rfl,t,rfl⟩:=vals1 r
  exact call_int_int ⟨.int i,H,I,⟨_,rfl⟩,q⟩
 ·obtain⟨u,rfl,r1⟩:=vals1 r
  cases r1
  exact call_int_bool ⟨.int (if k then 1 else 0),H,I.tok _,⟨_,rfl⟩,q⟩
def LenV(K:PySem.W.Frag)(x:V)(H:Hp)(n:Nat):Prop :=
 match x with
 | .str y=>y.length<=sizeLine/\n=y.length
 | .byt y=>y.size<=sizeLine/\n=y.size
 | .ref p=>(∃ xs,SqL K H p xs/\n=xs.length)\/∃ xs,SqT K H p xs/\n=xs.length
 | _=>False
theorem call_len:CallR X (.builtin "len") (fun xs H Q=>∃ x n,xs = [x]/\LenV X.K x H n/\Q (.int n) H):=by
 intro pins s σ H xs us Q I r h
 obtain⟨x,n,rfl,e,q⟩:=h
 obtain⟨u,rfl,rx⟩:=vals1 r
 have hl:=line63
 have hs:sizeLine=16777216:=sizeLine_eq
 cases x with
 | str y =>
  obtain⟨t,rfl⟩:=rx
  obtain⟨hy,e'⟩:y.length<=sizeLine/\n=y.length:=e
  subst e'
  exact len_str (by omega) ⟨.int _,H,I.tok _,⟨_,rfl⟩,q⟩
 | byt y =>
  obtain⟨t,rfl⟩:=rx
  obtain⟨hy,e'⟩:y.size<=sizeLine/\n=y.size:=e
  subst e'
  exact PySem.W.len_bytes (by omega) ⟨.int _,H,I.tok _,⟨_,rfl⟩,q⟩
 | ref p =>
  cases rx
  have e':(∃ xs,SqL X.K H p xs/\n=xs.length)\/∃ xs,SqT X.K H p xs/\n=xs.length:=e
  rcases e' with⟨xs,hx,e'⟩ | ⟨xs,hx,e'⟩
  ·subst e'
   obtain⟨its,r',pl,hz⟩:=I.list hx
   have hlen:=r'.length
   exact Calls.call_len_list pl.isList (by simp only [List.size_toArray];omega) ⟨.int xs.length,H,I.tok _,⟨_,by simp only [List.size_toArray];rw [hlen]⟩,q⟩
  ·subst e'
   obtain⟨its,r',pl,hz⟩:=I.tuple hx
   have hlen:=r'.length
   exact len_tuple pl (by simp only [List.size_toArray];omega) ⟨.int xs.length,H,I.tok _,⟨_,by simp only [List.size_toArray];rw [hlen]⟩,q⟩
 | _=>exact(show False from e).elim
end
structure ObjM(h:Heap)(x dx C:Addr)(mA:Str->Option Value):Prop where
 obj:h.get? x=some (PySem.W.instObj C dx)
 ns:h.Ns1 dx mA
 ne:dx≠x
section
variable {prog:Program}{w:World}{A:Around}{E:Value->Shared->Prop}{s:Shared}{K:PySem.W.Frag}{x dx C f:Addr}{mA:Str->Option Value}{name:Str}{v:Value}
end
section
variable {P:Program}{w:World}{H H':Hp}{h h':Heap}{a C dx:Addr}{fs fs':List (Str×V)}
end
structure Cls(K:PySem.W.Frag)(C:Addr):Prop where
 pg:PySem.W.plainGet K C Str.empty=true
 hd:PySem.W.hasDictIn K C=true
 po:PySem.W.plainOver K C=true
 sa:PySem.W.findIn K (.ref C) "__setattr__" = some (some (.builtin "object.__setattr__"))
structure Con(K:PySem.W.Frag)(C:Addr)(f:Str)(v:V)(u:Value):Prop where
 at_:PySem.W.findIn K (.ref C) f=some (some u)
 rel:RelV v u
 get:PySem.W.specialIn K u "__get__" = some none
 cp:PySem.W.copiedNames.contains f=false
structure Meth(K:PySem.W.Frag)(C:Addr)(m:Str)(f:Addr):Prop where
 at_:PySem.W.findIn K (.ref C) m=some (some (.ref f))
 fn:PySem.W.isFn K (.ref f)=true
 kp:PySem.W.keepIn K (.ref f)=true
section
variable {X:Cx}{pins:List (Addr×Obj)}{σ:St}{H:Hp}{s:Shared}{a C dx:Addr}{fs:List (Str×V)}{f:Str}{v:V}{A:Around}{E:Value->Shared->Prop}
end
section
variable {X:Cx}{o e value:Expr}{f:Str}{pos pos' tpos:Pos}{ta tv:TE}
end
section
variable {X:Cx}{pins:List (Addr×Obj)}{σ:St}{H:Hp}{s:Shared}{A:Around}{E:Value->Shared->Prop}{Q:Value->Shared->Prop}{c:Value}{b:Bool}
inductive TyOf(K:PySem.W.Frag)(H:Hp):V->Value->Prop where
 | non:TyOf K H .non (.type "NoneType")
 | bl (x:Bool):TyOf K H (.bl x) (.type "bool")
 | int (i:Int):TyOf K H (.int i) (.type "int")
 | str (x:Str):TyOf K H (.str x) (.type "str")
 | flt (x:UInt64):TyOf K H (.flt x) (.type "float")
 | lst {a:Addr} {xs:List V} (e:H a=some (.lst xs)):TyOf K H (.ref a) (.type "list")
 | frz {a:Addr} {o:Obj} {xs:List V} (e:H a=some (.frz o (.lst xs))):TyOf K H (.ref a) (.type "list")
 | tup {a:Addr} {xs:List V} (e:H a=some (.tup xs)):TyOf K H (.ref a) (.type "tuple")
 | dK {a:Addr} {kvs:List (Key×V)} (e:H a=some (.dK kvs)):TyOf K H (.ref a) (.type "dict")
 | dT {a:Addr} {kvs:List (List Key×V)} (e:H a=some (.dT kvs)):TyOf K H (.ref a) (.type "dict")
 | ins {a C dx:Addr} {fs:List (Str×V)} (e:H a=some (.ins C dx fs)) (cl:Cls K C) (ha:PySem.W.findIn K (.ref C) "__class__" = some (some (.builtin "object.__class__")))
   (hn:PySem.W.specialIn K (.builtin "object.__class__") "__get__" = some (some (.builtin "getset_descriptor.__get__"))) (htk:PySem.W.takesIn K (.builtin "object.__class__")=some true)
   (hm:PySem.W.mroIn K C (.type "object")=some true):TyOf K H (.ref a) (.ref C)
end
structure Room(k:Nat)(A:Around):Prop where
 hd:A.handled=none
 dp:A.depth+3 * k+5<recursionLimit
 un:A.units+16 * k+200<cLine
 gd:A.guards=some []
theorem Room.mono{j k:Nat}{A:Around}(r:Room k A)(h:j<=k):Room j A:=⟨r.hd,by have:=r.dp;omega,by have:=r.un;omega,r.gd⟩
theorem Room.deeper{k:Nat}{A:Around}(r:Room (k+1) A)(env:Env):Room k (A.deeper env) :=
 ⟨r.hd,by have:=r.dp;show A.depth+1+3 * k+5<_;omega,by have:=r.un;show A.units+3+16 * k+200<_;omega,r.gd⟩
theorem Room.in1{k:Nat}{A:Around}(r:Room (k+1) A):Room k A.in1 :=
 ⟨r.hd,by have:=r.dp;show A.depth+3 * k+5<_;omega,by have:=r.un;show A.units+1+16 * k+200<_;omega,r.gd⟩
theorem Room.depth{k:Nat}{A:Around}(r:Room k A):A.depth<recursionLimit:=by have:=r.dp;omega
theorem Room.units{k:Nat}{A:Around}(r:Room k A):A.units+64<cLine:=by have:=r.un;omega
theorem Room.units0{k:Nat}{A:Around}(r:Room k A):A.units<cLine:=by have:=r.un;omega
def tNil:TA:=fun _ H Q=>Q [] H
def tCons(ta:TE)(tr:TA):TA:=fun σ H Q=>ta σ H fun x H1=>tr σ H1 fun xs H2=>Q (x::xs) H2
section
variable {X:Cx}{e:Expr}{es:List Expr}{te:TE}{t:TA}{pos:Pos}
theorem pa_nil:PA X [] tNil:=fun _ _ _ _ H Q I h=>Calls.spliced_nil ⟨[],H,I,.nil,h⟩
theorem pa_cons(ha:PE X e te)(hr:PA X es t)(hs:starEach (e::es) X.env=(false,eval e X.env)::starEach es X.env:=by rfl):PA X (e::es) (tCons te t):=by
 intro pos pins s σ H Q I h
 rw [hs]
 show wpAny _ _ (spliced ((false,eval e X.env)::backTo pos (starEach es X.env))) _ _ s
 refine Calls.spliced_cons (thn (ha pins s σ H _ I h) fun u s1 ⟨x,H1,I1,r1,q1⟩=>?_)
 exact thn (hr pos pins s1 σ H1 _ I1 q1) fun us s2 ⟨xs,H2,I2,r2,q2⟩=>⟨x::xs,H2,I2,.cons r1 r2,q2⟩
def tTup(t:TA):TE:=fun σ H Q=>t σ H fun xs H1=>xs.length<=sizeLine/\∀ p,H1 p=none->Q (.ref p) (upd H1 p (.tup xs))
def tLst(t:TA):TE:=fun σ H Q=>t σ H fun xs H1=>xs.length<=sizeLine/\∀ p,H1 p=none->Q (.ref p) (upd H1 p (.lst xs))
theorem pe_tup{x1}(h:PA X es t):PE X (.Tuple es x1 pos) (tTup t):=by
 intro pins s σ H Q I hq
 refine wpAny_Tuple_spliced (thn (h pos pins s σ H _ I hq) fun us s1 ⟨xs,H1,I1,r,z,q⟩=>⟨by rw [<-r.length];exact z,?_⟩)
 have hf:H1 s1.heap.objs.size=none:=I1.hok.fresh (Nat.le_refl _)
 refine⟨.ref s1.heap.objs.size,upd H1 s1.heap.objs.size (.tup xs),I1.laid (t':=s1.toks) (fun b u e=>Heap.get?_push_of_some _ e) (Nat.le_refl _) ?_,rfl,q _ hf⟩
 exact⟨z,us,r,⟨_,Heap.get?_push_size _ rfl,rfl,⟨_,rfl⟩,rfl⟩⟩
theorem pe_lst(h:PA X es t):PE X (.List es pos) (tLst t):=by
 intro pins s σ H Q I hq
 refine wpAny_List_spliced (thn (h pos pins s σ H _ I hq) fun us s1 ⟨xs,H1,I1,r,z,q⟩=>⟨by rw [<-r.length];exact z,?_⟩)
 have hf:H1 s1.heap.objs.size=none:=I1.hok.fresh (Nat.le_refl _)
 refine⟨.ref s1.heap.objs.size,upd H1 s1.heap.objs.size (.lst xs),I1.laid (t':=s1.toks) (fun b u e=>Heap.get?_push_of_some _ e) (Nat.le_refl _) ?_,rfl,q _ hf⟩
 exact⟨z,us,0,r,Heap.get?_push_size _ rfl⟩
end
abbrev Sp:=List V->Hp->VK->XK->Prop
abbrev CXT:=List Env->Hp->Shared->XK->Value->Shared->Prop
structure Env0(P:Program)(w:World)(K:PySem.W.Frag)(mg:Str->Option Value)(base:Heap)(A:Around)(outer:List Env)(s:Shared)(H:Hp):Prop where
 frames:A.frames=some outer
 mod:Mod K mg base
 bs:∀ b o,base.get? b=some o->s.heap.get? b=some o/\H b=none
 bsz:base.objs.size<=s.heap.objs.size
 funs:s.heap.FunFrames base outer
 frf:∀ b∈frs outer,H b=none
 hok:HOk P w H s.heap
 bare:AllBare s.gens
def CE(outer:List Env)(P:Program)(w:World)(H:Hp)(s:Shared)(Q:VK)(u:Value)(s':Shared):Prop :=
 ∃ v H',s'.os=s.os/\AllBare s'.gens/\Un (frs outer) [] H H' s.heap s'.heap/\HOk P w H' s'.heap/\RelV v u/\Q v H'
def CR(CX:CXT)(outer:List Env)(P:Program)(w:World)(H:Hp)(s:Shared)(Q:VK)(E:XK)(r:Result)(s':Shared):Prop :=
 match r with
 | .ok (.ret u)=>CE outer P w H s Q u s'
 | .ok _=>False
 | .error e=>CX outer H s E e s'
structure FnOk(P:Program)(w:World)(K:PySem.W.Frag)(mg:Str->Option Value)(base:Heap)(CX:CXT)(k:Nat)(f:Addr)(fd:FuncData)(ps:List Str)(sp:Sp):Prop where
 len:∀ vs H Q E,sp vs H Q E->vs.length=ps.length
 run:∀(A:Around) (outer:List Env) (s:Shared) (H:Hp) (args:Args) (us:List Value) (vs:List V) (Q:VK) (E:XK),Room k A->Env0 P w K mg base A outer s H->BindsTo s fd args (ps.zip us)->Vals vs us->sp vs H Q E ->
  codeAny (model P w) A (.call (.ref f) args) (CR CX outer P w H s Q E) s
theorem FnOk.mono{P:Program}{w:World}{K:PySem.W.Frag}{mg:Str->Option Value}{base:Heap}{CX:CXT}{j k:Nat}{f:Addr}{fd:FuncData}{ps:List Str}{sp:Sp}(F:FnOk P w K mg base CX j f fd ps sp)(h:j<=k):
  FnOk P w K mg base CX k f fd ps sp:=⟨F.len,fun A outer s H args us vs Q E hr=>F.run A outer s H args us vs Q E (hr.mono h)⟩
theorem FnOk.imp{P:Program}{w:World}{K:PySem.W.Frag}{mg:Str->Option Value}{base:Heap}{CX:CXT}{k:Nat}{f:Addr}{fd:FuncData}{ps:List Str}{sp sp':Sp}(F:FnOk P w K mg base CX k f fd ps sp)
  (h:∀ vs H Q E,sp' vs H Q E->sp vs H Q E):FnOk P w K mg base CX k f fd ps sp' :=
 ⟨fun vs H Q E q=>F.len vs H Q E (h _ _ _ _ q),fun A outer s H args us vs Q E hr he hb hv hs=>F.run A outer s H args us vs Q E hr he hb hv (h _ _ _ _ hs)⟩
theorem Env0.in1{P:Program}{w:World}{K:PySem.W.Frag}{mg:Str->Option Value}{base:Heap}{A:Around}{outer:List Env}{s:Shared}{H:Hp}(e:Env0 P w K mg base A outer s H):
  Env0 P w K mg base A.in1 outer s H:=⟨e.frames,e.mod,e.bs,e.bsz,e.funs,e.frf,e.hok,e.bare⟩
section
variable {X:Cx}{pins:List (Addr×Obj)}{σ:St}{H:Hp}{s s':Shared}
theorem Inv.env0(I:Inv X pins σ H s):Env0 X.prog X.w X.K X.mg X.base X.A X.stack s H :=
 ⟨I.ok.frames,I.ok.mod,I.bs,Nat.le_trans I.ok.bsz I.sz,I.stack,I.stkFree,I.hok,I.bare⟩
theorem Inv.after{Q:VK}{u:Value}(I:Inv X pins σ H s)(h:CE X.stack X.prog X.w H s Q u s'):EP X pins σ Q u s':=by
 obtain⟨v,H',os,bare,un,hok,r,q⟩:=h
 obtain⟨hh,g,d,t,os'⟩:=s'
 obtain rfl:os'=s.os:=os
 exact⟨v,H',I.call (h':=hh) (g':=g) (d':=d) (t':=t) (ch:=[]) un hok bare (fun b z=>absurd z (by simp)),r,q⟩
end
def tCall(sp:Sp)(dvs:List V)(E:XK)(t:TA):TE:=fun σ H Q=>t σ H fun vs H1=>sp (vs++dvs) H1 Q E
def Binds(K:PySem.W.Frag)(fd:FuncData)(ps:List Str)(ds:List Value):Prop :=
 ∀(s:Shared) (us:List Value),K.In s.heap->(us++ds).length=ps.length->BindsTo s fd ⟨us,[]⟩ (ps.zip (us++ds))
theorem Binds.all{K:PySem.W.Frag}{fd:FuncData}{ps:List Str}(h:∀ us:List Value,us.length=ps.length->bindArgs fd ⟨us,[]⟩=pure (ps.zip us)):Binds K fd ps []:=fun s us _ hl=>by
 rw [List.append_nil] at hl ⊢
 exact .of_eq (h us hl)
def Passes(CX:CXT)(X:Cx)(E:XK):Prop:=∀(pins:List (Addr×Obj)) (σ:St) (H:Hp) (s:Shared) (e:Value) (s':Shared),Inv X pins σ H s->CX X.stack H s E e s'->X.xe e s'
section
variable {X:Cx}{CX:CXT}{k:Nat}{f C:Addr}{fd:FuncData}{ps:List Str}{sp:Sp}{dvs:List V}{ds:List Value}{E:XK}{x m:Str}{p pos apos:Pos}{e o:Expr}{es:List Expr}{ta:TE}{t:TA}
theorem run_fn{pins:List (Addr×Obj)}{σ:St}{H:Hp}{s:Shared}{Q:VK}{us:List Value}{vs:List V}(F:FnOk X.prog X.w X.K X.mg X.base CX k f fd ps sp)(hr:Room k X.A)(hb:Binds X.K fd ps ds)(hd:Vals dvs ds)(hx:Passes CX X E)
  (I:Inv X pins σ H s) (r:Vals vs us) (h:sp (vs++dvs) H Q E):wpAny (model X.prog X.w) X.A (call (.ref f) us) (EP X pins σ Q) X.xe s:=by
 have r2:Vals (vs++dvs) (us++ds):=r.append hd
 have hl:(us++ds).length=ps.length:=by rw [<-r2.length];exact F.len _ _ _ _ h
 refine wpAny_call (codeAny_mono (F.run X.A X.stack s H ⟨us,[]⟩ (us++ds) (vs++dvs) Q E hr I.env0 (hb s us I.kIn hl) r2 h) fun r s' hq=>?_)
 cases r with
 | error e=>exact hx pins σ H s e s' I hq
 | ok fl =>
  cases fl with
  | ret u=>exact I.after hq
  | next=>exact False.elim hq
  | brk=>exact False.elim hq
  | cont=>exact False.elim hq
theorem pe_call(F:FnOk X.prog X.w X.K X.mg X.base CX k f fd ps sp)(hr:Room k X.A)(hg:Gl X x)(hm:X.mg x=some (.ref f))(hk:PySem.W.keepIn X.K (.ref f)=true)(hb:Binds X.K fd ps ds)(hd:Vals dvs ds)(hx:Passes CX X E)
  (ha:PA X (e::es) t) (hdb:(x == ("__debug__" : Str))=false:=by decide) (he:starEach (e::es) X.env=(false,eval e X.env)::starEach es X.env:=by rfl) (hpl:(backTo pos (starEach es X.env)).any (·.1)=false:=by rfl) :
  PE X (.Call (.Name x p) (e::es) [] pos) (tCall sp dvs E t):=by
 intro pins s σ H Q I h
 refine wpAny_Call_Name_kw (ld_glob I hg hm ?_ hdb)
 refine PySem.W.callWith_K (h₀:=X.base) I.ok.mod.kin hk (thn (ha pos pins s σ H _ I h) fun us s1 ⟨vs,H1,I1,r,q⟩=>⟨I1.kIn,?_⟩) he hpl
 exact run_fn F hr hb hd hx I1 r q
structure Mk(K:PySem.W.Frag)(C f:Addr):Prop where
 makes:PySem.W.makesIn K C=true
 init:PySem.W.findIn K (.ref C) "__init__" = some (some (.ref f))
 fn:PySem.W.isFn K (.ref f)=true
 kp:PySem.W.keepIn K (.ref C)=true
end
section
variable {X:Cx}{CX:CXT}{k:Nat}{f C:Addr}{fd:FuncData}{ps ks:List Str}{sp:Sp}{E:XK}{x m:Str}{p pos apos kpos:Pos}{e o:Expr}{es:List Expr}{kws:List Keyword}{te ta:TE}{t tk:TA}{nm:Option Str}
structure KBinds(K:PySem.W.Frag)(fd:FuncData)(ps ks:List Str)(g:List Value->List Value->List Value)(gV:List V->List V->List V):Prop where
 to:∀(s:Shared) (us ws:List Value),K.In s.heap->(g us ws).length=ps.length->BindsTo s fd ⟨us,ks.zip ws⟩ (ps.zip (g us ws))
 rel:∀{vs:List V} {us:List Value} {zs:List V} {ws:List Value},Vals vs us->Vals zs ws->Vals (gV vs zs) (g us ws)
variable {g:List Value->List Value->List Value}{gV:List V->List V->List V}
end
structure FnScope(N P:List Str)(sc:Scope):Prop where
 kind:sc.kind=.function
 co:sc.isCoroutine=false
 gen:sc.isGenerator=false
 nd:N.Nodup
 pre:N.take P.length=P
 par:∀ x∈P,sc.names.lookup x=some .local\/sc.names.lookup x=some .cell
 nofree:∀ y∈sc.names,y.2 ≠ .free
theorem bindL_out{kindOf:Str->Option NameKind}{x:Str}:∀{binds:List (Str×Value)} {m:Str->Option Value},(∀ v,(x,v)∉binds)->bindL kindOf binds m x=m x
 | [],_,_=>rfl
 | (n,v)::r,m,h=>by
  unfold bindL
  rw [bindL_out fun w hw=>h w (List.mem_cons_of_mem _ hw)]
  split
  ·have:x≠n:=by rintro rfl;exact h v List.mem_cons_self
   simp [this]
  ·rfl
theorem bindC_out{kindOf:Str->Option NameKind}{x:Str}:∀{binds:List (Str×Value)} {m:Str->Option Value},(∀ v,(x,v)∉binds)->bindC kindOf binds m x=m x
 | [],_,_=>rfl
 | (n,v)::r,m,h=>by
  unfold bindC
  rw [bindC_out fun w hw=>h w (List.mem_cons_of_mem _ hw)]
  split
  ·rfl
  ·have:x≠n:=by rintro rfl;exact h v List.mem_cons_self
   simp [this]
theorem bindL_get{kindOf:Str->Option NameKind}{x:Str}{v:Value}:∀{P:List Str} {vs:List Value} {i:Nat} {m:Str->Option Value},P.Nodup->P[i]?=some x->vs[i]?=some v->kindOf x=some .local ->
  bindL kindOf (P.zip vs) m x=some v
 | [],_,_,_,_,h,_,_=>by simp at h
 | _::_,[],_,_,_,_,h,_=>by simp at h
 | p::P,w::vs,0,m,nd,h1,h2,hk=>by
  simp at h1 h2;subst h1;subst h2
  show bindL kindOf ((p,w)::P.zip vs) m p=_
  unfold bindL
  rw [bindL_out fun v hv=>(List.nodup_cons.mp nd).1 (List.of_mem_zip hv).1,if_pos hk]
  simp
 | p::P,w::vs,i+1,m,nd,h1,h2,hk=>by
  show bindL kindOf ((p,w)::P.zip vs) m x=_
  unfold bindL
  exact bindL_get (i:=i) (List.nodup_cons.mp nd).2 (by simpa using h1) (by simpa using h2) hk
theorem bindC_get{kindOf:Str->Option NameKind}{x:Str}{v:Value}:∀{P:List Str} {vs:List Value} {i:Nat} {m:Str->Option Value},P.Nodup->P[i]?=some x->vs[i]?=some v->kindOf x≠some .local ->
  bindC kindOf (P.zip vs) m x=some v
 | [],_,_,_,_,h,_,_=>by simp at h
 | _::_,[],_,_,_,_,h,_=>by simp at h
 | p::P,w::vs,0,m,nd,h1,h2,hk=>by
  simp at h1 h2;subst h1;subst h2
  show bindC kindOf ((p,w)::P.zip vs) m p=_
  unfold bindC
  rw [bindC_out fun v hv=>(List.nodup_cons.mp nd).1 (List.of_mem_zip hv).1,if_neg hk]
  simp
 | p::P,w::vs,i+1,m,nd,h1,h2,hk=>by
  show bindC kindOf ((p,w)::P.zip vs) m x=_
  unfold bindC
  exact bindC_get (i:=i) (List.nodup_cons.mp nd).2 (by simpa using h1) (by simpa using h2) hk
def start(N:List Str)(vs:List V):St:=vs.map some++List.replicate (N.length-vs.length) none
def cxOf(CX:CXT)(P:Program)(w:World)(K:PySem.W.Frag)(mg:Str->Option Value)(base:Heap)(N:List Str)(qual:Str)(scope:Scope)(f:Addr)(cd:Value)(A:Around)(outer:List Env)(s:Shared)(H:Hp)(E:XK):Cx where
 prog:=P
 w:=w
 K:=K
 mg:=mg
 base:=base
 A:=A.deeper (envOfC qual scope s.heap.objs.size f cd)
 N:=N
 s₀:=s
 H₀:=H
 env:=envOfC qual scope s.heap.objs.size f cd
 outer:=outer
 stack:=envOfC qual scope s.heap.objs.size f cd::outer
 ex:=[]
 calm:=true
 fn:=fun _=>true
 pn:=[]
 xe:=fun e s'=>wpAny (model P w) (A.deeper (envOfC qual scope s.heap.objs.size f cd)) (leaving (envOfC qual scope s.heap.objs.size f cd) e) (fun _ s''=>CX outer H s E e s'') (fun e' s''=>CX outer H s E e' s'') s'
theorem cell_has{sc:Scope}{n:Nat}{x:Str}(h:sc.names.lookup x=some .cell):∃ c,(cellsFrom n sc.names []).lookup x=some c:=by
 have q:=PySem.W.cellsFrom_some sc.names n [] (.inl h)
 exact Option.isSome_iff_exists.mp q
theorem inv_start{CX:CXT}{P:Program}{w:World}{K:PySem.W.Frag}{mg:Str->Option Value}{base:Heap}{N ps:List Str}{qual:Str}{scope:Scope}{f:Addr}{cd:Value}{A:Around}{outer:List Env}{s s1:Shared}{H:Hp}{E:XK}{us:List Value}{vs:List V}
  (S:FnScope N ps scope) (hd:A.handled=none) (e0:Env0 P w K mg base A outer s H) (hl:vs.length=ps.length) (r:Vals vs us)
  (x:InCallC s s.heap.objs.size (bindL (envOfC qual scope s.heap.objs.size f cd).kindOf (ps.zip us) fun _=>none) (cellsFrom (s.heap.objs.size+1) scope.names []) (bindC (envOfC qual scope s.heap.objs.size f cd).kindOf (ps.zip us) fun _=>none) s1) :
  Inv (cxOf CX P w K mg base N qual scope f cd A outer s H E) [] (start N vs) H s1:=by
 have hpl:ps.length<=N.length:=by have:=congrArg List.length S.pre;rw [List.length_take] at this;omega
 obtain⟨h1,tk,rfl,hk⟩:=x.done
 have noA:∀ b:Addr,b∉(cxOf CX P w K mg base N qual scope f cd A outer s H E).ex:=fun b z=>absurd (show b∈([]:List Addr) from z) (by simp)
 refine⟨⟨e0.mod,S.kind,rfl,rfl,Nat.le_refl _,fun y z c h1 h2=>?_,fun y hy=>?_,fun y c _ h=>?_,fun _=>hd,Around.frames_deeper e0.frames,.inr ⟨rfl,rfl⟩,fun b z=>absurd z (noA b),e0.bs,e0.bsz,fun b _ _=>noA b,fun b z=>absurd z (noA b),e0.funs,e0.frf⟩,
  rfl,e0.bare,Un.kept hk,⟨_,x.toInCall.ns,fun i y v h1 h2 h3=>?_⟩,fun y c h=>⟨_,x.cell y c h⟩,e0.hok.fresh (Nat.le_refl _),fun y c h=>?_,fun p hp=>absurd (show p∈([]:List (Addr×Obj)) from hp) (by simp),e0.hok.kept hk,?_⟩
 ·exact name_of_addr x.apart (PySem.mem_of_lookup h1) (PySem.mem_of_lookup h2)
 ·have hy:scope.names.lookup y=some .cell\/scope.names.lookup y=some .free:=hy
  rcases hy with hy | hy
  ·exact cell_has hy
  ·exact absurd rfl (S.nofree _ (PySem.mem_of_lookup hy))
 ·exact Nat.le_of_lt (x.above y c (PySem.mem_of_lookup h))
 ·have hi:i<vs.length:=by
   unfold start at h2
   by_cases hi:i<vs.length
   ·exact hi
   ·rw [List.getElem?_append_right (by simpa using hi)] at h2
    rw [List.getElem?_replicate] at h2
    split at h2 <;> cases h2
  have ha:vs[i]?=some v:=by
   unfold start at h2
   rw [List.getElem?_append_left (by simpa using hi),List.getElem?_map] at h2
   cases e:vs[i]? with
   | none=>rw [e] at h2;cases h2
   | some a=>rw [e] at h2;cases h2;rfl
  obtain⟨u,hu,rv⟩:=r.get ha
  have hp:ps[i]?=some y:=by
   rw [<-S.pre,List.getElem?_take_of_lt (by omega)];exact h1
  have ndP:ps.Nodup:=by rw [<-S.pre];exact S.nd.sublist (List.take_sublist _ _)
  refine⟨u,rv,?_⟩
  rcases S.par y (List.mem_of_getElem? hp) with k | k
  ·exact .inl ⟨k,bindL_get ndP hp hu k⟩
  ·obtain⟨c,e⟩:=cell_has (n:=s.heap.objs.size+1) k
   refine .inr ⟨.inl k,c,e,?_⟩
   have q:=x.cell y c e
   rw [bindC_get ndP hp hu (by show scope.names.lookup y≠_;rw [k];decide)] at q
   exact q
 ·exact e0.hok.fresh (Nat.le_of_lt (x.above y c (PySem.mem_of_lookup h)))
 ·unfold start
  show _=N.length
  rw [List.length_append,List.length_map,List.length_replicate]
  omega
theorem fn_of{CX:CXT}{P:Program}{w:World}{K:PySem.W.Frag}{mg:Str->Option Value}{base:Heap}{k:Nat}{f:Addr}{name qual:Str}{params:Arguments}{body:List Stmt}{scope:Scope}{dV kV doc pm cdv ct oc:Value}{an od:Option Addr}
  {osl:Array (Option Value)} {N ps:List Str} {sp:Sp} (lk:K.lookup f=some ⟨oc,od,.func (PySem.W.fnOf name qual params body scope dV kV doc pm an cdv ct),osl⟩) (hcd:PySem.W.codeIn K cdv qual=true) (S:FnScope N ps scope)
  (len:∀ vs H Q E,sp vs H Q E->vs.length=ps.length)
  (hbody:∀(A:Around) (outer:List Env) (s:Shared) (H:Hp) (vs:List V) (Q:VK) (E:XK),Room k (A.deeper (envOfC qual scope s.heap.objs.size f cdv))->sp vs H Q E ->
   ∃ t,PSs (cxOf CX P w K mg base N qual scope f cdv A outer s H E) body t/\t { nx:=fun _ H'=>Q .non H',rt:=Q } (start N vs) H) :
  FnOk P w K mg base CX (k+1) f (PySem.W.fnOf name qual params body scope dV kV doc pm an cdv ct) ps sp:=by
 refine⟨len,fun A outer s H args us vs Q E hr e0 hb r hsp=>?_⟩
 have hl:=len _ _ _ _ hsp
 have KX:K.In s.heap:=e0.mod.kin.keeps fun b o e=>(e0.bs b o e).1
 have lim:s.heap.NoLimit:=e0.mod.nolimit.keeps fun b o e=>(e0.bs b o e).1
 have hkind:∀ y∈ps.zip us,scope.names.lookup y.1=some .local\/(scope.names.lookup y.1=some .cell/\((cellsFrom (s.heap.objs.size+1) scope.names []).lookup y.1).isSome=true):=fun⟨n,v⟩ hy=>by
  rcases S.par n (List.of_mem_zip hy).1 with q | q
  ·exact .inl q
  ·exact .inr ⟨q,PySem.W.cellsFrom_some _ _ _ (.inl q)⟩
 refine codeAny_call_function hr.depth (KX _ _ lk) rfl S.co S.gen rfl (PySem.W.codeRec_of KX hcd) (hb _ _ _ _ ?_)
 refine wpAny_newFunctionEnv_cells S.kind hkind fun env he s1 x=>?_
 subst he
 refine⟨lim.keeps x.toInCall.keep,codeAny_func ?_⟩
 obtain⟨t,ht,hq⟩:=hbody A outer s H vs Q E (hr.deeper _) hsp
 have I:Inv (cxOf CX P w K mg base N qual scope f cdv A outer s H E) [] (start N vs) H s1:=inv_start S hr.hd e0 hl r x
 refine wpAny_mono (ht [] s1 (start N vs) H _ I hq) (fun fl s' hs=>?_) fun e s' hs=>hs
 have fin:∀{σ':St} {H':Hp} {v:V} {u:Value},Inv (cxOf CX P w K mg base N qual scope f cdv A outer s H E) [] σ' H' s'->RelV v u->Q v H'->CE outer P w H s Q u s' :=
  fun{σ' H' v u} J rv q=>⟨v,H',J.os,J.bare,J.base,J.hok,rv,q⟩
 cases fl with
 | ret u =>
  obtain⟨v,σ',H',J,rv,q⟩:=hs
  exact fin J rv q
 | next =>
  obtain⟨σ',H',J,q⟩:=hs
  exact fin (v:=V.non) (u:=Value.none) J rfl q
 | brk =>
  obtain⟨_,_,_,q⟩:=hs
  exact False.elim q
 | cont =>
  obtain⟨_,_,_,q⟩:=hs
  exact False.elim q
section
variable {X:Cx}{x:Str}{p pos:Pos}{e:Expr}{es:List Expr}{t:TA}{id T:String}{r:List V->Hp->VK->Prop}
def tCB(r:List V->Hp->VK->Prop)(t:TA):TE:=fun σ H Q=>t σ H fun vs H1=>r vs H1 Q
theorem pe_callB(hc:CallR X (.builtin id) r)(hg:Gl X x)(hm:X.mg x=none)(hv:bootBuiltins x=some (.builtin id))(ha:PA X (e::es) t)(hn:x ≠ "__name__" := by decide)(hdb:(x == ("__debug__" : Str))=false:=by decide)
  (he:starEach (e::es) X.env=(false,eval e X.env)::starEach es X.env:=by rfl) (hpl:(backTo pos (starEach es X.env)).any (·.1)=false:=by rfl):PE X (.Call (.Name x p) (e::es) [] pos) (tCB r t):=by
 intro pins s σ H Q I h
 refine wpAny_Call_Name_kw (ld_blt I hg hm hv ?_ hn hdb)
 exact PyProof.Rows.callWith_builtin1 (thn (ha pos pins s σ H _ I h) fun us s1 ⟨vs,H1,I1,r1,q1⟩=>hc pins s1 σ H1 vs us Q I1 r1 q1) he hpl
theorem pe_callTy(hc:CallR X (.type T) r)(hg:Gl X x)(hm:X.mg x=none)(hv:bootBuiltins x=some (.type T))(ha:PA X (e::es) t)(hn:x ≠ "__name__" := by decide)(hdb:(x == ("__debug__" : Str))=false:=by decide)
  (he:starEach (e::es) X.env=(false,eval e X.env)::starEach es X.env:=by rfl) (hpl:(backTo pos (starEach es X.env)).any (·.1)=false:=by rfl):PE X (.Call (.Name x p) (e::es) [] pos) (tCB r t):=by
 intro pins s σ H Q I h
 refine wpAny_Call_Name_kw (ld_blt I hg hm hv ?_ hn hdb)
 exact PyProof.Rows.callWith_type1 (thn (ha pos pins s σ H _ I h) fun us s1 ⟨vs,H1,I1,r1,q1⟩=>hc pins s1 σ H1 vs us Q I1 r1 q1) he hpl
end
end L2
namespace HT
open PySem PyProof.Rows
def lexLt:List Int->List Int->Bool
 | [],[]=>false
 | [],_::_=>true
 | _::_,[]=>false
 | x::xs,y::ys=>if x=y then lexLt xs ys else decide (x<y)
theorem lexLt_cons(x y:Int)(xs ys:List Int):lexLt (x::xs) (y::ys)=if x=y then lexLt xs ys else decide (x<y):=rfl
theorem lexLt_nil_nil:lexLt [] []=false:=rfl
theorem lexLt_nil_cons(y:Int)(ys:List Int):lexLt [] (y::ys)=true:=rfl
theorem lexLt_cons_nil(x:Int)(xs:List Int):lexLt (x::xs) []=false:=rfl
theorem eqAt_int(A:Around)(s:Shared)(a:Int)(t:Tok)(c:Int)(u:Tok):∃ e,SeqAt.EqAt A s (.int a t) (.int c u) e/\(e=true↔a=c) :=
 ⟨(a == c),SeqAt.EqAt.int_int a t c u,by simp⟩
theorem rcLt_int(A:Around)(s:Shared)(a:Int)(t:Tok)(c:Int)(u:Tok)(prog:Program)(w:World)(E:Value->Shared->Prop)(Q:Value->Shared->Prop)(h:Q (.bool (decide (a<c))) s):
  wpAny (model prog w) A (richCompare .Lt (.int a t) (.int c u)) Q E s :=
 (PyProof.Rows.lt_int h:wpAny (model prog w) A (compareOp .Lt (.int a t) (.int c u)) Q E s)
section
open PySem.SeqAt
open PySem.AutoSeq1 (wpAny_loadPart')
open PySem.MeetsSeq PySem.MeetsSeq2 PySem.MeetsSeq3
theorem tuple_lt_ints(l b:Addr)(items items2:Array Value)(n n2:Nat)(dd dd2:Option Addr)(sl sl2:Array (Option Value))(ns ms:List Int)(hi:IntsAre items.toList ns)(hj:IntsAre items2.toList ms):
  Meets (Builtin.«tuple.__lt__» ⟨[.ref l,.ref b],[]⟩)
   (fun _ R s=>s.heap.get? l=some { cls:=.type "tuple",dict:=dd,data:=.seq items n,slots:=sl }/\s.heap.get? b=some { cls:=.type "tuple",dict:=dd2,data:=.seq items2 n2,slots:=sl2 } /\
    R (.ok (.ret (.bool (lexLt ns ms)))) s) :=
 .of_wp fun prog w A R s h=>by
  obtain⟨hp,g,d,tk,os⟩:=s;obtain⟨hl,hb,h⟩:=h
  have f2:=AutoSeq1.sub_tuple_tuple
  have z1:items.size=ns.length:=by rw [<-hi.length];simp
  have z2:items2.size=ms.length:=by rw [<-hj.length];simp
  wp_walk using wpAny_loadPart' hl,wpAny_loadPart' hb,wpAny_forIn_list _ (fun rest b s'=>b.1=none/\s'=⟨hp,g,d,tk,os⟩/\∃(vs ws:List Value) (ns' ms':List Int),rest=vs.zip ws /\
   IntsAre vs ns'/\IntsAre ws ms'/\ns'.length+items2.size=ms'.length+items.size/\R (.ok (.ret (.bool (lexLt ns' ms')))) ⟨hp,g,d,tk,os⟩) _
  case turn =>
   rintro ⟨y,x⟩ rest b s' ⟨hb',rfl,vs,ws,ns',ms',hz,hvi,hwi,hlen,hR⟩
   cases hvi with
   | nil=>rw [List.zip_nil_left] at hz;cases hz
   | cons a t hvi' =>
    cases hwi with
    | nil=>rw [List.zip_nil_right] at hz;cases hz
    | cons c u hwi' =>
     rw [List.zip_cons_cons] at hz
     injection hz with hyx hrest
     injection hyx with hy hx
     subst hy hx
     rw [lexLt_cons] at hR
     simp only [List.length_cons] at hlen
     obtain⟨e,he,hiff⟩:=eqAt_int A.in1 ⟨hp,g,d,tk,os⟩ a t c u
     refine wpAny_bind (he prog w _ _ ?_)
     cases e with
     | true =>
      rw [if_pos (hiff.mp rfl)] at hR
      wp_walk
      exact⟨rfl,rfl,_,_,_,_,hrest,hvi',hwi',by omega,hR⟩
     | false =>
      rw [if_neg (fun q=>absurd (hiff.mpr q) Bool.false_ne_true)] at hR
      have hri:=rcLt_int A.in1 ⟨hp,g,d,tk,os⟩ a t c u prog w
      wp_walk using hri
      exact⟨_,rfl,by simpa using hR⟩
  case fin =>
   rintro ⟨b1,b2⟩ s' ⟨hb',rfl,vs,ws,ns',ms',hz,hvi,hwi,hlen,hR⟩
   simp only at hb'
   subst hb'
   have hv:lexLt ns' ms'=decide (items.size<items2.size):=by
    cases hvi with
    | nil =>
     cases hwi with
     | nil =>
      simp only [List.length_nil] at hlen
      rw [lexLt_nil_nil]
      exact(decide_eq_false (by omega)).symm
     | cons c u hw =>
      simp only [List.length_nil,List.length_cons] at hlen
      rw [lexLt_nil_cons]
      exact(decide_eq_true (by omega)).symm
    | cons a t hv =>
     cases hwi with
     | nil =>
      simp only [List.length_nil,List.length_cons] at hlen
      rw [lexLt_cons_nil]
      exact(decide_eq_false (by omega)).symm
     | cons c u hw =>
      rw [List.zip_cons_cons] at hz
      cases hz
   rw [hv] at hR
   wp_walk
   exact⟨_,rfl,by simpa [Builtin.Tuple.tupleCompareSizes] using hR⟩
  case h =>
   exact⟨rfl,rfl,items.toList,items2.toList,ns,ms,rfl,hi,hj,by omega,h⟩
end
section
variable {prog:Program}{w:World}{A:Around}{E:Value->Shared->Prop}{s:Shared}
theorem lt_tupInts{l b:Addr}{items items2:Array Value}{ns ms:List Int}{Q:Value->Shared->Prop}(hl:IsTup s.heap l items)(hb:IsTup s.heap b items2)(hi:IntsAre items.toList ns)(hj:IntsAre items2.toList ms)
  (hu:A.units<cLine) (h:Q (.bool (lexLt ns ms)) s):wpAny (model prog w) A (compareOp .Lt (.ref l) (.ref b)) Q E s:=by
 obtain⟨⟨cls,dd,data,sl⟩,ho,hc,n,hd⟩:=id hl
 obtain⟨⟨cls2,dd2,data2,sl2⟩,ho2,hc2,n2,hd2⟩:=id hb
 simp only at hc hd hc2 hd2
 subst hc hd hc2 hd2
 exact richCompare_meets_room (op:=.Lt) ⟨_,ho,rfl⟩ ⟨_,ho2,rfl⟩ PySem.F.slot_tuple_lt PySem.F.entry_tuple_lt (PySem.F.args_tuple_lt_2 _ _) (tuple_lt_ints l b items items2 n n2 dd dd2 sl sl2 ns ms hi hj)
  ⟨ho,ho2,show Value.bool (lexLt ns ms)≠Value.notImplemented/\Q (.bool (lexLt ns ms)) s from⟨(fun x=>nomatch x),h⟩⟩ hu
theorem cat_tup{t b:Addr}{vs ws:List Value}{Q:Value->Shared->Prop}(ht:IsTup s.heap t vs.toArray)(hb:IsTup s.heap b ws.toArray)(hv:vs ≠ [])
  (h1:ws = []->Q (.ref t) s) (h2:ws ≠ []->Q (.ref s.heap.objs.size) { s with heap:=s.heap.push { cls:=.type "tuple",data:=.seq (vs++ws).toArray } })
  (hsz:vs.length+ws.length<=sizeLine):wpAny (model prog w) A (binaryOp .Add (.ref t) (.ref b)) Q E s:=by
 obtain⟨⟨cls,dd,data,sl⟩,ho,hc,n,hd⟩:=id ht
 obtain⟨⟨cls2,dd2,data2,sl2⟩,ho2,hc2,n2,hd2⟩:=id hb
 simp only at hc hd hc2 hd2
 subst hc hd hc2 hd2
 have e:vs.toArray++ws.toArray=(vs++ws).toArray:=by simp
 by_cases hw:ws = []
 ·exact concat_meets ⟨_,ho,rfl⟩ ⟨_,ho2,rfl⟩ noFill_tuple_add seq_tuple_add PySem.F.slot_tuple_add PySem.F.entry_tuple_add (PySem.F.args_tuple_add_2 _ _)
   (tuple_addW1 t b vs.toArray ws.toArray n n2 dd dd2 sl sl2 (by simpa using hv) (by simp [hw])) ⟨ho,ho2,h1 hw⟩
 ·refine concat_meets ⟨_,ho,rfl⟩ ⟨_,ho2,rfl⟩ noFill_tuple_add seq_tuple_add PySem.F.slot_tuple_add PySem.F.entry_tuple_add (PySem.F.args_tuple_add_2 _ _)
   (tuple_addW2 t b vs.toArray ws.toArray n n2 dd dd2 sl sl2 (by simpa using hv) (by simpa using hw) (by rw [List.size_toArray,List.size_toArray];exact hsz)) ⟨ho,ho2,?_⟩
  rw [e]
  exact h2 hw
def sIx(n d:Nat):Option Int->Nat
 | none=>d
 | some v=>if v<0 then (v+(n:Int)).toNat else min v.toNat n
theorem sIx_none(n d:Nat):sIx n d none=d:=rfl
theorem sIx_nat(n d k:Nat):sIx n d (some (k:Int))=min k n:=by
 show(if (k:Int)<0 then ((k:Int)+(n:Int)).toNat else min (k:Int).toNat n)=min k n
 rw [if_neg (by omega),Int.toNat_natCast]
theorem sIx_le(n d:Nat)(hd:d<=n)(o:Option Int):sIx n d o<=n:=by
 cases o with
 | none=>exact hd
 | some v =>
  show(if v<0 then (v+(n:Int)).toNat else min v.toNat n)<=n
  by_cases hv:v<0
  ·rw [if_pos hv];omega
  ·rw [if_neg hv];exact Nat.min_le_right _ _
theorem clip_eq(v:Int)(n d:Nat):(if v<0 then max (v+(n:Int)) 0 else min v (n:Int))=((sIx n d (some v):Nat):Int):=by
 show(if v<0 then max (v+(n:Int)) 0 else min v (n:Int))=(((if v<0 then (v+(n:Int)).toNat else min v.toNat n):Nat):Int)
 by_cases hv:v<0
 ·simp only [if_pos hv];omega
 ·simp only [if_neg hv];omega
theorem adjust_gen(lo hi:Option Int)(n:Nat):Builtin.Slice.sliceAdjust lo hi 1 (n:Int)=(((sIx n 0 lo:Nat):Int),((sIx n n hi:Nat):Int)):=by
 have h1:¬ ((1:Int)<0):=by omega
 unfold Builtin.Slice.sliceAdjust
 simp only [h1,if_false]
 refine Prod.ext ?_ ?_
 ·cases lo with
  | none=>rfl
  | some v=>exact clip_eq v n 0
 ·cases hi with
  | none=>rfl
  | some v=>exact clip_eq v n n
theorem places_gen(i j:Nat):Builtin.Slice.slicePlaces (i:Int) (j:Int) 1=j-i:=by
 unfold Builtin.Slice.slicePlaces
 have h1:(1:Int) > 0:=by omega
 simp only [h1,if_true,Int.ediv_one]
 split <;> omega
theorem slicePart_{v:Value}{o:Option Int}{Q:Option Int->Shared->Prop}(p:IsPart v o)(h:Q o s):wpAny (model prog w) A (Builtin.Slice.slicePartIndex v) Q E s:=by
 cases p with
 | none=>exact slicePart_none h
 | int i t=>exact slicePart_int h
theorem sliceApplied_gen{sl:Addr}{vl vu:Value}{lo hi:Option Int}{n:Nat}{Q:Int×Int×Nat->Shared->Prop}(hs:s.heap.IsSliceOf sl vl vu .none)(pl:IsPart vl lo)(pu:IsPart vu hi)
  (h:Q (((sIx n 0 lo:Nat):Int),1,sIx n n hi-sIx n 0 lo) s):wpAny (model prog w) A (Builtin.Slice.sliceApplied (.ref sl) (pure (n:Int))) Q E s:=by
 obtain⟨os,hos,hcs,hds⟩:=id hs
 unfold Builtin.Slice.sliceApplied Builtin.Slice.sliceFields
 refine wpAny_bind (wpAny_bind (wpAny_field hos hds (x:=vl) rfl (wpAny_bind (wpAny_field hos hds (x:=vu) rfl (wpAny_bind (wpAny_field hos hds (x:=.none) rfl (wpAny_pure ?_)))))))
 refine wpAny_bind (slicePart_none ?_)
 show wpAny _ _ (if ((1:Int) == 0)=true then _ else _) _ _ s
 rw [if_neg (by decide)]
 refine wpAny_bind (slicePart_ pl (wpAny_bind (slicePart_ pu (wpAny_bind (wpAny_pure ?_)))))
 show wpAny _ _ (match Builtin.Slice.sliceAdjust lo hi 1 (n:Int) with | (lo,hi)=>pure (lo,(1:Int),Builtin.Slice.slicePlaces lo hi 1)) _ _ s
 rw [adjust_gen lo hi n]
 show wpAny _ _ (pure (((sIx n 0 lo:Nat):Int),(1:Int),Builtin.Slice.slicePlaces ((sIx n 0 lo:Nat):Int) ((sIx n n hi:Nat):Int) 1)) _ _ s
 rw [places_gen]
 exact wpAny_pure h
theorem pick_gen(xs:Array Value)(i k:Nat):((List.range k).filterMap fun(m:Nat)=>xs[((i:Int)+(m:Int) * 1).toNat]?).toArray=((xs.toList.drop i).take k).toArray:=by
 have e:(fun(m:Nat)=>xs[((i:Int)+(m:Int) * 1).toNat]?)=fun m=>xs[i+m]?:=by
  funext m
  have:((i:Int)+(m:Int) * 1).toNat=i+m:=by omega
  rw [this]
 rw [e]
 have:=pick_run xs i k
 rw [List.filterMap_map] at this
 have e2:((fun x=>xs[x]?) ∘ fun x=>i+x)=fun m=>xs[i+m]?:=rfl
 rw [e2] at this
 rw [this]
theorem getItem_tuple_cut{t sl:Addr}{items:Array Value}{vl vu:Value}{lo hi:Option Int}{Q:Value->Shared->Prop}(ht:IsTup s.heap t items)(hs:s.heap.IsSliceOf sl vl vu .none)(pl:IsPart vl lo)(pu:IsPart vu hi)
  (hw:¬ (sIx items.size 0 lo=0/\sIx items.size items.size hi=items.size))
  (h:Q (.ref s.heap.objs.size) { s with heap:=s.heap.push { cls:=.type "tuple",data:=.seq ((items.toList.drop (sIx items.size 0 lo)).take (sIx items.size items.size hi-sIx items.size 0 lo)).toArray } })
  (hsz:items.size<=sizeLine):wpAny (model prog w) A (getItem (.ref t) (.ref sl)) Q E s:=by
 have htake:sizeOk (.seq ((items.toList.drop (sIx items.size 0 lo)).take (sIx items.size items.size hi-sIx items.size 0 lo)).toArray):=by
  show((items.toList.drop (sIx items.size 0 lo)).take (sIx items.size items.size hi-sIx items.size 0 lo)).toArray.size<=sizeLine
  rw [List.size_toArray,List.length_take,List.length_drop,Array.length_toList]
  omega
 have hj:sIx items.size items.size hi<=items.size:=sIx_le _ _ (Nat.le_refl _) hi
 obtain⟨os,hos,hcs,hds⟩:=id hs
 have hTs:s.TypeIs (.ref sl) "slice" :=⟨os,hos,hcs⟩
 unfold getItem
 try with_reducible refine wpAny_holding ?_
 first | refine wpAny_bind (wpAny_pure ?_) | skip
 refine wpAny_bind (wpAny_sequenceKey ht.typeIs (by decide) ?_)
 refine wpAny_bind (wpAny_callSpecial?_slot (name:=Str.ofString "__getitem__") ht.typeIs PyProof.Rows.slot_tuple_getitem
  (wpAny_call_entry PyProof.Rows.slot_tuple_getitem ht.typeIs entry_tuple_getitem ?_ (args_tuple_getitem _ _)))
 show wpAny _ _ (Builtin.Tuple.tupleItemsOf (.ref t) >>= _) _ _ s
 refine wpAny_bind (tupleItemsOf_ ht ?_)
 refine wpAny_bind (wpAny_typeOf hTs ?_)
 rw [if_pos (by decide)]
 refine wpAny_bind (sliceApplied_gen hs pl pu ?_)
 have hno:¬ ((((sIx items.size 0 lo:Nat):Int) == 0 && (1:Int) == 1 && (sIx items.size items.size hi-sIx items.size 0 lo) == items.size)=true):=by
  intro q
  rw [Bool.and_eq_true,Bool.and_eq_true] at q
  have q1:((sIx items.size 0 lo:Nat):Int)=0:=eq_of_beq q.1.1
  have q2:sIx items.size items.size hi-sIx items.size 0 lo=items.size:=eq_of_beq q.2
  exact hw ⟨by omega,by omega⟩
 show wpAny _ _ (if (((sIx items.size 0 lo:Nat):Int) == 0 && (1:Int) == 1 && (sIx items.size items.size hi-sIx items.size 0 lo) == items.size)=true then _ else _) _ _ s
 rw [if_neg hno,pick_gen]
 first
  | exact wpAny_bind (m:=Builtin.Tuple.tupleExact _) (wpAny_newObj_type (wpAny_pure ⟨_,rfl,wpAny_pure h⟩) htake)
  | exact wpAny_bind (m:=Builtin.Tuple.tupleExact _) (wpAny_newObj_type (wpAny_bind (wpAny_pure (wpAny_pure ⟨_,rfl,wpAny_pure h⟩))) htake)
  | exact wpAny_bind (wpAny_bind (m:=Builtin.Tuple.tupleExact _) (wpAny_newObj_type (wpAny_pure (wpAny_pure ⟨_,rfl,wpAny_pure h⟩)) htake))
  | exact wpAny_bind (wpAny_bind (m:=Builtin.Tuple.tupleExact _) (wpAny_newObj_type (wpAny_pure ⟨_,rfl,wpAny_pure h⟩) htake))
end
end HT
namespace L2
open PySem PySem.Spec PyProof.Rows
abbrev TO:=St->Hp->(Option Int->Hp->Prop)->Prop
def PO(X:Cx)(e:Option Expr)(t:TO):Prop :=
 ∀(pins:List (Addr×Obj)) (s:Shared) (σ:St) (H:Hp) (Q:Option Int->Hp->Prop),Inv X pins σ H s->t σ H Q ->
  wpAny (model X.prog X.w) X.A (evalPart e X.env) (fun u s'=>∃ o H',Inv X pins σ H' s'/\IsPart u o/\Q o H') X.xe s
def tNoPart:TO:=fun _ H Q=>Q none H
def tPart(t:TE):TO:=fun σ H Q=>t σ H fun x H1=>∃ i,x=.int i/\Q (some i) H1
theorem intsAre_of{ns:List Int}:∀{us:List Value},Vals (ns.map V.int) us->IntsAre us ns:=by
 induction ns with
 | nil=>intro us r;rw [List.map_nil] at r;cases r;exact .nil
 | cons n ns ih =>
  intro us r
  rw [List.map_cons] at r
  cases r with
  | cons r1 r2 =>
   obtain⟨t,e⟩:=r1
   subst e
   exact .cons n t (ih r2)
section
variable {X:Cx}{e:Expr}{te:TE}{lo hi:Option Expr}{tl th:TO}{pos p2:Pos}
theorem po_none:PO X none tNoPart:=by
 intro pins s σ H Q I h
 rw [evalPart_none]
 exact wpAny_pure ⟨none,H,I,.none,h⟩
theorem po_some(h:PE X e te):PO X (some e) (tPart te):=by
 intro pins s σ H Q I hw
 rw [evalPart_some]
 refine thn (h pins s σ H _ I hw) fun u s1 ⟨x,H1,I1,r1,q1⟩=>?_
 obtain⟨i,rfl,q⟩:=q1
 obtain⟨t,rfl⟩:=r1
 exact⟨some i,H1,I1,.int i t,q⟩
def SlR(X:Cx)(r:V->Option Int->Option Int->Hp->VK->Prop):Prop :=
 ∀(pins:List (Addr×Obj)) (s:Shared) (σ:St) (H:Hp) (x:V) (v vl vu:Value) (lo hi:Option Int) (sl:Addr) (Q:VK),Inv X pins σ H s->RelV x v->s.heap.IsSliceOf sl vl vu .none->IsPart vl lo->IsPart vu hi->r x lo hi H Q ->
  ∃ T id,typeLookup (.type T) "__getitem__" = pure (some (.builtin id))/\s.TypeIs v T/\wpAny (model X.prog X.w) X.A (getItem v (.ref sl)) (EP X pins σ Q) X.xe s
theorem SlR.or{r r':V->Option Int->Option Int->Hp->VK->Prop}(h:SlR X r)(h':SlR X r'):SlR X (fun x lo hi H Q=>r x lo hi H Q\/r' x lo hi H Q):=by
 intro pins s σ H x v vl vu lo hi sl Q I rx hs pl pu q
 rcases q with q | q
 ·exact h pins s σ H x v vl vu lo hi sl Q I rx hs pl pu q
 ·exact h' pins s σ H x v vl vu lo hi sl Q I rx hs pl pu q
def tSl(r:V->Option Int->Option Int->Hp->VK->Prop)(te:TE)(tl th:TO):TE:=fun σ H Q=>te σ H fun x H1=>tl σ H1 fun l H2=>th σ H2 fun u H3=>r x l u H3 Q
theorem pe_slice{r:V->Option Int->Option Int->Hp->VK->Prop}(hr:SlR X r)(he:PE X e te)(hl:PO X lo tl)(hu:PO X hi th):PE X (.Subscript e (.Slice lo hi none p2) pos) (tSl r te tl th):=by
 intro pins s σ H Q I h
 refine Subscript_ (thn (he pins s σ H _ I h) fun v s1 ⟨x,H1,I1,r1,q1⟩=>?_)
 refine wpAny_Slice (thn (hl pins s1 σ H1 _ I1 q1) fun vl s2 ⟨l,H2,I2,pl,q2⟩=>thn (hu pins s2 σ H2 _ I2 q2) fun vu s3 ⟨u,H3,I3,pu,q3⟩=>?_)
 rw [evalPart_none]
 refine wpAny_pure ?_
 have I4:Inv X pins σ H3 { s3 with heap:=s3.heap.push { cls:=.type "slice",data:=.fields #[vl,vu,.none] } }:=I3.kept (t':=s3.toks) fun b ob q=>Heap.get?_push_of_some _ q
 obtain⟨T,id,hT,ht,hg⟩:=hr pins { s3 with heap:=s3.heap.push { cls:=.type "slice",data:=.fields #[vl,vu,.none] } } σ H3 x v vl vu l u s3.heap.objs.size Q I4 r1 (Heap.IsSliceOf.new ..) pl pu q3
 show wpAny (model X.prog X.w) X.A (subscriptTail e (.Slice lo hi none p2) v (.ref s3.heap.objs.size)) (EP X pins σ Q) X.xe { s3 with heap:=s3.heap.push { cls:=.type "slice",data:=.fields #[vl,vu,.none] } }
 exact tail_any (ops:=[.ref s3.heap.objs.size,v]) ht hT hg (by with_unfolding_all rfl)
def cutV(xs:List V)(lo hi:Option Int):List V:=(xs.drop (HT.sIx xs.length 0 lo)).take (HT.sIx xs.length xs.length hi-HT.sIx xs.length 0 lo)
theorem cutV_length(xs:List V)(lo hi:Option Int):(cutV xs lo hi).length<=xs.length:=by
 unfold cutV
 rw [List.length_take,List.length_drop]
 omega
def rSlT(K:PySem.W.Frag):V->Option Int->Option Int->Hp->VK->Prop:=fun x lo hi H Q=>∃ a xs,x=.ref a/\SqT K H a xs /\
 ¬ (HT.sIx xs.length 0 lo=0/\HT.sIx xs.length xs.length hi=xs.length)/\∀ p,H p=none->Q (.ref p) (upd H p (.tup (cutV xs lo hi)))
theorem sl_tup:SlR X (rSlT X.K):=by
 intro pins s σ H x v vl vu lo hi sl Q I rx hs pl pu h
 obtain⟨a,xs,rfl,hx,hw,q⟩:=h
 cases rx
 obtain⟨its,r,ht,hz⟩:=I.tuple hx
 have hlen:its.toArray.size=xs.length:=by rw [List.size_toArray];exact r.length.symm
 refine⟨"tuple",_,PyProof.Rows.slot_tuple_getitem.lookup,ht.typeIs,?_⟩
 refine HT.getItem_tuple_cut ht hs pl pu (by rw [hlen];exact hw) ?_ (by rw [hlen];exact hz)
 rw [hlen]
 refine⟨.ref s.heap.objs.size,_,I.laid (t':=s.toks) (o:=.tup (cutV xs lo hi)) (fun b ob q=>Heap.get?_push_of_some _ q) (Nat.le_refl _) ?_,rfl,q _ (I.hok.fresh (Nat.le_refl _))⟩
 exact⟨Nat.le_trans (cutV_length xs lo hi) hz,_,(r.drop (HT.sIx xs.length 0 lo)).take (HT.sIx xs.length xs.length hi-HT.sIx xs.length 0 lo),TupD.new _ _⟩
theorem Vals.nil_iff{xs:List V}{us:List Value}(r:Vals xs us):us = []↔xs = []:=by
 cases r with
 | nil=>simp
 | cons _ _=>simp
end
def ixN(n:Nat)(i:Int):Option Nat:=if 0<=i then (if i<n then some i.toNat else none) else if -(n:Int)<=i then some (i+n).toNat else none
def atI{α:Type}(xs:List α)(i:Int):Option α:=(ixN xs.length i).bind fun j=>xs[j]?
theorem ixN_seq{n:Nat}{i:Int}{j:Nat}(h:ixN n i=some j):seqIndex? i n=some j/\j<n/\-(n:Int)<=i/\i<n:=by
 unfold ixN at h
 by_cases h0:0<=i
 ·rw [if_pos h0] at h
  by_cases h1:i<n
  ·rw [if_pos h1] at h
   have e:i.toNat=j:=Option.some.inj h
   exact⟨by rw [seqIndex_of h0 h1,e],by omega,by omega,h1⟩
  ·rw [if_neg h1] at h;cases h
 ·rw [if_neg h0] at h
  by_cases h1 : -(n:Int)<=i
  ·rw [if_pos h1] at h
   have e:(i+n).toNat=j:=Option.some.inj h
   exact⟨by rw [seqIndex_neg (by omega) h1,e],by omega,h1,by omega⟩
  ·rw [if_neg h1] at h;cases h
theorem atI_get{α:Type}{xs:List α}{i:Int}{v:α}(h:atI xs i=some v):∃ j,seqIndex? i xs.length=some j/\xs[j]?=some v/\j<xs.length/\-(xs.length:Int)<=i/\i<xs.length:=by
 unfold atI at h
 cases e:ixN xs.length i with
 | none=>rw [e] at h;cases h
 | some j =>
  rw [e] at h
  obtain⟨h1,h2,h3,h4⟩:=ixN_seq e
  exact⟨j,h1,h,h2,h3,h4⟩
theorem atI_nat{α:Type}{xs:List α}{j:Nat}{v:α}(h:xs[j]?=some v):atI xs (j:Int)=some v:=by
 have hj:j<xs.length:=(List.getElem?_eq_some_iff.mp h).1
 have e:ixN xs.length (j:Int)=some j:=by
  unfold ixN
  rw [if_pos (by omega),if_pos (by omega)];simp
 unfold atI;rw [e];exact h
theorem atI_last{α:Type}(xs:List α)(v:α):atI (xs ++ [v]) (-1)=some v:=by
 have hl:(xs ++ [v]).length=xs.length+1:=by simp
 have e:ixN (xs ++ [v]).length (-1)=some xs.length:=by
  unfold ixN
  rw [hl,if_neg (by decide),if_pos (by omega)]
  congr 1
  omega
 unfold atI
 rw [e]
 show(xs ++ [v])[xs.length]?=some v
 simp
def PlainIx(b:Expr):Prop:=∀ o i,subscripted b false o i=operate [o,i] (getItem o i)
def IxR(X:Cx)(r:R2):Prop :=
 ∀(value slice:Expr) (pins:List (Addr×Obj)) (s:Shared) (σ:St) (H:Hp) (x y:V) (v u:Value) (Q:VK),Inv X pins σ H s->RelV x v->RelV y u->r x y H Q ->
  subscripted slice false v u=operate [v,u] (getItem v u)->wpAny (model X.prog X.w) X.A (subscriptTail value slice v u) (EP X pins σ Q) X.xe s
def MtR(X:Cx)(id:String)(r:V->List V->Hp->VK->Prop):Prop :=
 ∀(pins:List (Addr×Obj)) (s:Shared) (σ:St) (H:Hp) (x:V) (xs:List V) (v:Value) (us:List Value) (Q:VK),Inv X pins σ H s->RelV x v->Vals xs us->r x xs H Q ->
  wpAny (model X.prog X.w) X.A (call (.builtin id) (v::us)) (EP X pins σ Q) X.xe s
section
variable {X:Cx}{a b:Expr}{ta tb:TE}{pos:Pos}
theorem IxR.or{r r':R2}(h:IxR X r)(h':IxR X r'):IxR X (fun x y H Q=>r x y H Q\/r' x y H Q):=by
 intro value slice pins s σ H x y v u Q I rx ry q hs
 rcases q with q | q
 ·exact h value slice pins s σ H x y v u Q I rx ry q hs
 ·exact h' value slice pins s σ H x y v u Q I rx ry q hs
theorem pe_ix{r:R2}(hr:IxR X r)(ha:PE X a ta)(hb:PE X b tb)(hs:PlainIx b):PE X (.Subscript a b pos) (tOp r ta tb):=by
 intro pins s σ H Q I h
 exact Subscript_ (binT ha hb I h fun v u s2 x y H2 I2 rx ry q=>hr a b pins s2 σ H2 x y v u Q I2 rx ry q (hs _ _))
def rIxL(K:PySem.W.Frag):R2:=fun x y H Q=>∃ p xs i v,x=.ref p/\y=.int i/\SqL K H p xs/\atI xs i=some v/\Q v H
def rIxT(K:PySem.W.Frag):R2:=fun x y H Q=>∃ p xs i v,x=.ref p/\y=.int i/\SqT K H p xs/\atI xs i=some v/\Q v H
def rIxS:R2:=fun x y H Q=>∃ z i c,x=.str z/\y=.int i/\z.length<=sizeLine/\atI z.cps.toList i=some c/\Q (.str ⟨#[c]⟩) H
theorem ix_list:IxR X (rIxL X.K):=by
 intro value slice pins s σ H x y v u Q I rx ry h hs
 obtain⟨p,xs,i,z,rfl,rfl,hq,he,q⟩:=h
 cases rx
 obtain⟨t,rfl⟩:=ry
 obtain⟨its,r,pl,hz⟩:=I.list hq
 obtain⟨j,h1,h2,h3,h4,h5⟩:=atI_get he
 obtain⟨w,ew,rw'⟩:=r.get h2
 have hl:=r.length
 have hn:=line63
 have fin:EP X pins σ Q w s:=⟨z,H,I,rw',q⟩
 by_cases h0:0<=i
 ·have hj:i.toNat=j:=by
   rw [seqIndex_of h0 h5] at h1
   exact Option.some.inj h1
  exact item_listR pl.isList h0 (by omega) (by rw [hj];simpa using ew) fin hs
 ·have hj:(i+(its.toArray.size:Int)).toNat=j:=by
   rw [seqIndex_neg (by omega) h4] at h1
   rw [List.size_toArray,<-hl]
   exact Option.some.inj h1
  exact subscriptTail_builtinR (x:=w) pl.isList.typeIs slot_list_getitem.lookup
   (wpAny_getItem_list_neg (Q:=fun r s'=>r=w/\EP X pins σ Q r s') pl.isList (by omega) (by rw [List.size_toArray] <;> omega) (by omega) (by rw [hj];simpa using ew) ⟨rfl,fin⟩) hs
theorem ix_tup:IxR X (rIxT X.K):=by
 intro value slice pins s σ H x y v u Q I rx ry h hs
 obtain⟨p,xs,i,z,rfl,rfl,hq,he,q⟩:=h
 cases rx
 obtain⟨t,rfl⟩:=ry
 obtain⟨its,r,pl,hz⟩:=I.tuple hq
 obtain⟨j,h1,h2,h3,h4,h5⟩:=atI_get he
 obtain⟨w,ew,rw'⟩:=r.get h2
 have hl:=r.length
 have hn:=line63
 have fin:EP X pins σ Q w s:=⟨z,H,I,rw',q⟩
 exact subscriptTail_builtinR (x:=w) pl.typeIs slot_tuple_getitem.lookup
  (getItem_tuple (j:=j) (Q:=fun r s'=>r=w/\EP X pins σ Q r s') pl (by omega) (by omega) (by rw [List.size_toArray,<-hl];exact h1) (by simpa using ew) ⟨rfl,fin⟩) hs
theorem ix_str:IxR X rIxS:=by
 intro value slice pins s σ H x y v u Q I rx ry h hs
 obtain⟨z,i,c,rfl,rfl,hz,he,q⟩:=h
 obtain⟨t,rfl⟩:=rx
 obtain⟨t',rfl⟩:=ry
 obtain⟨j,h1,h2,h3,h4,h5⟩:=atI_get he
 have hl:z.cps.toList.length=z.length:=by simp [Str.length]
 rw [hl] at h1 h4 h5
 have hn:=line63
 exact tail_any (typeIs_str s z t) slot_str_getitem.lookup (getItem_str (c:=c) (by
  have e1:decide (i < -(2 ^ 63:Int))=false:=decide_eq_false (by omega)
  have e2:decide (i ≥ 2 ^ 63)=false:=decide_eq_false (by omega)
  rw [e1,e2,Bool.or_false]) (by rw [h1];simpa using h2) ⟨.str ⟨#[c]⟩,H,I.tok _,⟨_,rfl⟩,q⟩) hs
def rIx(K:PySem.W.Frag):R2:=fun x y H Q=>rIxL K x y H Q\/rIxT K x y H Q\/rIxS x y H Q
theorem ix_seq:IxR X (rIx X.K):=ix_list.or (ix_tup.or ix_str)
theorem mapSeq_set(its:List Value)(n j:Nat)(u:Value):Obj.mapSeq (·.setIfInBounds j u) { cls:=.type "list",data:=.seq its.toArray n } = { cls:=.type "list",data:=.seq (its.set j u).toArray n }:=by
 simp [Obj.mapSeq]
theorem Inv.lst{pins:List (Addr×Obj)}{σ:St}{H:Hp}{s:Shared}{p:Addr}{xs:List V}(I:Inv X pins σ H s)(h:H p=some (.lst xs)):
  ∃(its:List Value) (n:Nat),Vals xs its/\s.heap.get? p=some { cls:=.type "list",data:=.seq its.toArray n }/\xs.length<=sizeLine:=by
 obtain⟨z,its,n,r,e⟩:=I.hok p _ h
 exact⟨its,n,r,e,z⟩
theorem Inv.lstUpd{pins:List (Addr×Obj)}{σ:St}{H:Hp}{s:Shared}{p:Addr}{xs ys:List V}{its its':List Value}{n n':Nat}{f:Obj->Obj}(I:Inv X pins σ H s)(h:H p=some (.lst xs))
  (ho:s.heap.get? p=some { cls:=.type "list",data:=.seq its.toArray n }) (hf:f { cls:=.type "list",data:=.seq its.toArray n } = { cls:=.type "list",data:=.seq its'.toArray n' }) (r:Vals ys its') (hz:ys.length<=sizeLine) (t:Nat) :
  Inv X pins σ (upd H p (.lst ys)) { s with heap:=s.heap.update p f,toks:=t }:=by
 have e:(s.heap.update p f).get? p=some { cls:=.type "list",data:=.seq its'.toArray n' }:=by
  rw [Heap.get?_update_self f ho (by rw [hf] <;> rfl),hf]
 refine I.write (x:=p) (e:=p) (by rw [h];trivial) (.inl rfl) (fun b u hb q=>(Heap.get?_update_other _ _ (Ne.symm hb)).trans q) ⟨_,e⟩ ?_
 exact⟨hz,its',n',r,e⟩
def rSetL:V->V->V->Hp->(Hp->Prop)->Prop:=fun o i v H Q=>∃ p xs k j,o=.ref p/\i=.int k/\H p=some (.lst xs)/\ixN xs.length k=some j/\Q (upd H p (.lst (xs.set j v)))
theorem set_list:PSet X rSetL:=by
 intro pins s σ H o i v ov iv u Q I ro ri rv h
 obtain⟨p,xs,k,j,rfl,rfl,hp,hj,q⟩:=h
 cases ro
 obtain⟨t,rfl⟩:=ri
 obtain⟨its,n,r,ho,hz⟩:=I.lst hp
 obtain⟨h1,h2,h3,h4⟩:=ixN_seq hj
 have hl:=r.length
 have hn:=line63
 have I':Inv X pins σ (upd H p (.lst (xs.set j v))) { s with heap:=s.heap.update p (Obj.mapSeq (·.setIfInBounds j u)) } :=
  I.lstUpd hp ho (mapSeq_set its n j u) (r.set rv j) (by rw [List.length_set];exact hz) s.toks
 by_cases h0:0<=k
 ·have hk:k.toNat=j:=by
   rw [seqIndex_of h0 h4] at h1
   exact Option.some.inj h1
  exact PySem.W.ki_setAt ho h0 (by omega) (by rw [List.size_toArray,<-hl];exact h4) (by rw [hk];exact⟨_,I',q⟩)
 ·have hk:(k+(its.toArray.size:Int)).toNat=j:=by
   rw [seqIndex_neg (by omega) h3] at h1
   rw [List.size_toArray,<-hl]
   exact Option.some.inj h1
  exact PySem.W.ki_setBack ho (by omega) (by rw [List.size_toArray,<-hl];exact h3) (by omega) (by rw [hk];exact⟨_,I',q⟩)
theorem slice_bounds(lo hi:Option Int)(n:Nat):(sliceBounds lo hi none n).1=((HT.sIx n 0 lo:Nat):Int)/\(sliceBounds lo hi none n).2.1=((HT.sIx n n hi:Nat):Int)/\(sliceBounds lo hi none n).2.2=1:=by
 refine⟨?_,?_,rfl⟩
 ·cases lo with
  | none=>simp [sliceBounds,HT.sIx]
  | some i =>
   simp only [sliceBounds,HT.sIx,Option.getD_none,show(1:Int) > 0 by decide,if_true]
   by_cases h:i<0
   ·simp only [h,if_true] <;> omega
   ·simp only [h,if_false] <;> omega
 ·cases hi with
  | none=>simp [sliceBounds,HT.sIx]
  | some i =>
   simp only [sliceBounds,HT.sIx,Option.getD_none,show(1:Int) > 0 by decide,if_true]
   by_cases h:i<0
   ·simp only [h,if_true] <;> omega
   ·simp only [h,if_false] <;> omega
theorem slicePick_cut(its:List Value)(lo hi:Option Int):slicePick its.toArray lo hi none=((its.drop (HT.sIx its.length 0 lo)).take (HT.sIx its.length its.length hi-HT.sIx its.length 0 lo)).toArray:=by
 obtain⟨h1,h2,h3⟩:=slice_bounds lo hi its.toArray.size
 unfold slicePick
 rw [h1,h2,h3]
 simp only [sliceRange_one,pick_run,List.size_toArray] <;> rfl
def rSlL(K:PySem.W.Frag):V->Option Int->Option Int->Hp->VK->Prop:=fun x lo hi H Q=>∃ a xs,x=.ref a/\SqL K H a xs/\∀ p,H p=none->Q (.ref p) (upd H p (.lst (cutV xs lo hi)))
theorem sl_list:SlR X (rSlL X.K):=by
 intro pins s σ H x v vl vu lo hi sl Q I rx hs pl pu h
 obtain⟨a,xs,rfl,hx,q⟩:=h
 cases rx
 obtain⟨its,r,ht,hz⟩:=I.list hx
 have hlen:=r.length
 refine⟨"list",_,slot_list_getitem.lookup,ht.isList.typeIs,?_⟩
 refine wpAny_getItem_list_slice ht.isList hs pl pu .none (by simp) ?_ (by rw [List.size_toArray] <;> omega)
 rw [slicePick_cut,<-hlen]
 refine⟨.ref s.heap.objs.size,_,I.laid (t':=s.toks) (o:=.lst (cutV xs lo hi)) (fun b ob q=>Heap.get?_push_of_some _ q) (Nat.le_refl _) ?_,rfl,q _ (I.hok.fresh (Nat.le_refl _))⟩
 exact⟨Nat.le_trans (cutV_length xs lo hi) hz,_,0,(r.drop (HT.sIx xs.length 0 lo)).take (HT.sIx xs.length xs.length hi-HT.sIx xs.length 0 lo),Heap.get?_push_size _ rfl⟩
theorem call_len_seq:CallR X (.builtin "len") (fun xs H Q=>∃ p ys,xs = [.ref p]/\(SqL X.K H p ys\/SqT X.K H p ys)/\Q (.int ys.length) H):=by
 intro pins s σ H xs us Q I r h
 obtain⟨p,ys,rfl,hq,q⟩:=h
 obtain⟨u,rfl,rx⟩:=vals1 r
 cases rx
 have hn:=line63
 rcases hq with hq | hq
 ·obtain⟨its,r',pl,hz⟩:=I.list hq
  have hlen:=r'.length
  exact Calls.call_len_list pl.isList (by simp only [List.size_toArray] <;> omega) ⟨.int ys.length,H,I.tok _,⟨s.toks+1,by rw [List.size_toArray,hlen]⟩,q⟩
 ·obtain⟨its,r',pl,hz⟩:=I.tuple hq
  have hlen:=r'.length
  exact len_tuple pl (by simp only [List.size_toArray] <;> omega) ⟨.int ys.length,H,I.tok _,⟨s.toks+1,by rw [List.size_toArray,hlen]⟩,q⟩
theorem call_tuple_of:CallR X (.type "tuple") (fun xs H Q=>∃ p ys,xs = [.ref p]/\((SqL X.K H p ys/\∀ l,H l=none->Q (.ref l) (upd H l (.tup ys)))\/(SqT X.K H p ys/\Q (.ref p) H))):=by
 intro pins s σ H xs us Q I r h
 obtain⟨p,ys,rfl,h⟩:=h
 obtain⟨u,rfl,rx⟩:=vals1 r
 cases rx
 rcases h with⟨hq,q⟩ | ⟨hq,q⟩
 ·obtain⟨its,r',pl,hz⟩:=I.list hq
  have hlen:=r'.length
  refine call_tuple_list pl.isList (fun h' kp=>?_) (by simp only [List.size_toArray] <;> omega)
  have I1:Inv X pins σ H { s with heap:=h' }:=I.kept (t':=s.toks) kp
  have I2:Inv X pins σ (upd H h'.objs.size (.tup ys)) { s with heap:=h'.push { cls:=.type "tuple",data:=.seq its.toArray } } :=
   I1.laid (t':=s.toks) (fun b o e=>Heap.get?_push_of_some _ e) (Nat.le_refl _) (show ObjOk X.prog X.w _ _ _ (.tup ys) from⟨hz,its,r',TupD.new _ _⟩)
  exact⟨.ref h'.objs.size,_,I2,rfl,q _ (I1.hok.fresh (Nat.le_refl _))⟩
 ·obtain⟨its,r',pl,hz⟩:=I.tuple hq
  exact call_tuple_same pl ⟨.ref p,H,I,rfl,q⟩
def tyV(K:PySem.W.Frag)(T:String)(x:V)(H:Hp):Prop:=match x with
 | .str _=>T = "str"
 | .int _=>T = "int"
 | .ref p=>(T = "list" /\ ∃ xs,SqL K H p xs)\/(T = "tuple" /\ ∃ xs,SqT K H p xs) \/
   (T = "dict" /\((∃ kvs,H p=some (.dK kvs))\/∃ kvs,H p=some (.dT kvs)))\/(T = "set" /\ ∃ S n,H p=some (.set S n))
 | _=>False
theorem tyV_is{pins:List (Addr×Obj)}{σ:St}{H:Hp}{s:Shared}{T:String}{x:V}{v:Value}(I:Inv X pins σ H s)(r:RelV x v)(ty:tyV X.K T x H):
  s.TypeIs v T/\∀ a,v=.ref a->∃ ob,s.heap.get? a=some ob/\ob.dict=none:=by
 cases x with
 | str z =>
  obtain⟨t,rfl⟩:=r
  cases (show T = "str" from ty)
  exact⟨typeIs_str s z t,fun _ e=>nomatch e⟩
 | int i =>
  obtain⟨t,rfl⟩:=r
  cases (show T = "int" from ty)
  exact⟨typeIs_int s i t,fun _ e=>nomatch e⟩
 | ref p =>
  cases r
  rcases ty with⟨rfl,xs,hq⟩ | ⟨rfl,xs,hq⟩ | ⟨rfl,hk⟩ | ⟨rfl,S,n,hk⟩
  ·obtain⟨its,_,pl,_⟩:=I.list hq
   refine⟨pl.isList.typeIs,fun a e=>?_⟩
   cases e
   obtain⟨o,n,e,c,hd,_⟩:=pl
   exact⟨o,e,hd⟩
  ·obtain⟨its,_,pl,_⟩:=I.tupleD hq
   refine⟨pl.isTup.typeIs,fun a e=>?_⟩
   cases e
   obtain⟨o,e,_,_,hd⟩:=pl
   exact⟨o,e,hd⟩
  ·have z:∃ o,s.heap.get? p=some o/\o.ExactDict:=by
    rcases hk with⟨kvs,hk⟩ | ⟨kvs,hk⟩
    ·obtain⟨_,_,_,_,o,_,_,e,ex,_⟩:=I.hok p _ hk
     exact⟨o,e,ex⟩
    ·obtain⟨_,_,_,_,o,_,_,e,ex,_⟩:=I.hok p _ hk
     exact⟨o,e,ex⟩
   obtain⟨o,e,ex⟩:=z
   refine⟨⟨o,e,ex.1⟩,fun a e2=>?_⟩
   cases e2
   exact⟨o,e,ex.2.1⟩
  ·obtain⟨o,_,_,_,e,ex,_⟩:=I.hok p _ hk
   refine⟨⟨o,e,ex.1⟩,fun a e2=>?_⟩
   cases e2
   exact⟨o,e,ex.2.1⟩
 | _=>exact False.elim ty
def tBM(K:PySem.W.Frag)(T:String)(r:V->List V->Hp->VK->Prop)(to:TE)(t:TA):TE:=fun σ H Q=>to σ H fun x H1=>tyV K T x H1/\t σ H1 fun xs H2=>r x xs H2 Q
variable {o e:Expr}{es:List Expr}{to:TE}{t:TA}{name:Str}{apos cpos:Pos}{T id:String}{r:V->List V->Hp->VK->Prop}
theorem pe_bm(pa:PlainAttrs T)(slot:Slot T name id)(hty:typeOf (.builtin id)=pure (.type "method_descriptor"))(hm:MtR X id r)(ho:PE X o to)(ha:PA X (e::es) t)
  (hbase:attributeBase o name X.env (eval o X.env)=eval o X.env:=by rfl)
  (hfew:((backTo cpos (starEach (e::es) X.env)).all (fun x=>!x.1) && (backToKw cpos (keywordEach [] X.env)).all (fun x=>x.1.isSome)
   && decide ((e::es).length+([]:List Keyword).length+(if ([]:List Keyword).isEmpty then 0 else 1)<30))=true:=by rfl)
  (hline:(apos.endLine == cpos.line)=true:=by rfl) (hs:starEach (e::es) X.env=(false,eval e X.env)::starEach es X.env:=by rfl) (hplain:(backTo cpos (starEach es X.env)).any (·.1)=false:=by rfl) :
  PE X (.Call (.Attribute o name apos) (e::es) [] cpos) (tBM X.K T r to t):=by
 intro pins s σ H Q I h
 refine wpAny_Call_method_late hbase hfew hline rfl (thn (ho pins s σ H _ I h) fun v s1 ⟨x,H1,I1,r1,ty,q1⟩=>?_)
 obtain⟨h1,h2⟩:=tyV_is I1 r1 ty
 refine⟨T,id,pa,slot,hty,h1,h2,?_⟩
 have hA:=ha cpos pins s1 σ H1 _ I1 q1
 rw [hs] at hA ⊢
 refine Calls.callWith_builtin (by show(false || (backTo cpos (starEach es X.env)).any (·.1))=false;rw [hplain] <;> rfl) (Calls.evalArgs_plain ?_)
 exact thn hA fun us s2 ⟨vs,H2,I2,r2,q2⟩=>hm pins s2 σ H2 x vs v us Q I2 r1 r2 q2
end
def MtM(X:Cx)(id:String)(r:V->List V->Hp->VK->Prop):Prop :=
 ∀(pins:List (Addr×Obj)) (s:Shared) (σ:St) (H:Hp) (x:V) (xs:List V) (v:Value) (us:List Value) (Q:VK),Inv X pins σ H s->RelV x v->Vals xs us->r x xs H Q ->
  wpAny (model X.prog X.w) X.A (call (.builtin id) (v::us)) (EP X pins σ Q) X.xe s
theorem Vals.one:∀{x:V} {us:List Value},Vals [x] us->∃ u,us = [u]/\RelV x u
 | _,_,.cons r .nil=>⟨_,rfl,r⟩
theorem Vals.two:∀{x y:V} {us:List Value},Vals [x,y] us->∃ u v,us = [u,v]/\RelV x u/\RelV y v
 | _,_,_,.cons r (.cons q .nil)=>⟨_,_,rfl,r,q⟩
theorem Vals.zero:∀{us:List Value},Vals [] us->us = []
 | _,.nil=>rfl
theorem Vals.reverse{xs:List V}{us:List Value}(h:Vals xs us):Vals xs.reverse us.reverse:=by
 induction h with
 | nil=>exact .nil
 | cons r t ih=>rw [List.reverse_cons,List.reverse_cons];exact Vals.append ih (.cons r .nil)
theorem Vals.rep{xs:List V}{us:List Value}(h:Vals xs us):∀ k:Nat,Vals (List.replicate k xs).flatten (List.replicate k us).flatten
 | 0=>.nil
 | k+1=>by
  rw [List.replicate_succ,List.replicate_succ,List.flatten_cons,List.flatten_cons]
  exact Vals.append h (Vals.rep h k)
theorem foldl_rep(its:List Value):∀(k:Nat) (acc:List Value),
  List.foldl (fun x1 x2=>x1++x2) acc.toArray (List.replicate k its.toArray)=(acc++(List.replicate k its).flatten).toArray
 | 0,acc=>by simp
 | k+1,acc=>by
  have e:acc.toArray++its.toArray=(acc++its).toArray:=by simp
  have e2:(acc++its)++(List.replicate k its).flatten=acc++(List.replicate (k+1) its).flatten:=by
   rw [List.replicate_succ,List.flatten_cons,List.append_assoc]
  rw [<-e2,<-foldl_rep its k (acc++its),<-e,List.replicate_succ,List.foldl_cons]
section
variable {X:Cx}{pins:List (Addr×Obj)}{σ:St}{H:Hp}{s:Shared}{l b:Addr}{xs ys zs:List V}
theorem Inv.lset{its its':List Value}{n:Nat}{f:Array Value->Array Value}{t':Nat}(I:Inv X pins σ H s)(hH:H l=some (.lst xs))
  (e:s.heap.get? l=some { cls:=.type "list",data:=.seq its.toArray n }) (hf:f its.toArray=its'.toArray) (hv:Vals ys its') (hz:ys.length<=sizeLine) :
  Inv X pins σ (upd H l (.lst ys)) { s with heap:=s.heap.update l (Obj.mapSeq f),toks:=t' }:=by
 have q:=PySem.IsL.update e f
 rw [hf] at q
 refine I.write (x:=l) (e:=l) (by rw [hH];exact trivial) (.inl rfl) (fun b' u hb hu=>(Heap.get?_update_other s.heap (Obj.mapSeq f) (Ne.symm hb)).trans hu) ⟨_,q⟩ ?_
 exact⟨hz,its',_,hv,q⟩
theorem Inv.lnew{its:List Value}{t':Nat}(I:Inv X pins σ H s)(hv:Vals ys its)(hz:ys.length<=sizeLine):
  Inv X pins σ (upd H s.heap.objs.size (.lst ys)) { s with heap:=s.heap.push { cls:=.type "list",data:=.seq its.toArray },toks:=t' } :=
 I.laid (fun _ _ q=>Heap.get?_push_of_some _ q) (Nat.le_refl _) ⟨hz,its,0,hv,Heap.get?_push_size _ rfl⟩
theorem Inv.fresh(I:Inv X pins σ H s):H s.heap.objs.size=none:=I.hok.fresh (Nat.le_refl _)
theorem Inv.lstM(I:Inv X pins σ H s)(hH:H l=some (.lst xs)):xs.length<=sizeLine/\∃(its:List Value) (n:Nat),Vals xs its/\xs.length=its.length/\s.heap.get? l=some { cls:=.type "list",data:=.seq its.toArray n }:=by
 obtain⟨z,its,n,r,e⟩:=I.hok l _ hH
 exact⟨z,its,n,r,r.length,e⟩
theorem notLongL{n:Nat}(h:n<=sizeLine):Builtin.List.listTooLong n=false:=by
 unfold Builtin.List.listTooLong
 exact decide_eq_false (by omega)
end
section
variable {X:Cx}
def rAppend:V->List V->Hp->VK->Prop:=fun x vs H Q=>∃ l xs y,x=.ref l/\vs = [y]/\H l=some (.lst xs)/\xs.length<sizeLine/\Q .non (upd H l (.lst (xs ++ [y])))
theorem mt_append:MtM X "list.append" rAppend:=by
 intro pins s σ H x vs v us Q I rx rv h
 obtain⟨l,xs,y,rfl,rfl,hH,hz,q⟩:=h
 cases rx
 obtain⟨u,rfl,ru⟩:=rv.one
 obtain⟨z,its,n,r,hl,e⟩:=I.lstM hH
 refine call_meets F.slot_list_append ⟨_,e,rfl⟩ F.entry_list_append (F.args_list_append_2 _ _) (PySem.list_append l its.toArray n u (by rw [List.size_toArray];omega)) ⟨e,?_⟩
 refine⟨.non,_,I.lset (its':=its ++ [u]) hH e (by simp) (r.append (.cons ru .nil)) ?_,rfl,q⟩
 rw [List.length_append,List.length_singleton]
 omega
def rExtend:V->List V->Hp->VK->Prop:=fun x vs H Q=>∃ l b xs zs,x=.ref l/\vs = [.ref b]/\H l=some (.lst xs)/\H b=some (.lst zs)/\xs.length+zs.length<=sizeLine/\Q .non (upd H l (.lst (xs++zs)))
theorem mt_extend:MtM X "list.extend" rExtend:=by
 intro pins s σ H x vs v us Q I rx rv h
 obtain⟨l,b,xs,zs,rfl,rfl,hH,hB,hz,q⟩:=h
 cases rx
 obtain⟨u,rfl,ru⟩:=rv.one
 cases ru
 obtain⟨z,its,n,r,hl,e⟩:=I.lstM hH
 obtain⟨z2,its2,n2,r2,hl2,e2⟩:=I.lstM hB
 have hsz:its.toArray.size+its2.toArray.size<=sizeLine:=by rw [List.size_toArray,List.size_toArray];omega
 have hlong:¬ (!its.toArray.isEmpty && Builtin.List.listTooLong (its.toArray.size+its2.toArray.size))=true:=by
  rw [notLongL hsz,Bool.and_false]
  exact Bool.false_ne_true
 refine call_meets F.slot_list_extend ⟨_,e,rfl⟩ F.entry_list_extend (F.args_list_extend_2 _ _)
  (AutoSeq1.list_extend_list_list_0 l its.toArray n b its2.toArray n2 hlong (by rw [List.size_toArray];omega) (by omega)) ⟨e,e2,?_⟩
 refine⟨.non,_,I.lset (its':=its++its2) hH e (by simp) (r.append r2) ?_,rfl,q⟩
 rw [List.length_append]
 omega
theorem len_rep{α:Type}(xs:List α)(k:Nat):(List.replicate k xs).flatten.length=k * xs.length:=by
 induction k with
 | zero=>simp
 | succ k ih=>rw [List.replicate_succ,List.flatten_cons,List.length_append,ih,Nat.succ_mul,Nat.add_comm]
end
section
variable {prog:Program}{w:World}{A:Around}{E:Value->Shared->Prop}{s:Shared}
end
section
variable {X:Cx}
end
end L2
namespace Att
open PySem PySem.W PySem.Calls PyProof.Rows
theorem ints_of_wellAll{P:Params}{h:Heap}:∀(ns:List Int) (vs:List Value),WellAll P h vs (ns.map WData.int)->IntsAre vs ns:=by
 intro ns
 induction ns with
 | nil =>
  intro vs w
  rw [List.map_nil] at w
  cases w
  exact .nil
 | cons n ns ih =>
  intro vs w
  rw [List.map_cons] at w
  cases w with
  | cons a b =>
   cases a
   exact .cons _ _ (ih _ b)
theorem script_of{l:OpenLaw}{n:Nat}(hn:l.most=some n){P:Params}{h:Heap}{args:List WData}{vals:List Value}
  (hpre:l.row.toRowW.claim.pre args=true) (hwl:WellAll P h vals args) :
  ∃ a vs ns,vals = [Value.ref a]/\args = [WData.list (ns.map WData.int)]/\h.get? a=some { cls:=.type "list",data:=.seq vs.toArray }/\IntsAre vs ns/\ns.length<=n:=by
 have hsh:WShape.hasAll [] args [.list .int]=true:=(pre_splitW hpre).1
 have hc:l.pre.holds [] { args:=args }=true:=(pre_splitW hpre).2
 obtain⟨d,r,rfl,h1,h2⟩:=hasAllW_cons hsh
 obtain rfl:=hasAllW_nil h2
 obtain⟨xs,rfl,h3⟩:=hasW_list h1
 obtain⟨ns,rfl⟩:=items_int h3
 have hlen:ns.length<=n:=by
  unfold OpenLaw.pre at hc
  have h4:(WTm.not (.lt (.lit (.int (n:Int))) (.len (.arg 0)))).holds [] { args:=[.list (ns.map .int)] }=true:=by
   have h4:=(holds_andW hc).1
   rw [hn] at h4
   exact h4
  have h5:=condW_of h4 (w_not (w_lt w_lit (w_len_list (w_arg rfl))))
  rw [List.length_map] at h5
  refine Nat.le_of_not_lt fun q=>?_
  have q':(n:Int)<((ns.length:Nat):Int):=by omega
  first
   | (rw [decide_eq_true q'] at h5;exact absurd h5 (by decide))
   | (simp at h5;omega)
 cases hwl with
 | cons w1 w2 =>
  cases w2
  cases w1 with
  | list ho hall=>exact⟨_,_,ns,rfl,rfl,ho,ints_of_wellAll ns _ hall,hlen⟩
theorem post_true(l:OpenLaw)(args:List WData):l.row.toRowW.claim.post args (.bool true) args=true :=
 postW_of (r:=l.row.toRowW) (X:=(true == true))
  (show WShape.has [] (.bool true) .bool=true by first | rfl | decide | simp [WShape.has,WShape.arms,WShape.armsAll])
  (show(WTm.eq .res (.lit (.bool true))).value [] { args:=args,res:=some (.bool true),after:=args }=some (.bool (true == true)) from w_eq_bool (w_res rfl) w_lit) rfl
theorem attach_call{l:OpenLaw}{n:Nat}{q:Program}{loose:List Str}{XP:(Str->Option Value)->Heap->Prop}{YP:World->Heap->Prop}{d:DefRec}
  (hn:l.most=some n) (hdf:d.params.defaults = [])
  (call:∀(w:World) (s₀ s₁:Shared) (mg mb:Str->Option Value) (fa:Addr) (o:Obj) (pm cd doc:Value) (a:Addr) (vs:List Value) (ns:List Int),
   Ground q loose [] XP w s₀ mg mb s₁.heap->YP w s₁.heap ->
   s₁.heap.get? fa=some o->o.data=.func (docDef d.name d.params d.body d.scope pm cd doc)->s₁.heap.CodeRec cd d.name->mg d.name=some (.ref fa) ->
   s₁.heap.get? a=some { cls:=.type "list",data:=.seq vs.toArray }->IntsAre vs ns->ns.length<=n->s₁.gens = #[] ->
   codeAny (model l.prog w) callerA (.call (.ref fa) ⟨[.ref a],[]⟩) (fun r s'=>r=.ok (.ret (.bool true))/\OldK s₁.heap s'.heap/\s'.os=s₁.os/\AllBare s'.gens) s₁) :
  WalkO q loose XP YP l.row.toRowW d [] (fun f vs=>PySem.call f vs):=by
 intro w s₀ s₁ mg mb G Y fa o pm cd doc dV kV ho hd hcd hD hmg hg args vals as hpre hlay hrd hwl hlo
 obtain rfl:dV=.none:=Dflts.none hD hdf
 obtain rfl:kV=.none:=Dflts.noKw hD
 obtain⟨a,vs,ns,rfl,rfl,hobj,hints,hlen⟩:=script_of hn hpre hwl
 refine enter_call (codeAny_mono (call w s₀ s₁ mg mb fa o pm cd doc a vs ns G Y ho (fd_plain hd) hcd hmg hobj hints hlen hg) fun r s' hq=>?_)
 obtain⟨rfl,h2,h3,h4⟩:=hq
 exact⟨.inl ⟨.bool true,.bool true,[],rfl,fun _=>rfl,.bool true,post_true l _,fun _=>⟨List.Pairwise.nil,fun _ hm=>(nomatch hm)⟩⟩,h2,h3,h4⟩
section
variable {prog:Program}{w:World}{A:Around}{E:Value->Shared->Prop}{s:Shared}{K:Frag}
end
end Att
namespace L2
open PySem PySem.Spec PyProof.Rows
theorem vals_ints:∀{vs:List Value} {ns:List Int},IntsAre vs ns->Vals (ns.map V.int) vs
 | _,_,.nil=>.nil
 | _,_,.cons n t h=>.cons ⟨t,rfl⟩ (vals_ints h)
def defArgs(s:Stmt):Arguments:=match s with
 | .FunctionDef _ a _ _ _ _ _ _ _ _=>a
 | _=>{ posonlyargs:=[],args:=[],vararg:=none,kwonlyargs:=[],kw_defaults:=[],kwarg:=none,defaults:=[] }
def defBody(s:Stmt):List Stmt:=match s with
 | .FunctionDef _ _ b _ _ _ _ _ _ _=>b
 | _=>[]
def defScope(s:Stmt):Scope:=match s with
 | .FunctionDef _ _ _ _ _ _ sc _ _ _=>sc
 | _=>{ kind:=.function,names:=[],isGenerator:=false,isCoroutine:=false }
abbrev CX0:CXT:=fun _ _ _ _ _ _=>False
abbrev E0:XK:=fun _ _ _=>False
theorem pass0{X:Cx}:Passes CX0 X E0:=fun _ _ _ _ _ _ _ h=>h.elim
structure Fun(K:PySem.W.Frag)(x qual:Str)(st:Stmt)(f:Addr)(fd:FuncData):Prop where
 ex:∃(oc:Value) (od:Option Addr) (kV doc pm:Value) (an:Option Addr) (cdv ct:Value) (osl:Array (Option Value)),
  fd=PySem.W.fnOf x qual (defArgs st) (defBody st) (defScope st) .none kV doc pm an cdv ct/\K.lookup f=some ⟨oc,od,.func fd,osl⟩/\PySem.W.codeIn K cdv qual=true
 kp:PySem.W.keepIn K (.ref f)=true
section
variable {P:Program}{w:World}{K:PySem.W.Frag}{mg:Str->Option Value}{base:Heap}
theorem Fun.ok{x qual:Str}{st:Stmt}{f:Addr}{fd:FuncData}{N ps:List Str}{k:Nat}{sp:Sp}(F:Fun K x qual st f fd)(S:FnScope N ps (defScope st))(len:∀ vs H Q E,sp vs H Q E->vs.length=ps.length)
  (hbody:∀(cdv:Value) (A:Around) (outer:List Env) (s:Shared) (H:Hp) (vs:List V) (Q:VK) (E:XK),Room k (A.deeper (envOfC qual (defScope st) s.heap.objs.size f cdv))->sp vs H Q E ->
   ∃ t,PSs (cxOf CX0 P w K mg base N qual (defScope st) f cdv A outer s H E).nox (defBody st) t/\t { nx:=fun _ H'=>Q .non H',rt:=Q } (start N vs) H):FnOk P w K mg base CX0 (k+1) f fd ps sp:=by
 obtain⟨oc,od,kV,doc,pm,an,cdv,ct,osl,rfl,lk,hcd⟩:=F.ex
 refine fn_of lk hcd S len fun A outer s H vs Q E hr hsp=>?_
 obtain⟨t,h,q⟩:=hbody cdv A outer s H vs Q E hr hsp
 exact⟨t,h.nox,q⟩
theorem Fun.binds{x qual:Str}{st:Stmt}{f:Addr}{fd:FuncData}{ps:List Str}(F:Fun K x qual st f fd)
  (h:∀(kV doc pm:Value) (an:Option Addr) (cdv ct:Value) (us:List Value),us.length=ps.length->bindArgs (PySem.W.fnOf x qual (defArgs st) (defBody st) (defScope st) .none kV doc pm an cdv ct) ⟨us,[]⟩=pure (ps.zip us)):Binds K fd ps []:=by
 obtain⟨oc,od,kV,doc,pm,an,cdv,ct,osl,rfl,lk,hcd⟩:=F.ex
 exact .all (h kV doc pm an cdv ct)
theorem fun_mk{x qual:Str}{st:Stmt}{f:Addr}{oc:Value}{od an:Option Addr}{osl:Array (Option Value)}{kV doc pm cdv ct:Value}(l:K.lookup f=some ⟨oc,od,.func (PySem.W.fnOf x qual (defArgs st) (defBody st) (defScope st) .none kV doc pm an cdv ct),osl⟩)
  (c:PySem.W.codeIn K cdv qual=true) (k:PySem.W.keepIn K (.ref f)=true):Fun K x qual st f (PySem.W.fnOf x qual (defArgs st) (defBody st) (defScope st) .none kV doc pm an cdv ct):=⟨⟨oc,od,kV,doc,pm,an,cdv,ct,osl,rfl,l,c⟩,k⟩
end
section
variable {X:Cx}
theorem pv(i:Nat){x:Str}{pos:Pos}(hN:X.N[i]?=some x:=by rfl)(hv:Vis X.env.scope x:=by first | exact Or.inl rfl | exact Or.inr (Or.inl rfl) | exact Or.inr (Or.inr rfl))(hd:(x == ("__debug__" : Str))=false:=by decide)
  (hcd:(x == ("__classdict__" : Str))=false:=by decide):PE X (.Name x pos) (tVar i):=pe_var hN hv hd hcd
end
theorem iteF{A B:Prop}(h:B):if false=true then A else B:=by
 rw [if_neg Bool.false_ne_true]
 exact h
theorem ite2{c A B:Prop}[Decidable c](h1:c->A)(h2:¬ c->B):if c then A else B:=by
 by_cases h:c
 ·rw [if_pos h]
  exact h1 h
 ·rw [if_neg h]
  exact h2 h
def Same(H H':Hp):Prop:=∀ b o,H b=some o->H' b=some o
theorem Same.refl(H:Hp):Same H H:=fun _ _ h=>h
theorem Same.trans{H H1 H2:Hp}(a:Same H H1)(b:Same H1 H2):Same H H2:=fun c o h=>b c o (a c o h)
theorem Same.free{H H':Hp}(e:Same H H'){l:Addr}(h:H' l=Option.none):H l=Option.none:=by
 cases q:H l with
 | none=>rfl
 | some o =>
  rw [e l o q] at h
  cases h
theorem Same.seq{K:PySem.W.Frag}{H H':Hp}{a:Addr}{xs:List V}(e:Same H H')(h:SqL K H a xs):SqL K H' a xs:=by
 rcases h with(h | ⟨o,h⟩) | h
 ·exact .inl (.inl (e _ _ h))
 ·exact .inl (.inr ⟨o,e _ _ h⟩)
 ·exact .inr h
theorem compLoop_any{prog:Program}{w:World}{A:Around}{R:Result->Shared->Prop}{s:Shared}{elt target iter:Expr}{ifs:List Expr}{scope:Scope}{pos:Pos}{it acc:Value}{env:Env}(I:Nat->Shared->Prop)
  (turn:∀ n s,I n s->wpAny (model prog w) A (pyNext it) (fun r s1=>match r with
   | none=>R (.ok .next) s1
   | some v=>wpAny (model prog w) A (letOwnedTupleGo target it v) (fun _ s1'=>wpAny (model prog w) A (assign target env v) (fun _ s2 =>
     wpAny (model prog w) A (forIn ifs true fun c r=>if r=true then do let ok <-isTrue c env (eval c env);pure (ForInStep.yield ok) else pure (ForInStep.yield r)) (fun ok s3 =>
      if ok=true then wpAny (model prog w) A (eval elt env) (fun x s4 =>
       wpAny (model prog w) A (call (.builtin "list.append") [acc,x]) (fun _ s5=>∃ m,m<n/\I m s5) (fun _ _=>False) s4) (fun _ _=>False) s3
      else ∃ m,m<n/\I m s3) (fun _ _=>False) s2) (fun _ _=>False) s1') (fun _ _=>False) s1) (fun _ _=>False) s)
  (n:Nat) (h:I n s) :
  codeAny (model prog w) A (.compLoop (.ListComp elt [⟨target,iter,ifs,0⟩] scope pos) 0 it acc env) R s:=by
 refine codeAny_loop rfl I (fun n s hI=>?_) n h
 show wpAny _ A ((compTurn (.ListComp elt [⟨target,iter,ifs,0⟩] scope pos) 0 it acc env).onRaise (fun x=>do noteFrame x env;theTreesLotGoes x)) _ _ s
 refine wpAny_noted ?_
 rw [compTurn_list]
 refine wpAny_bind (wpAny_standAt (wpAny_bind (wpAny_mono (turn n s hI) (fun r s₁ h₁=>?_) fun _ _ h'=>h'.elim)))
 cases r with
 | none=>exact wpAny_pure h₁
 | some v =>
  refine wpAny_bind (wpAny_mono h₁ (fun _ s₁' h₁'=>?_) fun _ _ h'=>h'.elim)
  refine wpAny_bind (wpAny_mono h₁' (fun _ s₂ h₂=>wpAny_bind (wpAny_mono h₂ (fun ok s₃ h₃=>?_) fun _ _ h'=>h'.elim)) fun _ _ h'=>h'.elim)
  cases ok with
  | false=>exact wpAny_pure ⟨rfl,h₃⟩
  | true =>
   exact wpAny_bind (wpAny_bind (wpAny_mono h₃ (fun x s₄ h₄=>wpAny_bind (wpAny_mono h₄ (fun _ s₅ h₅=>wpAny_pure (wpAny_pure ⟨rfl,h₅⟩)) fun _ _ h'=>h'.elim)) fun _ _ h'=>h'.elim))
inductive Capt(X:Cx)(scope:Scope)(cl:List (Str×Addr)):List Str->List Nat->Prop
 | nil:Capt X scope cl [] []
 | cons {x:Str} {j:Nat} {xs:List Str} {js:List Nat} (h1:X.N[j]?=some x) (h2:X.env.kindOf x=some .cell\/X.env.kindOf x=some .free) (h3:cl.lookup x=X.env.cells.lookup x)
  (h4:(relabel scope X.env).names.lookup x=some .cell\/(relabel scope X.env).names.lookup x=some .free) (t:Capt X scope cl xs js):Capt X scope cl (x::xs) (j::js)
theorem Capt.get{X:Cx}{scope:Scope}{cl:List (Str×Addr)}:∀{xs:List Str} {js:List Nat},Capt X scope cl xs js->xs.length=js.length/\∀(i:Nat) (x:Str) (j:Nat),xs[i]?=some x->js[i]?=some j->X.N[j]?=some x/\(X.env.kindOf x=some .cell\/X.env.kindOf x=some .free)/\cl.lookup x=X.env.cells.lookup x /\
  ((relabel scope X.env).names.lookup x=some .cell\/(relabel scope X.env).names.lookup x=some .free)
 | _,_,.nil=>⟨rfl,fun i x j h=>by simp at h⟩
 | _,_,.cons h1 h2 h3 h4 t=>⟨by simp [t.get.1],fun i x j hx hj=>by
  cases i with
  | zero=>simp at hx hj;subst hx hj;exact⟨h1,h2,h3,h4⟩
  | succ i=>exact t.get.2 i x j (by simpa using hx) (by simpa using hj)⟩
inductive SubC(X:Cx):List (Str×Addr)->Prop
 | nil:SubC X []
 | cons {x:Str} {c:Addr} {cl:List (Str×Addr)} (h:X.env.cells.lookup x=some c) (t:SubC X cl):SubC X ((x,c)::cl)
theorem SubC.of{X:Cx}:∀{cl:List (Str×Addr)},SubC X cl->∀ x c,cl.lookup x=some c->X.env.cells.lookup x=some c
 | _,.nil,x,c,h=>by simp at h
 | _,.cons (x:=y) (c:=d) h0 t,x,c,h=>by
  rw [List.lookup_cons] at h
  cases e:x == y with
  | true =>
   rw [e] at h
   have:x=y:=by simpa using e
   subst this
   rw [h0];simpa using h
  | false=>rw [e] at h;exact t.of x c (by simpa using h)
def cxLC(X:Cx)(N':List Str)(scope:Scope)(cl:List (Str×Addr))(C:Addr)(fp:List Addr)(s2:Shared)(H2:Hp):Cx where
 prog:=X.prog
 w:=X.w
 K:=X.K
 mg:=X.mg
 base:=X.base
 A:=X.A
 N:=N'
 s₀:=s2
 H₀:=H2
 env:=compEnvC scope cl C X.env
 outer:=X.stack
 stack:=X.stack
 ex:=fp
 fn:=fun _=>false
 calm:=true
 pn:=[]
 xe:=fun _ _=>False
def startLC(k:Nat)(js:List Nat)(σ:St):St:=List.replicate k none++js.map fun j=>(σ[j]?).join
def PTs(X:Cx)(ifs:List Expr)(t:TT):Prop :=
 ∀(pins:List (Addr×Obj)) (s:Shared) (σ:St) (H:Hp) (Q:Bool->Hp->Prop),Inv X pins σ H s->t σ H Q ->
  wpAny (model X.prog X.w) X.A (forIn ifs true fun c r=>if r=true then do let ok <-isTrue c X.env (eval c X.env);pure (ForInStep.yield ok) else pure (ForInStep.yield r)) (TP X pins σ Q) X.xe s
def tTrue:TT:=fun _ H Q=>Q true H
theorem pts_nil{X:Cx}:PTs X [] tTrue:=fun _ _ _ H _ I h=>wpAny_tests_nil ⟨H,I,h⟩
theorem pts_one{X:Cx}{c:Expr}{t:TT}(hc:PT X c t):PTs X [c] t:=fun pins s σ H Q I h=>wpAny_tests_one (hc pins s σ H Q I h)
def lcTurns(J:It)(D:Addr)(g:TG)(tt:TT)(te:TE)(σ0:St)(H1:Hp)(Q:VK):Prop :=
 ∃ W:Nat->Nat->St->Hp->Prop,(∃ m,W 0 m σ0 (upd H1 D (.lst [])))/\∀ i m σ H,W i m σ H ->
  (J.stop i H/\Q (.ref D) H)\/(J.go i H/\∀ x H',J.yld i H x H'->g x σ H' fun σ2 H2=>tt σ2 H2 fun b H3 =>
   if b=true then te σ2 H3 fun y H4=>∃ ys,H4 D=some (.lst ys)/\ys.length<sizeLine/\∃ m',m' < m/\W (i+1) m' σ2 (upd H4 D (.lst (ys ++ [y])))
   else ∃ m',m' < m/\W (i+1) m' σ2 H3)
def tLC(k:Nat)(js:List Nat)(wi:TI)(g:TG)(tt:TT)(te:TE):TE:=fun σ H Q=>wi σ H fun J H1=>∀ D,H1 D=none->lcTurns J D g tt te (startLC k js σ) H1 Q
section
variable {X:Cx}
theorem lc_ok{N':List Str}{scope:Scope}{cl:List (Str×Addr)}{fp:List Addr}{pins:List (Addr×Obj)}{σ:St}{H2:Hp}{s2:Shared}{C:Addr}(I:Inv X pins σ H2 s2)(hc:X.calm=true)(hkind:scope.kind=.function)(hC:s2.heap.objs.size<=C)
  (hsub:SubC X cl) (hhas:(relabel scope X.env).names.all (fun p=>(p.2 != .cell && p.2 != .free) || (cl.lookup p.1).isSome)=true)
  (hf:∀ b∈fp,FpOk X pins H2 b) (ho:∀ b∈fp,∃ o,s2.heap.get? b=some o/\∀ v,o.data ≠ .cell v):(cxLC X N' scope cl C fp s2 H2).Ok where
 mod:=I.ok.mod
 kind:=hkind
 glob:=I.ok.glob
 blt:=I.ok.blt
 above:=hC
 inj:=fun x y c h1 h2=>I.ok.inj x y c (hsub.of x c h1) (hsub.of y c h2)
 has:=fun x hx=>by
  have hx:(relabel scope X.env).names.lookup x=some .cell\/(relabel scope X.env).names.lookup x=some .free:=hx
  have key:∀ k,(relabel scope X.env).names.lookup x=some k->(k=.cell\/k=.free)->∃ c,cl.lookup x=some c:=fun k hk hkk=>by
   have hm:=PySem.mem_of_lookup hk
   have:=List.all_eq_true.mp hhas _ hm
   rcases hkk with rfl | rfl <;> exact Option.isSome_iff_exists.mp (by simpa using this)
  rcases hx with hx | hx
  ·exact key _ hx (.inl rfl)
  ·exact key _ hx (.inr rfl)
 cab:=fun x c h=>by cases h
 hd:=fun _=>I.ok.hd hc
 frames:=I.ok.frames
 stk:=.inl rfl
 exf:=fun b hb=>by
  obtain⟨o,e,_⟩:=ho b hb
  obtain⟨f0,f1,f2,f3,f4,f5⟩:=hf b hb
  exact⟨Nat.ne_of_lt (Nat.lt_of_lt_of_le (Heap.lt_size e) hC),fun x c h=>f4 x c (hsub.of x c h)⟩
 bs:=I.bs
 bsz:=Nat.le_trans I.ok.bsz I.sz
 noex:=fun b o e hb=>by
  obtain⟨f0,f1,f2,f3,f4,f5⟩:=hf b hb
  rcases f3 with z | z
  ·exact I.ok.noex b o e z
  ·exact absurd (Nat.lt_of_lt_of_le (Heap.lt_size e) (Nat.le_trans I.ok.bsz z)) (Nat.lt_irrefl _)
 exfs:=fun b hb z=>by
  obtain⟨f0,f1,f2,f3,f4,f5⟩:=hf b hb
  exact(List.mem_cons.mp (I.stkSub b z)).elim f1 f2
 funs:=I.stack
 frf:=I.stkFree
theorem lc_start{N' capt:List Str}{k:Nat}{js:List Nat}{scope:Scope}{cl:List (Str×Addr)}{fp:List Addr}{pins:List (Addr×Obj)}{σ:St}{H2:Hp}{s2:Shared}{D C:Addr}{h4:Heap}{t4:Nat}{m:Str->Option Value}(I:Inv X pins σ H2 s2)(ok:(cxLC X N' scope cl C fp s2 H2).Ok)
  (hD:s2.heap.objs.size<=D) (hC:s2.heap.objs.size<=C) (hDC:D≠C) (keep:∀ b o,s2.heap.get? b=some o->h4.get? b=some o) (hns:h4.Ns C m)
  (hl:h4.get? D=some { cls:=.type "list",data:=.seq #[] 0 })
  (hsub:SubC X cl) (hcap:Capt X scope cl capt js) (hN:N'=N'.take k++capt) (hk:k<=N'.length) :
  Inv (cxLC X N' scope cl C fp s2 H2) [] (startLC k js σ) (upd H2 D (.lst [])) { s2 with heap:=h4,toks:=t4 }:=by
 have below:∀ b o,s2.heap.get? b=some o->b≠D/\b≠C:=fun b o e=>⟨Nat.ne_of_lt (Nat.lt_of_lt_of_le (Heap.lt_size e) hD),Nat.ne_of_lt (Nat.lt_of_lt_of_le (Heap.lt_size e) hC)⟩
 have hlen:N'.length=k+capt.length:=by
  have:=congrArg List.length hN
  rw [List.length_append,List.length_take] at this
  omega
 refine⟨ok,rfl,I.bare,Un.laid keep hD (I.hok.fresh hD),⟨m,hns,fun i x v h1 h2 h3=>?_⟩,fun x c h=>?_,?_,fun x c h=>?_,fun p hp=>absurd (show p∈([]:List (Addr×Obj)) from hp) (by simp),?_,?_⟩
 ·have h1:N'[i]?=some x:=h1
  unfold startLC at h2
  by_cases hi:i<k
  ·rw [List.getElem?_append_left (by simpa using hi),List.getElem?_replicate] at h2
   rw [if_pos hi] at h2
   cases h2
  ·rw [List.getElem?_append_right (by simpa using hi),List.length_replicate,List.getElem?_map] at h2
   have hx:capt[i-k]?=some x:=by
    rw [hN,List.getElem?_append_right (by rw [List.length_take];omega),List.length_take] at h1
    rw [show min k N'.length=k by omega] at h1
    exact h1
   cases ej:js[i-k]? with
   | none=>rw [ej] at h2;cases h2
   | some j =>
    rw [ej] at h2
    have h2':(σ[j]?).join=some v:=Option.some.inj h2
    obtain⟨q1,q2,q3,q4⟩:=hcap.get.2 _ _ _ hx ej
    have hv:σ[j]?=some (some v):=by
     cases e:σ[j]? with
     | none=>rw [e] at h2';cases h2'
     | some o=>rw [e] at h2';cases o with
      | none=>cases h2'
      | some v'=>simpa using h2'
    obtain⟨m0,hn0,hl0⟩:=I.loc
    obtain⟨u,r,l⟩:=hl0 j x v q1 hv (by rcases q2 with z | z;exact .inr (.inl z);exact .inr (.inr z))
    refine⟨u,r,?_⟩
    rcases l with⟨z,_⟩ | ⟨_,c,e,o,z1,z2⟩
    ·rcases q2 with q | q <;> · rw [q] at z;cases z
    ·exact .inr ⟨q4,c,q3.trans e,o,keep c o z1,z2⟩
 ·obtain⟨v,o,z1,z2⟩:=I.cell x c (hsub.of x c h)
  exact⟨v,o,keep c o z1,z2⟩
 ·show upd H2 D (.lst []) C=none
  rw [upd_ne (Ne.symm hDC)]
  exact I.hok.fresh hC
 ·obtain⟨v,o,z1,z2⟩:=I.cell x c (hsub.of x c h)
  show upd H2 D (.lst []) c=none
  rw [upd_ne (below c o z1).1]
  exact I.freeC x c (hsub.of x c h)
 ·exact I.hok.laid keep hD ⟨Nat.zero_le _,[],0,.nil,hl⟩
 ·show(startLC k js σ).length=N'.length
  unfold startLC
  rw [List.length_append,List.length_replicate,List.length_map,hlen,hcap.get.1]
structure LCok(X:Cx)(scope:Scope)(cl:List (Str×Addr))(N' capt:List Str)(k:Nat)(js:List Nat):Prop where
 clos:closureFor scope X.env=pure cl
 cell:∀ y∈scope.names,y.2 ≠ .cell
 kind:scope.kind=.function
 names:∀ y∈scope.names,y.2=.local->scope.names.lookup y.1=some .local
 sub:SubC X cl
 has:(relabel scope X.env).names.all (fun p=>(p.2 != .cell && p.2 != .free) || (cl.lookup p.1).isSome)=true
 cap:Capt X scope cl capt js
 hN:N'=N'.take k++capt
 hk:k<=N'.length
def LcEnd(X:Cx)(pins:List (Addr×Obj))(σ:St)(Q:VK)(acc:Value)(C:Addr)(r:Result)(s':Shared):Prop :=
 ∃(f:Flow) (D:Addr) (H':Hp) (m:Str->Option Value),r=.ok f/\acc=.ref D/\Inv X pins σ H' s'/\Q (.ref D) H'/\s'.heap.Ns C m/\H' C=none/\C≠X.env.locals/\X.s₀.heap.objs.size<=C/\(∀ x c,X.env.cells.lookup x=some c->c≠C)/\∀ p∈X.pn++pins,p.1≠C
theorem LcEnd.let_go{pins:List (Addr×Obj)}{σ':St}{H':Hp}{C:Addr}{s'':Shared}{h':Heap}(I:Inv X pins σ' H' s'')(hn:H' C=none)(h1:C≠X.env.locals)(h2:X.s₀.heap.objs.size<=C)(h3:∀ x c,X.env.cells.lookup x=some c->c≠C)(h4:∀ p∈X.pn++pins,p.1≠C)
  (hs:Heap.SameBut C s''.heap h'):Inv X pins σ' H' { s'' with heap:=h' } :=
 I.turned (t':=s''.toks) (fun b o hb e=>(hs.2 b hb).trans e) hn h1 (.inr h2) h3 h4
theorem lc_block{elt tg iter:Expr}{ifs:List Expr}{scope:Scope}{pos:Pos}{cl:List (Str×Addr)}{N' capt:List Str}{k:Nat}{js:List Nat}{g:TG}{tt:TT}{te:TE}{J:It}{fp:List Addr}{tn:Nat->Heap->Prop}{it:Addr}
  {pins:List (Addr×Obj)} {σ:St} {H2:Hp} {s2:Shared} {Q:VK} {E:Value->Shared->Prop} (hc:X.calm=true) (L:LCok X scope cl N' capt k js)
  (hg:∀ C fp s2 H2,PG (cxLC X N' scope cl C fp s2 H2) tg g) (ht:∀ C fp s2 H2,PTs (cxLC X N' scope cl C fp s2 H2) ifs tt) (he:∀ C fp s2 H2,PE (cxLC X N' scope cl C fp s2 H2) elt te)
  (I2:Inv X pins σ H2 s2) (T:Turn X.prog X.w X.K tg J fp it tn) (st2:tn 0 s2.heap) (f2:∀ b∈fp,FpOk X pins H2 b) (q:∀ D,H2 D=none->lcTurns J D g tt te (startLC k js σ) H2 Q) :
  wpAny (model X.prog X.w) X.A (newList []) (fun acc s3=>wpAny (model X.prog X.w) X.A (newFunctionEnv scope X.env.globals cl [] X.env.qual none .none (some X.env)) (fun cenv s4 =>
   codeAny (model X.prog X.w) X.A (.compStart (.ListComp elt [⟨tg,iter,ifs,0⟩] scope pos) 0 (.ref it) acc { cenv with scope:=relabel scope X.env }) (LcEnd X pins σ Q acc cenv.locals) s4) E s3) E s2:=by
 refine wpAny_newObj_type (wpAny_newFunctionEnv L.cell (by intro y hy;simp at hy) (fun h₁ hns₁ hsb₁=>?_) L.kind)
 dsimp only at hns₁ hsb₁ ⊢
 generalize hH2:s2.heap.push { cls:=.type "list",dict:=none,data:=.seq ([]:List Value).toArray }=G at hns₁ hsb₁ ⊢
 have hC:G.objs.size=s2.heap.objs.size+1:=by rw [<-hH2,Heap.size_push]
 have hDC:s2.heap.objs.size≠G.objs.size:=by rw [hC];exact Nat.ne_of_lt (Nat.lt_succ_self _)
 have hCle:s2.heap.objs.size<=G.objs.size:=by rw [hC];exact Nat.le_succ _
 have below:∀ b,b<s2.heap.objs.size->b≠G.objs.size:=fun b hb=>by rw [hC];exact Nat.ne_of_lt (Nat.lt_succ_of_lt hb)
 have keep:∀ b o,s2.heap.get? b=some o->h₁.get? b=some o:=fun b o e=>hsb₁.extBut b o (below b (Heap.lt_size e)) (Heap.get?_push_of_some _ (hH2 ▸ Heap.get?_push_of_some _ e))
 have hl:h₁.get? s2.heap.objs.size=some { cls:=.type "list",data:=.seq #[] 0 }:=hsb₁.extBut _ _ hDC (Heap.get?_push_of_some _ (hH2 ▸ Heap.get?_push_size _ rfl))
 have ho2:=T.obj _ _ st2
 have ok:(cxLC X N' scope cl G.objs.size fp s2 H2).Ok:=lc_ok I2 hc L.kind hCle L.sub L.has f2 ho2
 generalize hD:s2.heap.objs.size=D at hl hDC ⊢
 generalize hCC:G.objs.size=C at hns₁ hsb₁ hDC hC hCle below ok ⊢
 have hDle:s2.heap.objs.size<=D:=by rw [hD];exact Nat.le_refl _
 have I4:Inv (cxLC X N' scope cl C fp s2 H2) [] (startLC k js σ) (upd H2 D (.lst [])) { s2 with heap:=h₁,toks:=s2.toks+([]:List (Str×Value)).length } :=
  lc_start I2 ok hDle hCle hDC keep hns₁ hl L.sub L.cap L.hN L.hk
 obtain⟨W,⟨m0,w0⟩,turn⟩:=q D (I2.hok.fresh hDle)
 have tn0:tn 0 h₁:=T.keep _ _ _ st2 fun b _ o e=>keep b o e
 have fr0:∀ b∈fp,upd H2 D (.lst []) b=none:=fun b hb=>by
  obtain⟨o,e,_⟩:=ho2 b hb
  rw [upd_ne (Nat.ne_of_lt (Nat.lt_of_lt_of_le (Heap.lt_size e) hDle))]
  exact(f2 b hb).1
 have stat:∀{H':Hp},(∀ b∈fp,H' b=none)->∀ b∈fp,FpOk (cxLC X N' scope cl C fp s2 H2) [] H' b:=fun hn b hb=>by
  refine⟨hn b hb,(ok.exf b hb).1,ok.exfs b hb,.inl hb,(ok.exf b hb).2,fun p hp=>absurd (show p∈([]:List (Addr×Obj)) from hp) (by simp)⟩
 have loop:∀ s₃:Shared,s₃ = { s2 with heap:=h₁,toks:=s2.toks+([]:List (Str×Value)).length } ->
   codeAny (model X.prog X.w) X.A (.compLoop (.ListComp elt [⟨tg,iter,ifs,0⟩] scope pos) 0 (.ref it) (.ref D) (compEnvC scope cl C X.env)) (LcEnd X pins σ Q (.ref D) C) s₃:=by
  rintro s₃ rfl
  refine compLoop_any (fun n s'=>∃ i σ' H',Inv (cxLC X N' scope cl C fp s2 H2) [] σ' H' s'/\tn i s'.heap/\(∀ b∈fp,H' b=none)/\W i n σ' H') ?_ m0 ⟨0,_,_,I4,tn0,fr0,w0⟩
  rintro n s3 ⟨i,σ3,H3,I3,st3,fr3,w3⟩
  rcases turn i n σ3 H3 w3 with⟨stop,qn⟩ | ⟨go,step⟩
  ·refine thn (T.done (cxLC X N' scope cl C fp s2 H2) rfl rfl rfl rfl i [] s3 σ3 H3 (fun _ _=>False) I3 (stat fr3) st3 stop) fun r s4 ⟨hr,J4⟩=>?_
   subst hr
   obtain⟨m,hn,_⟩:=id J4.loc
   have hs:X.s₀.heap.objs.size<=C:=Nat.le_trans I2.sz hCle
   refine⟨.next,D,H3,m,rfl,rfl,I2.call' (ch:=fp) J4.os J4.base J4.hok J4.bare (fun b hb=>?_),qn,hn,J4.free,fun z=>?_,hs,fun x c h z=>?_,fun p hp z=>?_⟩
   ·obtain⟨f0,f1,f2',f3,f4,f5⟩:=f2 b hb
    exact⟨f3,f1,f4,f5⟩
   ·have:=I2.lt
    rw [<-z] at this
    exact absurd (Nat.lt_of_lt_of_le this hCle) (Nat.lt_irrefl _)
   ·obtain⟨v,o,z1,_⟩:=I2.cell x c h
    have:=Heap.lt_size z1
    rw [z] at this
    exact absurd (Nat.lt_of_lt_of_le this hCle) (Nat.lt_irrefl _)
   ·have:=Heap.lt_size (I2.pin p hp).1
    rw [z] at this
    exact absurd (Nat.lt_of_lt_of_le this hCle) (Nat.lt_irrefl _)
  ·refine thn (T.item (cxLC X N' scope cl C fp s2 H2) rfl rfl rfl rfl i [] s3 σ3 H3 (fun _ _=>False) I3 (stat fr3) st3 go) fun r s4 ⟨u,hr,h4⟩=>?_
   subst hr
   refine thn h4 fun _ s5 ⟨x,H5,I5,r5,y5,st5,fr5⟩=>?_
   have I5':=I5.pinned (stat fr5) (T.obj _ _ st5)
   refine thn (hg C fp s2 H2 _ s5 σ3 H5 x u _ I5' r5 (step x H5 y5)) fun _ s6 ⟨σ6,H6,I6,q6⟩=>?_
   refine thn (ht C fp s2 H2 _ s6 σ6 H6 _ I6 q6) fun ok s7 ⟨H7,I7,q7⟩=>?_
   have again:∀{H8:Hp} {s8:Shared},Inv (cxLC X N' scope cl C fp s2 H2) ([]++pinsAt fp s5.heap) σ6 H8 s8->(∃ m',m' < n/\W (i+1) m' σ6 H8)->∃ m,m<n/\∃ i σ' H',Inv (cxLC X N' scope cl C fp s2 H2) [] σ' H' s8/\tn i s8.heap/\(∀ b∈fp,H' b=none)/\W i m σ' H':=fun{H8 s8} I8 n8=>by
    obtain⟨m',hm,w8⟩:=n8
    refine⟨m',hm,i+1,σ6,H8,I8.unpinned,T.keep _ _ _ st5 fun b hb o e=>(I8.pin (b,o) (List.mem_append_right _ (List.mem_append_right _ (mem_pinsAt hb e)))).1,fun b hb=>?_,w8⟩
    obtain⟨o,e,d⟩:=T.obj _ _ st5 b hb
    exact(I8.pin (b,o) (List.mem_append_right _ (List.mem_append_right _ (mem_pinsAt hb e)))).2.1
   cases ok with
   | false =>
    rw [if_neg Bool.false_ne_true] at q7
    exact again I7 q7
   | true =>
    rw [if_pos rfl] at q7
    refine thn (he C fp s2 H2 _ s7 σ6 H7 _ I7 q7) fun y s8 ⟨v8,H8,I8,r8,q8⟩=>?_
    obtain⟨ys,e8,z8,w8⟩:=q8
    refine thn (mt_append (X:=cxLC X N' scope cl C fp s2 H2) _ s8 σ6 H8 (.ref D) [v8] (.ref D) [y] (fun v H=>∃ m',m' < n/\W (i+1) m' σ6 H) I8 rfl (.cons r8 .nil) ⟨D,ys,v8,rfl,rfl,e8,z8,w8⟩) fun _ s9 ⟨v9,H9,I9,_,w9⟩=>?_
    exact again I9 w9
 exact codeAny_compStart_list (loop _ rfl) (T.self _ 0 _ _ _ tn0 (loop _ rfl))
theorem pe_lc{elt tg iter:Expr}{ifs:List Expr}{scope:Scope}{pos:Pos}{cl:List (Str×Addr)}{N' capt:List Str}{k:Nat}{js:List Nat}{wi:TI}{g:TG}{tt:TT}{te:TE}(hc:X.calm=true)(L:LCok X scope cl N' capt k js)
  (hi:PI X tg iter wi) (hg:∀ C fp s2 H2,PG (cxLC X N' scope cl C fp s2 H2) tg g) (ht:∀ C fp s2 H2,PTs (cxLC X N' scope cl C fp s2 H2) ifs tt) (he:∀ C fp s2 H2,PE (cxLC X N' scope cl C fp s2 H2) elt te)
  (hs:∀ x,foldedSetIterable iter X.env x=pure x:=by intro _;rfl):PE X (.ListComp elt [⟨tg,iter,ifs,0⟩] scope pos) (tLC k js wi g tt te):=by
 intro pins s σ H Q I h
 rw [eval_ListComp]
 refine wpAny_comprehension_free (use:=none) rfl hs L.clos L.kind L.names (thn (hi pins s σ H _ I h) fun v s1 h1=>thn h1 fun itv s2 h2=>?_)
 obtain⟨it,fp,tn,J,H2,e,I2,T,st2,f2,q⟩:=h2
 subst e
 refine thn (lc_block (E:=X.xe) hc L hg ht he I2 T st2 f2 q) fun acc s3 h3=>thn h3 fun cenv s4 h4=>codeAny_mono h4 fun r s' hr=>?_
 obtain⟨f,D,H',m,rfl,rfl,J',qq,hn,b1,b2,b3,b4,b5⟩:=hr
 exact⟨m,hn,fun h' hsb=>⟨.ref D,H',LcEnd.let_go J' b1 b2 b3 b4 b5 hsb,rfl,qq⟩⟩
end
section
variable {X:Cx}{pins:List (Addr×Obj)}{σ:St}{H:Hp}{s:Shared}
theorem Inv.turnedNew{ch:List Addr}{p:Addr}{o:HO}{h':Heap}{t':Nat}(I:Inv X pins σ H s)(hch:∀ b∈ch,FpOk X pins H b)(hp:s.heap.objs.size<=p)
  (k:∀ b u,b∉ch->s.heap.get? b=some u->h'.get? b=some u) (new:ObjOk X.prog X.w (upd H p o) h' p o):Inv X pins σ (upd H p o) { s with heap:=h',toks:=t' }:=by
 have hn:=I.hok.fresh hp
 have nch:∀ b u,H b=some u->b∉ch:=fun b u e z=>by rw [(hch b z).1] at e;cases e
 refine I.step (g':=s.gens) (d':=s.drawn) (ch:=ch) (fun b hb=>?_) (fun b u _ _ hc e _=>k b u hc e) (fun b u _ _ hc e _=>⟨u.slots,k b u hc e⟩) (fun b u hc e n=>?_) (fun b u hc e=>⟨u,k b u hc e⟩)
  (fun b xs e=>by rw [upd_ne (ne_of_none e hn)];exact e) (fun b u xs e=>by rw [upd_ne (ne_of_none e hn)];exact e) (fun b ps e=>⟨#[],by rw [upd_ne (ne_of_none e hn),e];simp⟩) (fun m hm=>?_) (fun b u e=>?_) I.bare
 ·obtain⟨f0,f1,f2,f3,f4,f5⟩:=hch b hb
  exact⟨f3,f1,f4,f5⟩
 ·rw [upd_ne (Nat.ne_of_lt (Nat.lt_of_lt_of_le (Heap.lt_size e) hp))];exact n
 ·obtain⟨o',es,ep,ho,r⟩:=hm
  exact⟨o',es,ep,k _ o' (fun z=>(hch _ z).2.1 rfl) ho,r⟩
 ·by_cases hb:b=p
  ·subst hb
   rw [upd_same] at e
   cases e
   exact new
  ·rw [upd_ne hb] at e
   refine(I.hok b u e).stay (fun c v hc q=>k c v ?_ q) (fun c q=>by rw [upd_ne (ne_of_none q hn)];exact q) (fun c xs q=>by rw [upd_ne (ne_of_none q hn)];exact q) (fun c _ _ q=>by rw [upd_ne (ne_of_none q hn)];exact q)
   rcases hc with z | z
   ·rw [z];exact nch b u e
   ·exact nch c _ z
theorem Inv.turnedL{ch:List Addr}{h':Heap}{t':Nat}(I:Inv X pins σ H s)(hch:∀ b∈ch,FpOk X pins H b)
  (k:∀ b u,b∉ch->s.heap.get? b=some u->h'.get? b=some u):Inv X pins σ H { s with heap:=h',toks:=t' }:=by
 have nch:∀ b u,H b=some u->b∉ch:=fun b u e z=>by rw [(hch b z).1] at e;cases e
 refine I.step (g':=s.gens) (d':=s.drawn) (ch:=ch) (fun b hb=>?_) (fun b u _ _ hc e _=>k b u hc e) (fun b u _ _ hc e _=>⟨u.slots,k b u hc e⟩) (fun b u hc e n=>n) (fun b u hc e=>⟨u,k b u hc e⟩)
  (fun b xs e=>e) (fun b u xs e=>e) (fun b ps e=>⟨#[],by rw [e];simp⟩) (fun m hm=>?_) (fun b u e=>?_) I.bare
 ·obtain⟨f0,f1,f2,f3,f4,f5⟩:=hch b hb
  exact⟨f3,f1,f4,f5⟩
 ·obtain⟨o',es,ep,ho,r⟩:=hm
  exact⟨o',es,ep,k _ o' (fun z=>(hch _ z).2.1 rfl) ho,r⟩
 ·refine(I.hok b u e).stay (fun c v hc q=>k c v ?_ q) (fun c q=>q) fun c xs q=>q
  rcases hc with z | z
  ·rw [z];exact nch b u e
  ·exact nch c _ z
end
section
variable {X:Cx}
theorem range_all{bs:List Bool}{its:List Value}(r:Vals (bs.map V.bl) its):(List.range its.toArray.size).all (fun i=>bs.getD i true)=bs.all id:=by
 have hl:its.toArray.size=bs.length:=by have:=r.length;simp at this ⊢;omega
 rw [hl]
 clear hl r
 apply Bool.eq_iff_iff.mpr
 simp only [List.all_eq_true,List.mem_range,id]
 constructor
 ·intro h b hb
  obtain⟨i,hi,e⟩:=List.getElem_of_mem hb
  have:=h i hi
  simp [List.getD,hi,e] at this
  exact this
 ·intro h i hi
  simp only [List.getD,List.getElem?_eq_getElem hi,Option.getD_some]
  exact h _ (List.getElem_mem hi)
theorem bools_at{bs:List Bool}{its:List Value}(r:Vals (bs.map V.bl) its)(i:Nat)(v:Value)(h:its.toArray[i]?=some v):v=.bool (bs.getD i true):=by
 have h':its[i]?=some v:=by simpa using h
 have hi:i<its.length:=(List.getElem?_eq_some_iff.mp h').1
 have hb:i<bs.length:=by have:=r.length;simp at this;omega
 obtain⟨u,hu,ru⟩:=r.get (i:=i) (x:=.bl bs[i]) (by simp [hb])
 rw [h'] at hu
 cases hu
 have ru:v=.bool bs[i]:=ru
 rw [ru]
 simp [List.getD,hb]
theorem iter_list{A:Around}{E:Value->Shared->Prop}{s:Shared}{l:Addr}{its:Array Value}{Q:Value->Shared->Prop}{prog:Program}{w:World}(hl:s.heap.IsList l its)
  (h:∀ s2:Shared,s2 = { s with heap:=s.heap.push { cls:=.type "list_iterator",data:=.fields #[.ref l,.int 0 0] } } ->
   (s2.heap.IsListIter s.heap.objs.size l 0/\s2.heap.IsList l its)->l≠s.heap.objs.size->Q (.ref s.heap.objs.size) s2) :
  wpAny (model prog w) A (pyIter (.ref l)) Q E s:=by
 have hlt:l<s.heap.objs.size:=by obtain⟨_,e,_⟩:=hl;exact Heap.lt_size e
 exact wpAny_pyIter_list hl (h _ rfl ⟨⟨_,Heap.get?_push_size _ rfl,rfl,rfl⟩,hl.push _⟩ (Nat.ne_of_lt hlt))
theorem call_all(hc:X.calm=true):CallR X (.builtin "all") (fun xs H Q=>∃(p:Addr) (bs:List Bool),xs = [.ref p]/\SqL X.K H p (bs.map V.bl)/\Q (.bl (bs.all id)) H):=by
 intro pins s σ H xs us Q I rv h
 obtain⟨p,bs,rfl,hq,q⟩:=h
 obtain⟨u,rfl,r1⟩:=rv.one
 cases r1
 obtain⟨its,rvs,pl,hz⟩:=I.list hq
 refine call_all_walk (iter_list pl.isList fun s2 e st hne=>?_)
 subst e
 refine⟨_,_,_,_,_,_,fun i=>bs.getD i true,rfl,Walks.list (A:=X.A.in1) (I.ok.hd hc) _ p hne its.toArray,st,fun i v s Q E hP hQ=>?_,fun h' tk hk=>?_⟩
 ·rw [bools_at rvs i v hP]
  exact wpAny_truthy_bool hQ
 ·rw [range_all rvs]
  refine⟨.bl (bs.all id),H,I.kept (fun b o e=>hk b o (fun z=>?_) (Heap.get?_push_of_some _ e)),rfl,q⟩
  rw [List.mem_singleton.mp z] at e
  exact Nat.lt_irrefl _ (Heap.lt_size e)
def CDivW(i j:Int):Prop:=0<j/\j<10000000000000000000000000000000000000000000000000000000000000
theorem op_fdivW:OpR X (binaryOp .FloorDiv) (rI CDivW fun i j=>.int (i / j)):=opI fun i j _ _ _ _ _ hc q=>by
 have h0:j≠0:=by have:=hc.1;omega
 have e:i.fdiv j=i / j:=Int.fdiv_eq_ediv_of_nonneg i (by have:=hc.1;omega)
 refine floordiv_int h0 (by rw [e];exact q) (.inl (PyProof.noPylong_of_log2 ?_))
 have h1:j.natAbs<2 ^ 400:=Nat.lt_of_lt_of_le (show j.natAbs<10000000000000000000000000000000000000000000000000000000000000 by have h1:=hc.1;have h2:=hc.2;omega) (by decide +kernel)
 have h2:j.natAbs≠0:=by omega
 exact Nat.lt_of_lt_of_le ((Nat.log2_lt h2).mpr h1) (by decide)
end
def Callee(P:Program)(w:World)(K:PySem.W.Frag)(mg:Str->Option Value)(base:Heap)(k:Nat)(x:Str)(ps:List Str)(sp:Sp):Prop :=
 ∃ f fd,FnOk P w K mg base CX0 k f fd ps sp/\Binds K fd ps []/\PySem.W.keepIn K (.ref f)=true/\mg x=some (.ref f)
theorem pe_callC{X:Cx}{k k':Nat}{x:Str}{ps:List Str}{sp:Sp}{e:Expr}{es:List Expr}{t:TA}{p pos:Pos}(C:Callee X.prog X.w X.K X.mg X.base k x ps sp)(hr:Room k' X.A)(hg:Gl X x)(ha:PA X (e::es) t)(hk:k<=k':=by decide)
  (hdb:(x == ("__debug__" : Str))=false:=by decide) (he:starEach (e::es) X.env=(false,eval e X.env)::starEach es X.env:=by rfl) (hpl:(backTo pos (starEach es X.env)).any (·.1)=false:=by rfl) :
  PE X (.Call (.Name x p) (e::es) [] pos) (tCall sp [] E0 t):=by
 intro pins s σ H Q I h
 obtain⟨f,fd,F,b,kp,m⟩:=C
 exact pe_call F (hr.mono hk) hg m kp b .nil pass0 ha hdb he hpl pins s σ H Q I h
def But(p:Addr)(H H':Hp):Prop:=∀ b o,b≠p->H b=some o->H' b=some o
theorem But.trans{p:Addr}{H H1 H2:Hp}(a:But p H H1)(b:But p H1 H2):But p H H2:=fun c o n h=>b c o n (a c o n h)
theorem But.of_same{p:Addr}{H H':Hp}(h:Same H H'):But p H H':=fun b o _ q=>h b o q
theorem But.write{p:Addr}{H:Hp}{o:HO}:But p H (upd H p o):=fun b u n q=>by rw [upd_ne n];exact q
theorem Same.but{p:Addr}{H H1 H2:Hp}(a:Same H H1)(hp:H p=none)(b:But p H1 H2):Same H H2:=fun c o h=>b c o (ne_of_none h hp) (a c o h)
theorem same_new{H:Hp}{p:Addr}(h:H p=none)(o:HO):Same H (upd H p o):=fun b u q=>by rw [upd_ne (ne_of_none q h)];exact q
def Pen(H:Hp)(p:Addr):Prop:=∃ a b c:Int,H p=some (.lst [.int a,.int b,.int c])
theorem atI_of{α:Type}{xs:List α}{k:Int}(h0:0<=k)(h1:k<xs.length):∃ v,atI xs k=some v/\xs[k.toNat]?=some v:=by
 have hk:k.toNat<xs.length:=by omega
 have ek:k=((k.toNat:Nat):Int):=by omega
 have q:atI xs ((k.toNat:Nat):Int)=some xs[k.toNat]:=atI_nat (List.getElem?_eq_getElem hk)
 rw [<-ek] at q
 exact⟨_,q,List.getElem?_eq_getElem hk⟩
theorem Pen.ne{H:Hp}{p l:Addr}(h:Pen H p)(hl:H l=none):l≠p:=fun e=>by
 obtain⟨a,b,c,q⟩:=h
 rw [e] at hl
 rw [hl] at q
 cases q
section
variable {prog:Program}{w:World}{A:Around}{E:Value->Shared->Prop}{s:Shared}
theorem tnext_item{it t:Addr}{i:Nat}{xs:Array Value}{x:Value}{Q:Value->Shared->Prop}(hi:s.heap.IsTupleIter it t i)(ht:s.heap.IsTuple t xs)(hx:xs[i]?=some x)
  (q:∀ h',h'.IsTupleIter it t (i+1)->Heap.SameBut it s.heap h'->Q x { s with heap:=h' }):wpAny (model prog w) A (Builtin.SmallTypes.nextOf (.ref it)) Q E s:=by
 obtain⟨oi,e1,c1,d1⟩:=id hi
 obtain⟨ot,e2,c2,n2,d2⟩:=id ht
 unfold Builtin.SmallTypes.nextOf
 refine wpAny_bind (wpAny_callSpecial?_slot (name:=Str.ofString "__next__") hi.typeIs F.slot_tuple_iterator_next (wpAny_call_entry F.slot_tuple_iterator_next hi.typeIs F.entry_tuple_iterator_next (show wpAny _ _ (field (.ref it) 0 >>= _) _ _ s from wpAny_bind (wpAny_field e1 d1 (x:=.ref t) rfl ?_)) (F.args_tuple_iterator_next_1 _)))
 show wpAny _ _ (if (Value.ref t == Value.none)=true then _ else _) _ _ s
 rw [if_neg (fun z:(Value.ref t == Value.none)=true=>Bool.false_ne_true z)]
 refine(show wpAny _ _ (field (.ref it) 1 >>= _) _ _ s from wpAny_bind (wpAny_field e1 d1 (x:=.int i 0) rfl (show wpAny _ _ (seqItems? (.ref t) >>= _) _ _ s from wpAny_bind (wpAny_seqItems e2 d2 ?_))))
 simp only [hx,Int.toNat_natCast]
 refine wpAny_bind (wpAny_setField e1 d1 (by simp) (wpAny_pure ⟨x,rfl,wpAny_pure (q _ ⟨_,Heap.get?_update_self _ e1 (Obj.isFreed_of_fields (Obj.data_mapFields d1 _)),(Obj.cls_mapFields ..).trans c1,?_⟩ (Heap.SameBut.update ..))⟩))
 rw [Obj.data_mapFields d1]
 simp [rawInt]
theorem tnext_end{it t:Addr}{i:Nat}{xs:Array Value}{Q:Value->Shared->Prop}(hh:A.handled=none)(hi:s.heap.IsTupleIter it t i)(ht:s.heap.IsTuple t xs)(hx:xs[i]?=none)
  (q:∀ h' e,Heap.ExtBut it s.heap h'->(∃ o,h'.get? e=some o/\o.cls=.type "StopIteration")->E (.ref e) { s with heap:=h' }):wpAny (model prog w) A (Builtin.SmallTypes.nextOf (.ref it)) Q E s:=by
 obtain⟨oi,e1,c1,d1⟩:=id hi
 obtain⟨ot,e2,c2,n2,d2⟩:=id ht
 unfold Builtin.SmallTypes.nextOf
 refine wpAny_bind (wpAny_callSpecial?_slot (name:=Str.ofString "__next__") hi.typeIs F.slot_tuple_iterator_next (wpAny_call_entry F.slot_tuple_iterator_next hi.typeIs F.entry_tuple_iterator_next (show wpAny _ _ (field (.ref it) 0 >>= _) _ _ s from wpAny_bind (wpAny_field e1 d1 (x:=.ref t) rfl ?_)) (F.args_tuple_iterator_next_1 _)))
 show wpAny _ _ (if (Value.ref t == Value.none)=true then _ else _) _ _ s
 rw [if_neg (fun z:(Value.ref t == Value.none)=true=>Bool.false_ne_true z)]
 refine(show wpAny _ _ (field (.ref it) 1 >>= _) _ _ s from wpAny_bind (wpAny_field e1 d1 (x:=.int i 0) rfl (show wpAny _ _ (seqItems? (.ref t) >>= _) _ _ s from wpAny_bind (wpAny_seqItems e2 d2 ?_))))
 simp only [hx,Int.toNat_natCast]
 refine wpAny_bind (wpAny_rule (wpAny_bind (wpAny_setField e1 d1 (by simp) (show wpAny _ _ (newExc (.type "StopIteration") [] >>= _) _ _ _ from wpAny_bind ?_))))
 simp only [newTuple,newExc]
 refine wpAny_bind (wpAny_newObj_type (wpAny_bind (m:=firstArgMember _ _) (wpAny_of_eq (a:=Value.none) (by first | rfl | (simp only [firstArgMember];rfl)) (wpAny_newObj_type ?_ (by size_fits)))) (by size_fits))
 simp only [raiseNew]
 refine wpAny_bind (wpAny_handled ?_)
 first | (rw [hh]) | (rw [show A.in1.handled=none from hh])
 exact wpAny_bind (wpAny_pure (wpAny_throw (q _ _ (((Heap.SameBut.update ..).extBut.push _).push _) ⟨_,Heap.get?_push_size _ rfl,rfl⟩)))
end
def zIt(b:Bool)(h:Heap)(it l:Addr)(i:Nat):Prop:=if b=true then h.IsTupleIter it l i else h.IsListIter it l i
def zSq(b:Bool)(h:Heap)(l:Addr)(xs:Array Value):Prop:=if b=true then h.IsTuple l xs else h.IsList l xs
def zOb(b:Bool)(l:Addr):Obj:={ cls:=.type (if b=true then "tuple_iterator" else "list_iterator"),data:=.fields #[.ref l,.int 0 0] }
theorem zIt.at{b:Bool}{h h':Heap}{it l:Addr}{i:Nat}(x:zIt b h it l i)(e:∀ o,h.get? it=some o->h'.get? it=some o):zIt b h' it l i:=by
 cases b
 ·exact Heap.IsListIter.at (show h.IsListIter it l i from x) e
 ·exact Heap.IsTupleIter.at (show h.IsTupleIter it l i from x) e
theorem zIt.but{b:Bool}{h h':Heap}{it l c:Addr}{i:Nat}(x:zIt b h it l i)(e:Heap.ExtBut c h h')(n:it≠c):zIt b h' it l i:=x.at fun o q=>e it o n q
theorem zSq.but{b:Bool}{h h':Heap}{l c:Addr}{xs:Array Value}(x:zSq b h l xs)(e:Heap.ExtBut c h h')(n:l≠c):zSq b h' l xs:=by
 cases b
 ·exact Heap.IsList.extBut (show h.IsList l xs from x) e n
 ·exact Heap.IsTuple.extBut (show h.IsTuple l xs from x) e n
theorem zSq.push{b:Bool}{h:Heap}{l:Addr}{xs:Array Value}(x:zSq b h l xs)(o:Obj):zSq b (h.push o) l xs:=by
 cases b
 ·exact Heap.IsList.push (show h.IsList l xs from x) o
 ·exact Heap.IsTuple.push (show h.IsTuple l xs from x) o
theorem zSq.lt{b:Bool}{h:Heap}{l:Addr}{xs:Array Value}(x:zSq b h l xs):l<h.objs.size:=by
 cases b
 ·obtain⟨o,e,_⟩:=(show h.IsList l xs from x)
  exact Heap.lt_size e
 ·obtain⟨o,e,_⟩:=(show h.IsTuple l xs from x)
  exact Heap.lt_size e
theorem zIt.own{b:Bool}{h:Heap}{it l:Addr}{i:Nat}(x:zIt b h it l i):∃ o,h.get? it=some o/\∀ v,o.data ≠ .cell v:=by
 cases b
 ·obtain⟨o,e,c,d⟩:=(show h.IsListIter it l i from x)
  exact⟨o,e,fun v q=>by rw [d] at q;cases q⟩
 ·obtain⟨o,e,c,d⟩:=(show h.IsTupleIter it l i from x)
  exact⟨o,e,fun v q=>by rw [d] at q;cases q⟩
section
variable {prog:Program}{w:World}{A:Around}{E:Value->Shared->Prop}{s:Shared}
theorem znext_item{b:Bool}{it l:Addr}{i:Nat}{xs:Array Value}{x:Value}{Q:Value->Shared->Prop}(hi:zIt b s.heap it l i)(hl:zSq b s.heap l xs)(hx:xs[i]?=some x)
  (q:∀ h',zIt b h' it l (i+1)->Heap.SameBut it s.heap h'->Q x { s with heap:=h' }):wpAny (model prog w) A (Builtin.SmallTypes.nextOf (.ref it)) Q E s:=by
 cases b
 ·exact wpAny_nextOf_list_item hi hl hx q
 ·exact tnext_item hi hl hx q
theorem znext_end{b:Bool}{it l:Addr}{i:Nat}{xs:Array Value}{Q:Value->Shared->Prop}(hh:A.handled=none)(hi:zIt b s.heap it l i)(hl:zSq b s.heap l xs)(hx:xs[i]?=none)
  (q:∀ h' e,Heap.ExtBut it s.heap h'->(∃ o,h'.get? e=some o/\o.cls=.type "StopIteration")->E (.ref e) { s with heap:=h' }):wpAny (model prog w) A (Builtin.SmallTypes.nextOf (.ref it)) Q E s:=by
 cases b
 ·exact wpAny_nextOf_list_end hh hi hl hx q
 ·exact tnext_end hh hi hl hx q
theorem ziter{b:Bool}{l:Addr}{xs:Array Value}(hl:zSq b s.heap l xs){Q:Value->Shared->Prop}(q:Q (.ref s.heap.objs.size) { s with heap:=s.heap.push (zOb b l) }):wpAny (model prog w) A (pyIter (.ref l)) Q E s:=by
 cases b
 ·exact wpAny_pyIter_list hl q
 ·exact wpAny_pyIter_tuple hl q
theorem zipG_item{b1 b2:Bool}{z TI TO i1 i2 l1 l2:Addr}{k1 k2:Nat}{xs ys:Array Value}{x y a b:Value}{Q:Value->Shared->Prop}(D:ZipApart z TI TO i1 i2 l1 l2)(hz:IsZip s.heap z TI TO .none)(hI:IsPair s.heap TI (.ref i1) (.ref i2))(hO:IsPair s.heap TO a b)
  (h1:zIt b1 s.heap i1 l1 k1) (h2:zIt b2 s.heap i2 l2 k2) (q1:zSq b1 s.heap l1 xs) (q2:zSq b2 s.heap l2 ys) (hx:xs[k1]?=some x) (hy:ys[k2]?=some y)
  (q:∀ h',IsZip h' z TI TO (rawInt s.heap.objs.size)->IsPair h' TO x y->zIt b1 h' i1 l1 (k1+1)->zIt b2 h' i2 l2 (k2+1)->IsPair h' s.heap.objs.size x y->h'.objs.size=s.heap.objs.size+1 ->
   (∀ c o,c≠z->c≠TO->c≠i1->c≠i2->s.heap.get? c=some o->h'.get? c=some o)->Q (.ref s.heap.objs.size) { s with heap:=h' }) :
  wpAny (model prog w) A (Builtin.«zip.__next__» ⟨[.ref z],[]⟩) (fun fin s'=>∃ v,fin=.done (.ret v)/\Q v s') E s:=by
 refine(show wpAny _ _ (field (.ref z) 2 >>= _) _ _ _ from wpAny_bind (wpAny_field hz rfl (x:=.bool false) rfl (show wpAny _ _ (field (.ref z) 3 >>= _) _ _ _ from wpAny_bind (wpAny_field hz rfl (x:=.ref TI) rfl (wpAny_bind (wpAny_seqItems hI rfl (show wpAny _ _ (Builtin.SmallTypes.ownedTupleIsFree (.ref z) >>= _) _ _ _ from wpAny_bind ?_)))))))
 unfold Builtin.SmallTypes.ownedTupleIsFree
 refine wpAny_bind (wpAny_field hz rfl (x:=.none) rfl (wpAny_pure ?_))
 simp only [if_true]
 refine wpAny_bind (wpAny_rule (wpAny_bind (wpAny_field hz rfl (x:=.ref TO) rfl (wpAny_bind (wpAny_setField_rec hz (by simp) fun g1 z1 s1=>wpAny_bind ?_)))))
 replace z1:IsZip g1 z TI TO .ellipsis:=z1
 simp only [List.zipIdx_nil,List.zipIdx_cons,List.forIn_nil,List.forIn_cons]
 refine wpAny_bind (wpAny_bind (wpAny_onRaise (show wpAny _ _ (Builtin.SmallTypes.nextOf (.ref i1) >>= _) _ _ _ from wpAny_bind (znext_item (h1.but s1.extBut D.i1z) (q1.but s1.extBut D.l1z) hx fun g2 t2 s2=>wpAny_pure ?_))))
 have O2:IsPair g2 TO a b:=s2.extBut _ _ D.TOi1 (s1.extBut _ _ D.TOz hO)
 refine wpAny_bind (wpAny_seqItems O2 rfl (wpAny_bind (wpAny_updateSeq_pair O2 fun g3 O3 s3=>wpAny_bind (wpAny_letGo (wpAny_pure ?_)))))
 replace O3:IsPair g3 TO x b:=O3
 refine wpAny_bind (wpAny_bind (wpAny_onRaise (show wpAny _ _ (Builtin.SmallTypes.nextOf (.ref i2) >>= _) _ _ _ from wpAny_bind (znext_item (((h2.but s1.extBut D.i2z).but s2.extBut D.i12.symm).but s3.extBut D.TOi2.symm) (((q2.but s1.extBut D.l2z).but s2.extBut D.l2i1).but s3.extBut D.l2TO) hy fun g4 t4 s4=>wpAny_pure ?_))))
 have O4:IsPair g4 TO x b:=s4.extBut _ _ D.TOi2 O3
 refine wpAny_bind (wpAny_seqItems O4 rfl (wpAny_bind (wpAny_updateSeq_pair O4 fun g5 O5 s5=>wpAny_bind (wpAny_letGo (wpAny_pure (wpAny_pure ?_))))))
 replace O5:IsPair g5 TO x y:=O5
 refine wpAny_bind (wpAny_seqItems O5 rfl (wpAny_bind (wpAny_newTuple ?_)))
 have sz:g5.objs.size=s.heap.objs.size:=by rw [s5.1,s4.1,s3.1,s2.1,s1.1]
 have z5:IsZip g5 z TI TO .ellipsis:=s5.extBut _ _ D.TOz.symm (s4.extBut _ _ D.i2z.symm (s3.extBut _ _ D.TOz.symm (s2.extBut _ _ D.i1z.symm z1)))
 have k5:∀ c o,c≠z->c≠TO->c≠i1->c≠i2->s.heap.get? c=some o->g5.get? c=some o:=fun c o n1 n2 n3 n4 e=>s5.extBut _ _ n2 (s4.extBut _ _ n4 (s3.extBut _ _ n2 (s2.extBut _ _ n3 (s1.extBut _ _ n1 e))))
 have t5:zIt b1 g5 i1 l1 (k1+1):=((t2.but s3.extBut D.TOi1.symm).but s4.extBut D.i12).but s5.extBut D.TOi1.symm
 have u5:zIt b2 g5 i2 l2 (k2+1):=t4.but s5.extBut D.TOi2.symm
 have lz:z<g5.objs.size:=Heap.lt_size z5
 refine(show wpAny _ _ (Builtin.SmallTypes.ownedTupleHandOut (.ref z) (.ref g5.objs.size) >>= _) _ _ _ from wpAny_bind ?_)
 unfold Builtin.SmallTypes.ownedTupleHandOut
 have z6:IsZip (g5.push { cls:=.type "tuple",data:=.seq #[x,y] }) z TI TO .ellipsis:=Heap.get?_push_of_some _ z5
 refine wpAny_bind (wpAny_setField_rec z6 (by simp) fun g7 z7 s7=>?_)
 replace z7:IsZip g7 z TI TO (rawInt g5.objs.size):=z7
 refine wpAny_setField_rec z7 (by simp) fun g8 z8 s8=>?_
 replace z8:IsZip g8 z TI TO (rawInt g5.objs.size):=z8
 have up:∀ c o,c≠z->g5.get? c=some o->g8.get? c=some o:=fun c o n e=>s8.extBut _ _ n (s7.extBut _ _ n (Heap.get?_push_of_some _ e))
 have p8:IsPair g8 g5.objs.size x y:=s8.extBut _ _ (Nat.ne_of_gt lz) (s7.extBut _ _ (Nat.ne_of_gt lz) (Heap.get?_push_size _ rfl))
 have n8:g8.objs.size=g5.objs.size+1:=by rw [s8.1,s7.1,Heap.size_push]
 rw [sz] at z8 p8 n8
 refine wpAny_pure ⟨_,rfl,(show Q (.ref g5.objs.size) _ from ?_)⟩
 rw [sz]
 exact q g8 z8 (up _ _ D.TOz O5) (t5.at fun o e=>up _ o D.i1z e) (u5.at fun o e=>up _ o D.i2z e) p8 n8 fun c o n1 n2 n3 n4 e=>up c o n1 (k5 c o n1 n2 n3 n4 e)
theorem zipG_end{b1 b2:Bool}{z TI TO i1 i2 l1 l2:Addr}{k1 k2:Nat}{xs ys:Array Value}{a b:Value}{Q:Fin->Shared->Prop}(hh:A.handled=none)(D:ZipApart z TI TO i1 i2 l1 l2)(hz:IsZip s.heap z TI TO .none)(hI:IsPair s.heap TI (.ref i1) (.ref i2))(hO:IsPair s.heap TO a b)
  (h1:zIt b1 s.heap i1 l1 k1) (h2:zIt b2 s.heap i2 l2 k2) (q1:zSq b1 s.heap l1 xs) (q2:zSq b2 s.heap l2 ys) (he:xs[k1]?=none\/ys[k2]?=none)
  (q:∀ h' e,(∀ c o,c≠z->c≠TO->c≠i1->c≠i2->s.heap.get? c=some o->h'.get? c=some o)->(∃ o,h'.get? e=some o/\o.cls=.type "StopIteration")->E (.ref e) { s with heap:=h' }) :
  wpAny (model prog w) A (Builtin.«zip.__next__» ⟨[.ref z],[]⟩) Q E s:=by
 refine(show wpAny _ _ (field (.ref z) 2 >>= _) _ _ _ from wpAny_bind (wpAny_field hz rfl (x:=.bool false) rfl (show wpAny _ _ (field (.ref z) 3 >>= _) _ _ _ from wpAny_bind (wpAny_field hz rfl (x:=.ref TI) rfl (wpAny_bind (wpAny_seqItems hI rfl (show wpAny _ _ (Builtin.SmallTypes.ownedTupleIsFree (.ref z) >>= _) _ _ _ from wpAny_bind ?_)))))))
 unfold Builtin.SmallTypes.ownedTupleIsFree
 refine wpAny_bind (wpAny_field hz rfl (x:=.none) rfl (wpAny_pure ?_))
 simp only [if_true]
 refine wpAny_bind (wpAny_rule (wpAny_bind (wpAny_field hz rfl (x:=.ref TO) rfl (wpAny_bind (wpAny_setField_rec hz (by simp) fun g1 z1 s1=>wpAny_bind ?_)))))
 replace z1:IsZip g1 z TI TO .ellipsis:=z1
 simp only [List.zipIdx_nil,List.zipIdx_cons,List.forIn_nil,List.forIn_cons]
 cases hx:xs[k1]? with
 | none =>
  refine wpAny_bind (wpAny_bind (wpAny_onRaise (show wpAny _ _ (Builtin.SmallTypes.nextOf (.ref i1) >>= _) _ _ _ from wpAny_bind (znext_end hh (h1.but s1.extBut D.i1z) (q1.but s1.extBut D.l1z) hx fun g2 e s2 ⟨oe,ee,ce⟩=>?_))))
  have z2:IsZip g2 z TI TO .ellipsis:=s2 _ _ D.i1z.symm z1
  have nez:e≠z:=fun t=>by subst t;rw [z2] at ee;cases ee;simp at ce
  exact wpAny_setField_rec z2 (by simp) fun g3 _ s3=>q g3 e (fun c o n1 _ n3 _ t=>s3.extBut _ _ n1 (s2 _ _ n3 (s1.extBut _ _ n1 t))) ⟨oe,s3.extBut _ _ nez ee,ce⟩
 | some x =>
  have hy:ys[k2]?=none:=he.resolve_left (by rw [hx];exact fun t=>nomatch t)
  refine wpAny_bind (wpAny_bind (wpAny_onRaise (show wpAny _ _ (Builtin.SmallTypes.nextOf (.ref i1) >>= _) _ _ _ from wpAny_bind (znext_item (h1.but s1.extBut D.i1z) (q1.but s1.extBut D.l1z) hx fun g2 t2 s2=>wpAny_pure ?_))))
  have O2:IsPair g2 TO a b:=s2.extBut _ _ D.TOi1 (s1.extBut _ _ D.TOz hO)
  refine wpAny_bind (wpAny_seqItems O2 rfl (wpAny_bind (wpAny_updateSeq_pair O2 fun g3 O3 s3=>wpAny_bind (wpAny_letGo (wpAny_pure ?_)))))
  refine wpAny_bind (wpAny_bind (wpAny_onRaise (show wpAny _ _ (Builtin.SmallTypes.nextOf (.ref i2) >>= _) _ _ _ from wpAny_bind (znext_end hh (((h2.but s1.extBut D.i2z).but s2.extBut D.i12.symm).but s3.extBut D.TOi2.symm) (((q2.but s1.extBut D.l2z).but s2.extBut D.l2i1).but s3.extBut D.l2TO) hy fun g4 e s4 ⟨oe,ee,ce⟩=>?_))))
  have z4:IsZip g4 z TI TO .ellipsis:=s4 _ _ D.i2z.symm (s3.extBut _ _ D.TOz.symm (s2.extBut _ _ D.i1z.symm z1))
  have nez:e≠z:=fun t=>by subst t;rw [z4] at ee;cases ee;simp at ce
  exact wpAny_setField_rec z4 (by simp) fun g5 _ s5=>q g5 e (fun c o n1 n2 n3 n4 t=>s5.extBut _ _ n1 (s4 _ _ n4 (s3.extBut _ _ n2 (s2.extBut _ _ n3 (s1.extBut _ _ n1 t))))) ⟨oe,s5.extBut _ _ nez ee,ce⟩
theorem znext_zip_item{b1 b2:Bool}{z TI TO i1 i2 l1 l2:Addr}{k1 k2:Nat}{xs ys:Array Value}{x y a b:Value}{Q:Option Value->Shared->Prop}(D:ZipApart z TI TO i1 i2 l1 l2)(hz:IsZip s.heap z TI TO .none)(hI:IsPair s.heap TI (.ref i1) (.ref i2))(hO:IsPair s.heap TO a b)
  (h1:zIt b1 s.heap i1 l1 k1) (h2:zIt b2 s.heap i2 l2 k2) (q1:zSq b1 s.heap l1 xs) (q2:zSq b2 s.heap l2 ys) (hx:xs[k1]?=some x) (hy:ys[k2]?=some y)
  (q:∀ h',IsZip h' z TI TO (rawInt s.heap.objs.size)->IsPair h' TO x y->zIt b1 h' i1 l1 (k1+1)->zIt b2 h' i2 l2 (k2+1)->IsPair h' s.heap.objs.size x y->h'.objs.size=s.heap.objs.size+1 ->
   (∀ c o,c≠z->c≠TO->c≠i1->c≠i2->s.heap.get? c=some o->h'.get? c=some o)->Q (some (.ref s.heap.objs.size)) { s with heap:=h' }):wpAny (model prog w) A (pyNext (.ref z)) Q E s:=by
 have hT:s.TypeIs (.ref z) "zip" :=⟨_,hz,rfl⟩
 unfold pyNext
 exact wpAny_bind (wpAny_attempt (wpAny_callSpecial?_slot (name:=Str.ofString "__next__") hT F.slot_zip_next (wpAny_call_entry F.slot_zip_next hT F.entry_zip_next (zipG_item D hz hI hO h1 h2 q1 q2 hx hy fun h' a1 a2 a3 a4 a5 a6 a7=>wpAny_pure (q h' a1 a2 a3 a4 a5 a6 a7)) (F.args_zip_next_1 _))))
theorem znext_zip_end{b1 b2:Bool}{z TI TO i1 i2 l1 l2:Addr}{k1 k2:Nat}{xs ys:Array Value}{a b:Value}{Q:Option Value->Shared->Prop}(hh:A.handled=none)(D:ZipApart z TI TO i1 i2 l1 l2)(hz:IsZip s.heap z TI TO .none)(hI:IsPair s.heap TI (.ref i1) (.ref i2))(hO:IsPair s.heap TO a b)
  (h1:zIt b1 s.heap i1 l1 k1) (h2:zIt b2 s.heap i2 l2 k2) (q1:zSq b1 s.heap l1 xs) (q2:zSq b2 s.heap l2 ys) (he:xs[k1]?=none\/ys[k2]?=none)
  (q:∀ h',(∀ c o,c≠z->c≠TO->c≠i1->c≠i2->s.heap.get? c=some o->h'.get? c=some o)->Q none { s with heap:=h' }):wpAny (model prog w) A (pyNext (.ref z)) Q E s:=by
 have hT:s.TypeIs (.ref z) "zip" :=⟨_,hz,rfl⟩
 unfold pyNext
 exact wpAny_bind (wpAny_attempt (wpAny_callSpecial?_slot (name:=Str.ofString "__next__") hT F.slot_zip_next (wpAny_call_entry F.slot_zip_next hT F.entry_zip_next (zipG_end hh D hz hI hO h1 h2 q1 q2 he fun h' e k ⟨o,ho,hc⟩=>wpAny_bind (wpAny_isInstance (T := "StopIteration") (b:=true) ⟨o,ho,hc⟩ isSubtype_stop (wpAny_pure (q _ k)))) (F.args_zip_next_1 _))))
end
abbrev zG1(b1:Bool)(h:Heap)(l1:Addr):Heap:=h.push (zOb b1 l1)
abbrev zG2(b1 b2:Bool)(h:Heap)(l1 l2:Addr):Heap:=(zG1 b1 h l1).push (zOb b2 l2)
abbrev zG3(b1 b2:Bool)(h:Heap)(l1 l2:Addr):Heap:=(zG2 b1 b2 h l1 l2).push { cls:=.type "tuple",data:=.seq #[.ref h.objs.size,.ref (zG1 b1 h l1).objs.size] }
abbrev zG4(b1 b2:Bool)(h:Heap)(l1 l2:Addr):Heap:=(zG3 b1 b2 h l1 l2).push { cls:=.type "tuple",data:=.seq #[.none,.none] }
abbrev zG5(b1 b2:Bool)(h:Heap)(l1 l2:Addr):Heap:=(zG4 b1 b2 h l1 l2).push { cls:=.type "zip",data:=.fields #[.none,.bool false,.bool false,.ref (zG2 b1 b2 h l1 l2).objs.size,.ref (zG3 b1 b2 h l1 l2).objs.size] }
theorem zipG_new(b1 b2:Bool)(l1 l2:Addr)(xs ys:Array Value):Meets (Builtin.«zip.__new__» ⟨[.type "zip",.ref l1,.ref l2],[]⟩) (fun _ R s=>zSq b1 s.heap l1 xs/\zSq b2 s.heap l2 ys/\R (.ok (.ret (.ref (zG4 b1 b2 s.heap l1 l2).objs.size))) { s with heap:=zG5 b1 b2 s.heap l1 l2 }) :=
 .of_wp fun prog w A R s h=>by
  obtain⟨hp,g,d,tk,os⟩:=s
  obtain⟨q1,q2,h⟩:=h
  have hsub:=sub_zip
  have L1:zSq b1 (Shared.heap ⟨hp,g,d,tk,os⟩) l1 xs:=q1
  have L2:zSq b2 (Shared.heap ⟨hp.push (zOb b1 l1),g,d,tk,os⟩) l2 ys:=q2.push _
  wp_walk using ziter L1,ziter L2
  exact⟨_,rfl,h⟩
theorem call_zipG{prog:Program}{w:World}{A:Around}{E:Value->Shared->Prop}{s:Shared}{b1 b2:Bool}{l1 l2:Addr}{xs ys:Array Value}{Q:Value->Shared->Prop}(q1:zSq b1 s.heap l1 xs)(q2:zSq b2 s.heap l2 ys)
  (h:∀ h',IsZip h' (s.heap.objs.size+4) (s.heap.objs.size+2) (s.heap.objs.size+3) .none->IsPair h' (s.heap.objs.size+2) (.ref s.heap.objs.size) (.ref (s.heap.objs.size+1))->IsPair h' (s.heap.objs.size+3) .none .none ->
   zIt b1 h' s.heap.objs.size l1 0->zIt b2 h' (s.heap.objs.size+1) l2 0->(∀ c o,s.heap.get? c=some o->h'.get? c=some o)->Q (.ref (s.heap.objs.size+4)) { s with heap:=h' }) :
  wpAny (model prog w) A (call (.type "zip") [.ref l1,.ref l2]) Q E s:=by
 refine callType_new F.called_zip (by decide) (F.typeCall_zip_2 _ _) (F.newCall_zip_2 _ _) (fun obj=>F.args_object_init_3 obj _ _) F.entry_zip_new (zipG_new b1 b2 l1 l2 xs ys) ⟨q1,q2,?_⟩
 have z1:(zG1 b1 s.heap l1).objs.size=s.heap.objs.size+1:=Heap.size_push ..
 have z2:(zG2 b1 b2 s.heap l1 l2).objs.size=s.heap.objs.size+2:=by rw [Heap.size_push,z1]
 have z3:(zG3 b1 b2 s.heap l1 l2).objs.size=s.heap.objs.size+3:=by rw [Heap.size_push,z2]
 have z4:(zG4 b1 b2 s.heap l1 l2).objs.size=s.heap.objs.size+4:=by rw [Heap.size_push,z3]
 have g5:(zG5 b1 b2 s.heap l1 l2).get? (zG4 b1 b2 s.heap l1 l2).objs.size=some _:=Heap.get?_push_size _ rfl
 have g4:(zG5 b1 b2 s.heap l1 l2).get? (zG3 b1 b2 s.heap l1 l2).objs.size=some _:=Heap.get?_push_of_some _ (Heap.get?_push_size _ rfl)
 have g3:(zG5 b1 b2 s.heap l1 l2).get? (zG2 b1 b2 s.heap l1 l2).objs.size=some _:=Heap.get?_push_of_some _ (Heap.get?_push_of_some _ (Heap.get?_push_size _ rfl))
 have g2:(zG5 b1 b2 s.heap l1 l2).get? (zG1 b1 s.heap l1).objs.size=some (zOb b2 l2):=Heap.get?_push_of_some _ (Heap.get?_push_of_some _ (Heap.get?_push_of_some _ (Heap.get?_push_size _ rfl)))
 have g1:(zG5 b1 b2 s.heap l1 l2).get? s.heap.objs.size=some (zOb b1 l1):=Heap.get?_push_of_some _ (Heap.get?_push_of_some _ (Heap.get?_push_of_some _ (Heap.get?_push_of_some _ (Heap.get?_push_size _ rfl))))
 show _/\_
 rw [z2,z3,z4] at g5
 rw [z1,z2] at g3
 rw [z3] at g4
 rw [z1] at g2
 rw [z4]
 have i1:zIt b1 (zG5 b1 b2 s.heap l1 l2) s.heap.objs.size l1 0:=by
  cases b1
  ·exact⟨_,g1,rfl,rfl⟩
  ·exact⟨_,g1,rfl,rfl⟩
 have i2:zIt b2 (zG5 b1 b2 s.heap l1 l2) (s.heap.objs.size+1) l2 0:=by
  cases b2
  ·exact⟨_,g2,rfl,rfl⟩
  ·exact⟨_,g2,rfl,rfl⟩
 exact⟨⟨_,g5,rfl⟩,h _ g5 g3 g4 i1 i2 fun c o x=>Heap.get?_push_of_some _ (Heap.get?_push_of_some _ (Heap.get?_push_of_some _ (Heap.get?_push_of_some _ (Heap.get?_push_of_some _ x))))⟩
def SqG(b:Bool)(K:PySem.W.Frag)(H:Hp)(a:Addr)(xs:List V):Prop:=if b=true then SqT K H a xs else SqL K H a xs
theorem Inv.sqG{X:Cx}{pins:List (Addr×Obj)}{σ:St}{H:Hp}{s:Shared}{b:Bool}{a:Addr}{xs:List V}(I:Inv X pins σ H s)(h:SqG b X.K H a xs):∃ its:List Value,Vals xs its/\zSq b s.heap a its.toArray/\xs.length<=sizeLine:=by
 cases b
 ·obtain⟨its,r,p,z⟩:=I.list (show SqL X.K H a xs from h)
  exact⟨its,r,p.isList,z⟩
 ·obtain⟨its,r,p,z⟩:=I.tuple (show SqT X.K H a xs from h)
  exact⟨its,r,p,z⟩
theorem Inv.sqG_inj{X:Cx}{pins:List (Addr×Obj)}{σ:St}{H:Hp}{s:Shared}{b:Bool}{a:Addr}{xs ys:List V}(I:Inv X pins σ H s)(h:SqG b X.K H a xs)(h':SqG b X.K H a ys):xs=ys:=by
 cases b
 ·exact I.list_inj (show SqL X.K H a xs from h) h'
 ·exact I.tuple_inj (show SqT X.K H a xs from h) h'
def Izg(b1 b2:Bool)(K:PySem.W.Frag)(a b:Addr):It :=
 ⟨fun i H=>∃ xs ys x y,SqG b1 K H a xs/\SqG b2 K H b ys/\xs[i]?=some x/\ys[i]?=some y,fun i H v H'=>∃ p x y,H p=none/\v=.ref p/\H'=upd H p (.tup [x,y])/\(∀ xs,SqG b1 K H a xs->xs[i]?=some x)/\∀ ys,SqG b2 K H b ys->ys[i]?=some y,fun i H=>∃ xs ys,SqG b1 K H a xs/\SqG b2 K H b ys/\(xs.length<=i\/ys.length<=i)⟩
theorem turn_zipG{P:Program}{w:World}{K:PySem.W.Frag}{b1 b2:Bool}{elts:List Expr}{x1}{tpos:Pos}{l1 l2 z TI TO i1 i2:Addr}(D:ZipApart z TI TO i1 i2 l1 l2):
  Turn P w K (.Tuple elts x1 tpos) (Izg b1 b2 K l1 l2) [z,TI,TO,i1,i2] z (fun i h=>IsZip h z TI TO .none/\IsPair h TI (.ref i1) (.ref i2)/\(∃ a b,IsPair h TO a b)/\zIt b1 h i1 l1 i/\zIt b2 h i2 l2 i) where
 mem:=by simp
 obj:=fun i h st b hb=>by
  obtain⟨hz,hTI,⟨a,b',hTO⟩,h1,h2⟩:=st
  simp only [List.mem_cons,List.not_mem_nil,or_false] at hb
  rcases hb with rfl | rfl | rfl | rfl | rfl
  ·exact⟨_,hz,fun v q=>by cases (show Data.fields _=Data.cell v from q)⟩
  ·exact⟨_,hTI,fun v q=>by cases (show Data.seq _ _=Data.cell v from q)⟩
  ·exact⟨_,hTO,fun v q=>by cases (show Data.seq _ _=Data.cell v from q)⟩
  ·exact h1.own
  ·exact h2.own
 keep:=fun i h h' st k=>by
  obtain⟨hz,hTI,⟨a,b',hTO⟩,h1,h2⟩:=st
  exact⟨k _ (by simp) _ hz,k _ (by simp) _ hTI,⟨a,b',k _ (by simp) _ hTO⟩,h1.at fun o e=>k i1 (by simp) o e,h2.at fun o e=>k i2 (by simp) o e⟩
 item:=by
  intro X hP hw hK hc i pins s σ H E I hf st hg
  subst hP hw hK
  obtain⟨xs,ys,x,y,hq1,hq2,hx,hy⟩:=hg
  obtain⟨hz,hTI,⟨a,b',hTO⟩,h1,h2⟩:=st
  obtain⟨its1,rv1,p1,hz1⟩:=I.sqG hq1
  obtain⟨its2,rv2,p2,hz2⟩:=I.sqG hq2
  obtain⟨u1,hu1,ru1⟩:=rv1.get hx
  obtain⟨u2,hu2,ru2⟩:=rv2.get hy
  refine znext_zip_item D hz hTI hTO h1 h2 p1 p2 (x:=u1) (y:=u2) (by simpa using hu1) (by simpa using hu2) fun h' hz' hTO' h1' h2' hp' hsz hk=>⟨_,rfl,?_⟩
  refine wpAny_letOwnedTupleGo_zip hz' fun h'' hz'' hsb=>?_
  have ne:s.heap.objs.size≠z:=fun q=>by have:=Heap.lt_size hz;rw [<-q] at this;exact Nat.lt_irrefl _ this
  have hp2:IsPair h'' s.heap.objs.size u1 u2:=(hsb.2 _ ne).trans hp'
  have nb:∀ c o,s.heap.get? c=some o->c≠s.heap.objs.size:=fun c o e=>Nat.ne_of_lt (Heap.lt_size e)
  have I1:Inv X pins σ (upd H s.heap.objs.size (.tup [x,y])) { s with heap:=h'',toks:=s.toks }:=by
   refine I.turnedNew (ch:=[z,TI,TO,i1,i2]) hf (Nat.le_refl _) (fun b u hb e=>?_) ⟨by simp [sizeLine_eq],[u1,u2],.cons ru1 (.cons ru2 .nil),?_⟩
   ·simp only [List.mem_cons,List.not_mem_nil,or_false,not_or] at hb
    exact(hsb.2 b hb.1).trans (hk b u hb.1 hb.2.2.1 hb.2.2.2.1 hb.2.2.2.2 e)
   ·exact⟨_,hp2,rfl,⟨_,rfl⟩,rfl⟩
  refine⟨.ref s.heap.objs.size,_,I1,rfl,⟨_,x,y,I.hok.fresh (Nat.le_refl _),rfl,rfl,fun xs' h=>by rw [I.sqG_inj h hq1];exact hx,fun ys' h=>by rw [I.sqG_inj h hq2];exact hy⟩,⟨hz'',?_,?_,?_,?_⟩,fun b hb=>?_⟩
  ·exact(hsb.2 _ D.TIz).trans (hk _ _ D.TIz D.TITO D.TIi1 D.TIi2 hTI)
  ·exact⟨_,_,(hsb.2 _ D.TOz).trans hTO'⟩
  ·exact h1'.at fun o e=>(hsb.2 _ D.i1z).trans e
  ·exact h2'.at fun o e=>(hsb.2 _ D.i2z).trans e
  ·rw [upd_ne]
   ·exact(hf b hb).1
   ·intro q
    subst q
    simp only [List.mem_cons,List.not_mem_nil,or_false] at hb
    obtain⟨o1,e1,_⟩:=h1.own
    obtain⟨o2,e2,_⟩:=h2.own
    rcases hb with q | q | q | q | q
    ·exact nb _ _ hz q.symm
    ·exact nb _ _ hTI q.symm
    ·exact nb _ _ hTO q.symm
    ·exact nb _ _ e1 q.symm
    ·exact nb _ _ e2 q.symm
 done:=by
  intro X hP hw hK hc i pins s σ H E I hf st hg
  subst hP hw hK
  obtain⟨xs,ys,hq1,hq2,hl⟩:=hg
  obtain⟨hz,hTI,⟨a,b',hTO⟩,h1,h2⟩:=st
  obtain⟨its1,rv1,p1,hz1⟩:=I.sqG hq1
  obtain⟨its2,rv2,p2,hz2⟩:=I.sqG hq2
  have e1:=rv1.length
  have e2:=rv2.length
  refine znext_zip_end (I.ok.hd hc) D hz hTI hTO h1 h2 p1 p2 (by rcases hl with q | q;exact .inl (by simp;omega);exact .inr (by simp;omega)) fun h' hk=>⟨rfl,?_⟩
  refine I.turnedL (t':=s.toks) (ch:=[z,TI,TO,i1,i2]) hf fun b u hb e=>?_
  simp only [List.mem_cons,List.not_mem_nil,or_false,not_or] at hb
  exact hk b u hb.1 hb.2.2.1 hb.2.2.2.1 hb.2.2.2.2 e
 self:=fun _ _ _ _ _ st h=>wpAny_pyIter_zip st.1 h
section
variable {X:Cx}
theorem tup_whole{prog:Program}{w:World}{A:Around}{E:Value->Shared->Prop}{s:Shared}{t sl:Addr}{its:Array Value}{vl vu:Value}{lo hi:Option Int}{Q:Value->Shared->Prop}(ht:IsTup s.heap t its)(hs:s.heap.IsSliceOf sl vl vu .none)(pl:IsPart vl lo)(pu:IsPart vu hi)
  (h0:HT.sIx its.size 0 lo=0) (h1:HT.sIx its.size its.size hi=its.size) (h:Q (.ref t) s):wpAny (model prog w) A (getItem (.ref t) (.ref sl)) Q E s:=by
 obtain⟨os,hos,hcs,hds⟩:=id hs
 have hTs:s.TypeIs (.ref sl) "slice" :=⟨os,hos,hcs⟩
 unfold getItem
 try with_reducible refine wpAny_holding ?_
 first | (refine wpAny_bind (wpAny_pure ?_)) | skip
 refine wpAny_bind (wpAny_sequenceKey ht.typeIs (by decide) (wpAny_bind (wpAny_callSpecial?_slot (name:=Str.ofString "__getitem__") ht.typeIs PyProof.Rows.slot_tuple_getitem (wpAny_call_entry PyProof.Rows.slot_tuple_getitem ht.typeIs entry_tuple_getitem ?_ (args_tuple_getitem _ _)))))
 refine(show wpAny _ _ (Builtin.Tuple.tupleItemsOf (.ref t) >>= _) _ _ s from wpAny_bind (tupleItemsOf_ ht (wpAny_bind (wpAny_typeOf hTs ?_))))
 rw [if_pos (by decide)]
 refine wpAny_bind (HT.sliceApplied_gen hs pl pu ?_)
 rw [h0,h1]
 have hy:(((((0:Nat):Int) == 0 && (1:Int) == 1) && (its.size-0 == its.size))=true):=by simp
 show wpAny _ _ (if (((0:Nat):Int) == 0 && (1:Int) == 1 && (its.size-0) == its.size)=true then _ else _) _ _ s
 rw [if_pos hy]
 refine wpAny_bind (m:=Builtin.Tuple.tupleIsExact _) ?_
 unfold Builtin.Tuple.tupleIsExact
 refine wpAny_bind (wpAny_typeOf ht.typeIs (wpAny_pure ?_))
 rw [if_pos (by decide)]
 first
  | exact wpAny_bind (wpAny_rule (wpAny_pure ⟨_,rfl,wpAny_pure h⟩))
  | exact wpAny_bind (wpAny_rule (wpAny_bind (wpAny_pure (wpAny_pure ⟨_,rfl,wpAny_pure h⟩))))
  | exact wpAny_bind (wpAny_rule (wpAny_bind (wpAny_pure ⟨_,rfl,wpAny_pure h⟩)))
end
inductive Kn(H:Hp):V->Prop
 | non:Kn H .non
 | bl (b:Bool):Kn H (.bl b)
 | int (i:Int):Kn H (.int i)
 | str (x:Str):Kn H (.str x)
 | lst {a:Addr} {xs:List V} (e:H a=some (.lst xs)):Kn H (.ref a)
 | tup {a:Addr} {xs:List V} (e:H a=some (.tup xs)):Kn H (.ref a)
 | dct {a:Addr} {ks:List (Key×V)} (e:H a=some (.dK ks)):Kn H (.ref a)
def tupOf(H:Hp):V->Option (List V)
 | .ref a=>match H a with | some (.tup xs)=>some xs | _=>none
 | _=>none
theorem tupOf_ref{H:Hp}{a:Addr}{xs:List V}(e:H a=some (.tup xs)):tupOf H (.ref a)=some xs:=by unfold tupOf;simp only [e]
def Th:Nat->Hp->V->Prop
 | 0,H,x=>Kn H x
 | n+1,H,x=>Kn H x/\∀ xs,tupOf H x=some xs->∀ y∈xs,Th n H y
theorem Th.kn:∀{n:Nat} {H:Hp} {x:V},Th n H x->Kn H x
 | 0,_,_,h=>h
 | _+1,_,_,h=>h.1
theorem Th.tup{n:Nat}{H:Hp}{a:Addr}{xs:List V}(e:H a=some (.tup xs))(h:∀ y∈xs,Th n H y):Th (n+1) H (.ref a) :=
 ⟨.tup e,fun ys e' y hy=>by rw [tupOf_ref e] at e';cases e';exact h y hy⟩
theorem Th.flat{n:Nat}{H:Hp}{x:V}(h:Kn H x)(e:tupOf H x=none):Th n H x:=by
 cases n with
 | zero=>exact h
 | succ n=>exact⟨h,fun xs e'=>by rw [e] at e';cases e'⟩
theorem Th.int(n:Nat)(H:Hp)(i:Int):Th n H (.int i):=Th.flat (.int i) rfl
theorem Th.bl(n:Nat)(H:Hp)(b:Bool):Th n H (.bl b):=Th.flat (.bl b) rfl
theorem Th.str(n:Nat)(H:Hp)(x:Str):Th n H (.str x):=Th.flat (.str x) rfl
theorem Th.non(n:Nat)(H:Hp):Th n H .non:=Th.flat .non rfl
theorem Th.lst(n:Nat){H:Hp}{a:Addr}{xs:List V}(e:H a=some (.lst xs)):Th n H (.ref a):=Th.flat (.lst e) (by unfold tupOf;simp only [e])
theorem Th.dct(n:Nat){H:Hp}{a:Addr}{ks:List (Key×V)}(e:H a=some (.dK ks)):Th n H (.ref a):=Th.flat (.dct e) (by unfold tupOf;simp only [e])
def inB(lo hi:Int):V->Bool
 | .int i=>decide (lo<=i) && decide (i<=hi)
 | _=>false
def allB:List (Int×Int)->List V->Bool
 | [],[]=>true
 | b::bs,x::xs=>inB b.1 b.2 x && allB bs xs
 | _,_=>false
def whB(bs:List (Int×Int)):Option (List V)->Bool
 | some xs=>allB bs xs
 | none=>false
theorem Kn.butL{H H':Hp}{p:Addr}{a b:List V}{x:V}(h1:H p=some (.lst a))(h2:H' p=some (.lst b))(s:But p H H')(h:Kn H x):Kn H' x:=by
 cases h with
 | non=>exact .non
 | bl b=>exact .bl b
 | int i=>exact .int i
 | str x=>exact .str x
 | @lst c xs e =>
  by_cases hc:c=p
  ·subst hc;exact .lst h2
  ·exact .lst (s _ _ hc e)
 | tup e=>exact .tup (s _ _ (ne_of e h1 (by intro z;cases z)) e)
 | dct e=>exact .dct (s _ _ (ne_of e h1 (by intro z;cases z)) e)
theorem tupOf_butL{H H':Hp}{p:Addr}{a b:List V}{x:V}(h1:H p=some (.lst a))(h2:H' p=some (.lst b))(s:But p H H')(h:Kn H x):tupOf H' x=tupOf H x:=by
 cases h with
 | @lst c xs e =>
  by_cases hc:c=p
  ·subst hc;unfold tupOf;simp only [e,h2]
  ·unfold tupOf;simp only [e,s _ _ hc e]
 | tup e=>have:=s _ _ (ne_of e h1 (by intro z;cases z)) e;unfold tupOf;simp only [e,this]
 | dct e=>have:=s _ _ (ne_of e h1 (by intro z;cases z)) e;unfold tupOf;simp only [e,this]
 | _=>rfl
theorem Th.butL:∀{n:Nat} {H H':Hp} {p:Addr} {a b:List V} {x:V},H p=some (.lst a)->H' p=some (.lst b)->But p H H'->Th n H x->Th n H' x
 | 0,_,_,_,_,_,_,h1,h2,s,h=>Kn.butL h1 h2 s h
 | n+1,_,_,_,_,_,_,h1,h2,s,h=>⟨h.1.butL h1 h2 s,fun xs e y hy=>Th.butL h1 h2 s (h.2 xs ((tupOf_butL h1 h2 s h.1).symm.trans e) y hy)⟩
theorem Th.pen{n:Nat}{H H':Hp}{p:Addr}{x:V}(h1:Pen H p)(h2:Pen H' p)(s:But p H H')(h:Th n H x):Th n H' x:=by
 obtain⟨a,b,c,e⟩:=h1
 obtain⟨a',b',c',e'⟩:=h2
 exact Th.butL e e' s h
theorem atI_ex{α:Type}{xs:List α}{k:Int}(h0:0<=k)(h1:k<xs.length):∃ v,atI xs k=some v/\v∈xs:=by
 obtain⟨v,h,e⟩:=atI_of h0 h1
 exact⟨v,h,List.mem_of_getElem? e⟩
def tPar3(i j k:Nat)(ta:TA):TS:=fun D σ H=>ta σ H fun vs H1=>∃ u v w,vs = [u,v,w]/\D.nx (((σ.set i (some u)).set j (some v)).set k (some w)) H1
theorem ps_par3{X:Cx}{i j k:Nat}{x y z:Str}{a b c:Expr}{ta:TA}{px py pz pt pos:Pos}{kt k2 pt2}(hc:X.calm=true)(hN:X.N.Nodup)(hi:X.N[i]?=some x)(hj:X.N[j]?=some y)(hk:X.N[k]?=some z)(hij:i≠j)(hik:i≠k)(hjk:j≠k)
  (hx:X.env.scope.names.lookup x=some .local) (hy:X.env.scope.names.lookup y=some .local) (hz:X.env.scope.names.lookup z=some .local) (ha:PA X [a,b,c] ta)
  (hw:swappedStores [.Tuple [.Name x px,.Name y py,.Name z pz] kt pt] (.Tuple [a,b,c] k2 pt2) X.env=pure (some [x,y,z]))
  (hs:swapsWithSole [.Tuple [.Name x px,.Name y py,.Name z pz] kt pt] (.Tuple [a,b,c] k2 pt2) pos.line X.env=pure false:=by rfl) :
  PS X (.Assign [.Tuple [.Name x px,.Name y py,.Name z pz] kt pt] (.Tuple [a,b,c] k2 pt2) pos) (tPar3 i j k ta):=by
 intro pins s σ H D I h
 rw [exec_Assign_arm]
 refine wpAny_bind (wpAny_standAt ?_)
 rw [hs]
 refine wpAny_bind (wpAny_pure ?_)
 rw [if_neg (by decide)]
 refine wpAny_bind (Tuple_ (thn (ha _ pins s σ H _ I h) fun us s1 ⟨vs,H1,I1,r1,q1⟩=>?_))
 obtain⟨v1,v2,v3,e1,q1⟩:=q1
 subst e1
 obtain⟨u1,u2,u3,rfl,r1,r2,r3⟩:∃ u1 u2 u3,us = [u1,u2,u3]/\RelV v1 u1/\RelV v2 u2/\RelV v3 u3:=by
  cases r1 with
  | cons p q =>
   cases q with
   | cons p' q' =>
    cases q' with
    | cons p'' q'' =>
     cases q''
     exact⟨_,_,_,rfl,p,p',p''⟩
 refine wpAny_newObj_type ?_ (by show 3<=sizeLine;decide)
 have I2:Inv X pins σ H1 { s1 with heap:=s1.heap.push { cls:=.type "tuple",data:=.seq [u1,u2,u3].toArray } }:=I1.kept (t':=s1.toks) fun b o e=>Heap.get?_push_of_some _ e
 rw [hw]
 refine wpAny_bind (wpAny_pure ?_)
 show wpAny (model X.prog X.w) X.A (do rule "assign.swapped-stores";let items <-unpackItems (.ref s1.heap.objs.size) 3 none;assignInOrder [fun v=>bindName X.env z v,fun v=>bindName X.env y v,fun v=>bindName X.env x v] items.reverse;pure Flow.next) _ _ _
 refine wpAny_bind (wpAny_rule (wpAny_bind (unpackItems_tuple (items:=#[u1,u2,u3]) (I.ok.hd hc) (IsTup.new s1.heap _) fun h' hx'=>?_)))
 have I3:=I2.kept (h':=h') (t':=s1.toks) fun b o e=>hx' b o (Nat.ne_of_lt (Heap.lt_size e)) e
 show wpAny _ _ (assignInOrder [fun v=>bindName X.env z v,fun v=>bindName X.env y v,fun v=>bindName X.env x v] [u3,u2,u1] >>= fun _=>pure Flow.next) _ _ _
 refine wpAny_bind (assignInOrder_cons (wpAny_bindName (store_ok I3 hN hk (.inl hz) r3 (fun s2 I4=>?_) (.inr hz))))
 refine assignInOrder_cons (wpAny_bindName (store_ok I4 hN hj (.inl hy) r2 (fun s3 I5=>?_) (.inr hy)))
 refine assignInOrder_cons (wpAny_bindName (store_ok I5 hN hi (.inl hx) r1 (fun s4 I6=>assignInOrder_nil (wpAny_pure ?_)) (.inr hx)))
 have e:(((σ.set k (some v3)).set j (some v2)).set i (some v1))=(((σ.set i (some v1)).set j (some v2)).set k (some v3)):=by
  rw [List.set_comm _ _ (Ne.symm hjk),List.set_comm _ _ (Ne.symm hik),List.set_comm _ _ (Ne.symm hij)]
 rw [e] at I6
 exact⟨_,H1,I6,q1⟩
def NoD(H:Hp)(x:V):Prop:=∀ a,x=.ref a->(∃ xs,H a=some (.lst xs))\/∃ xs,H a=some (.tup xs)
end L2
namespace L2
end L2
namespace L2
open PySem
theorem sE_T{es:List Expr}{x1}{pos:Pos}{rest:List Expr}{env:Env}:starEach (.Tuple es x1 pos::rest) env=(false,eval (.Tuple es x1 pos) env)::starEach rest env:=by rw [starEach];intro e p h;cases h
theorem sE_C{c j}{pos:Pos}{rest:List Expr}{env:Env}:starEach (.Constant c j pos::rest) env=(false,eval (.Constant c j pos) env)::starEach rest env:=by rw [starEach];intro e p h;cases h
end L2
namespace L2
open PySem PySem.Spec PyProof.Rows
end L2
namespace L2
open PySem
theorem pw_pt{X:Cx}{e:Expr}{t:TT}(h:PW X e t):PT X e t:=h.pt
end L2
namespace L2
open PySem PySem.Spec PyProof.Rows
theorem NoD.butL{H H':Hp}{p:Addr}{a b:List V}{x:V}(h1:H p=some (.lst a))(h2:H' p=some (.lst b))(s:But p H H')(h:NoD H x):NoD H' x:=fun c e=>by
 by_cases hc:c=p
 ·subst hc;exact .inl ⟨b,h2⟩
 ·rcases h c e with⟨xs,q⟩ | ⟨xs,q⟩
  ·exact .inl ⟨xs,s _ _ hc q⟩
  ·exact .inr ⟨xs,s _ _ hc q⟩
def Ts:Nat->Hp->V->Prop
 | 0,H,x=>Kn H x/\NoD H x
 | n+1,H,x=>Kn H x/\∀ xs,tupOf H x=some xs->∀ y∈xs,Ts n H y
theorem Ts.kn:∀{n:Nat} {H:Hp} {x:V},Ts n H x->Kn H x
 | 0,_,_,h=>h.1
 | _+1,_,_,h=>h.1
theorem Ts.butL:∀{n:Nat} {H H':Hp} {p:Addr} {a b:List V} {x:V},H p=some (.lst a)->H' p=some (.lst b)->But p H H'->Ts n H x->Ts n H' x
 | 0,_,_,_,_,_,_,h1,h2,s,h=>⟨h.1.butL h1 h2 s,h.2.butL h1 h2 s⟩
 | n+1,_,_,_,_,_,_,h1,h2,s,h=>⟨h.1.butL h1 h2 s,fun xs e y hy=>Ts.butL h1 h2 s (h.2 xs ((tupOf_butL h1 h2 s h.1).symm.trans e) y hy)⟩
theorem Ts.pen{n:Nat}{H H':Hp}{p:Addr}{x:V}(h1:Pen H p)(h2:Pen H' p)(s:But p H H')(h:Ts n H x):Ts n H' x:=by
 obtain⟨a,b,c,e⟩:=h1
 obtain⟨a',b',c',e'⟩:=h2
 exact Ts.butL e e' s h
theorem Ts.tup{n:Nat}{H:Hp}{a:Addr}{xs:List V}(e:H a=some (.tup xs))(h:∀ y∈xs,Ts n H y):Ts (n+1) H (.ref a) :=
 ⟨.tup e,fun ys e' y hy=>by rw [tupOf_ref e] at e';cases e';exact h y hy⟩
theorem Ts.flat{n:Nat}{H:Hp}{x:V}(h:Kn H x)(e:tupOf H x=none)(d:NoD H x):Ts n H x:=by
 cases n with
 | zero=>exact⟨h,d⟩
 | succ n=>exact⟨h,fun xs e'=>by rw [e] at e';cases e'⟩
theorem Ts.int(n:Nat)(H:Hp)(i:Int):Ts n H (.int i):=Ts.flat (.int i) rfl (fun _ z=>by cases z)
theorem Ts.bl(n:Nat)(H:Hp)(b:Bool):Ts n H (.bl b):=Ts.flat (.bl b) rfl (fun _ z=>by cases z)
theorem Ts.str(n:Nat)(H:Hp)(x:Str):Ts n H (.str x):=Ts.flat (.str x) rfl (fun _ z=>by cases z)
theorem Ts.non(n:Nat)(H:Hp):Ts n H .non:=Ts.flat .non rfl (fun _ z=>by cases z)
theorem Ts.lst(n:Nat){H:Hp}{a:Addr}{xs:List V}(e:H a=some (.lst xs)):Ts n H (.ref a):=Ts.flat (.lst e) (by unfold tupOf;simp only [e]) (fun c z=>by cases z;exact .inl ⟨xs,e⟩)
theorem Ts.dct(n:Nat){H:Hp}{a:Addr}{ks:List (Key×V)}(e:H a=some (.dK ks)):Ts (n+1) H (.ref a):=⟨.dct e,fun xs e'=>by unfold tupOf at e';simp only [e] at e';cases e'⟩
open AutoSeq1 (wpAny_loadPart')
section
variable {X:Cx}
end
end L2
namespace L2
end L2
namespace L2
open PySem PySem.Spec PyProof.Rows
section
variable {X:Cx}{a b c d:Expr}{ta tb tc td:TE}{pos:Pos}
end
abbrev D:=PyData
def kD:Key->D
 | .inl i=>.int i
 | .inr x=>.str x
def PenO(a:Addr):HO:=.ext fun h=>∃(x y z:Int) (tx ty tz:Tok) (n:Nat),h.get? a=some { cls:=.type "list",data:=.seq #[.int x tx,.int y ty,.int z tz] n }
def HO.per:HO->Bool
 | .tup _=>true
 | .frz _ _=>true
 | .ext _=>true
 | _=>false
def Pers(H H':Hp):Prop:=∀ a o,H a=some o->o.per=true->H' a=some o
theorem Pers.refl(H:Hp):Pers H H:=fun _ _ h _=>h
theorem Pers.trans{H H1 H2:Hp}(a:Pers H H1)(b:Pers H1 H2):Pers H H2:=fun c o h p=>b c o (a c o h p) p
theorem Same.pers{H H':Hp}(s:Same H H'):Pers H H':=fun a o h _=>s a o h
theorem Pers.sqT{K:PySem.W.Frag}{H H':Hp}{a:Addr}{xs:List V}(p:Pers H H')(h:SqT K H a xs):SqT K H' a xs:=by
 rcases h with(h | ⟨o,h⟩) | h
 ·exact .inl (.inl (p _ _ h rfl))
 ·exact .inl (.inr ⟨o,p _ _ h rfl⟩)
 ·exact .inr h
section
variable (K:PySem.W.Frag)
mutual
inductive Rep(H:Hp):D->V->Prop
 | non:Rep H .none .non
 | bl {b:Bool}:Rep H (.bool b) (.bl b)
 | int {i:Int}:Rep H (.int i) (.int i)
 | str {x:Str}:Rep H (.str x) (.str x)
 | tup {xs:List D} {a:Addr} {vs:List V} (h:SqT K H a vs) (r:Reps H xs vs):Rep H (.tuple xs) (.ref a)
 | lst {xs:List D} {a:Addr} {vs:List V} {o:Obj} (h:H a=some (.frz o (.lst vs))) (r:Reps H xs vs):Rep H (.list xs) (.ref a)
 | dic {kvs:List (D×D)} {a:Addr} {kws:List (Key×V)} {o:Obj} (h:H a=some (.frz o (.dK kws))) (r:RepK H kvs kws):Rep H (.dict kvs) (.ref a)
inductive Reps(H:Hp):List D->List V->Prop
 | nil:Reps H [] []
 | cons {d:D} {v:V} {ds:List D} {vs:List V} (r:Rep H d v) (t:Reps H ds vs):Reps H (d::ds) (v::vs)
inductive RepK(H:Hp):List (D×D)->List (Key×V)->Prop
 | nil:RepK H [] []
 | cons {k:Key} {d:D} {v:V} {ds:List (D×D)} {vs:List (Key×V)} (r:Rep H d v) (t:RepK H ds vs):RepK H ((kD k,d)::ds) ((k,v)::vs)
end
end
section
variable {K:PySem.W.Frag}{H H':Hp}
mutual
theorem Rep.mono(p:Pers H H'):∀{d:D} {v:V},Rep K H d v->Rep K H' d v
 | _,_,.non=>.non
 | _,_,.bl=>.bl
 | _,_,.int=>.int
 | _,_,.str=>.str
 | _,_,.tup h r=>.tup (p.sqT h) (Reps.mono p r)
 | _,_,.lst h r=>.lst (p _ _ h rfl) (Reps.mono p r)
 | _,_,.dic h r=>.dic (p _ _ h rfl) (RepK.mono p r)
theorem Reps.mono(p:Pers H H'):∀{ds:List D} {vs:List V},Reps K H ds vs->Reps K H' ds vs
 | _,_,.nil=>.nil
 | _,_,.cons r t=>.cons (Rep.mono p r) (Reps.mono p t)
theorem RepK.mono(p:Pers H H'):∀{ds:List (D×D)} {vs:List (Key×V)},RepK K H ds vs->RepK K H' ds vs
 | _,_,.nil=>.nil
 | _,_,.cons r t=>.cons (Rep.mono p r) (RepK.mono p t)
end
theorem Reps.length:∀{ds:List D} {vs:List V},Reps K H ds vs->ds.length=vs.length
 | _,_,.nil=>rfl
 | _,_,.cons _ t=>by simp [t.length]
theorem Reps.append:∀{ds es:List D} {vs ws:List V},Reps K H ds vs->Reps K H es ws->Reps K H (ds++es) (vs++ws)
 | _,_,_,_,.nil,s=>s
 | _,_,_,_,.cons r t,s=>.cons r (t.append s)
theorem Reps.get:∀{ds:List D} {vs:List V} {i:Nat} {d:D},Reps K H ds vs->ds[i]?=some d->∃ v,vs[i]?=some v/\Rep K H d v
 | _,_,_,_,.nil,e=>by simp at e
 | _,_,0,_,.cons r _,e=>by simp at e;subst e;exact⟨_,rfl,r⟩
 | _,_,i+1,_,.cons _ t,e=>by
  obtain⟨v,h1,h2⟩:=t.get (i:=i) (by simpa using e)
  exact⟨v,by simpa using h1,h2⟩
theorem Reps.get':∀{ds:List D} {vs:List V} {i:Nat} {v:V},Reps K H ds vs->vs[i]?=some v->∃ d,ds[i]?=some d/\Rep K H d v
 | _,_,_,_,.nil,e=>by simp at e
 | _,_,0,_,.cons r _,e=>by simp at e;subst e;exact⟨_,rfl,r⟩
 | _,_,i+1,_,.cons _ t,e=>by
  obtain⟨v,h1,h2⟩:=t.get' (i:=i) (by simpa using e)
  exact⟨v,by simpa using h1,h2⟩
theorem Reps.take:∀{ds:List D} {vs:List V} (n:Nat),Reps K H ds vs->Reps K H (ds.take n) (vs.take n)
 | _,_,0,_=>.nil
 | _,_,_+1,.nil=>.nil
 | _,_,n+1,.cons r t=>.cons r (t.take n)
theorem Reps.drop:∀{ds:List D} {vs:List V} (n:Nat),Reps K H ds vs->Reps K H (ds.drop n) (vs.drop n)
 | _,_,0,r=>r
 | _,_,_+1,.nil=>.nil
 | _,_,n+1,.cons _ t=>t.drop n
theorem Reps.set{d:D}{v:V}(r:Rep K H d v):∀{ds:List D} {vs:List V} (i:Nat),Reps K H ds vs->Reps K H (ds.set i d) (vs.set i v)
 | _,_,_,.nil=>.nil
 | _,_,0,.cons _ t=>.cons r t
 | _,_,i+1,.cons q t=>.cons q (Reps.set r i t)
theorem Reps.reverse{ds:List D}{vs:List V}(h:Reps K H ds vs):Reps K H ds.reverse vs.reverse:=by
 induction ds generalizing vs with
 | nil=>cases h;exact .nil
 | cons d ds ih =>
  cases h with
  | cons r t=>rw [List.reverse_cons,List.reverse_cons];exact(ih t).append (.cons r .nil)
theorem Reps.rep{ds:List D}{vs:List V}(h:Reps K H ds vs):∀ k:Nat,Reps K H (List.replicate k ds).flatten (List.replicate k vs).flatten
 | 0=>.nil
 | k+1=>by
  rw [List.replicate_succ,List.replicate_succ,List.flatten_cons,List.flatten_cons]
  exact h.append (h.rep k)
theorem Reps.ints:∀{ns:List Int},Reps K H (ns.map PyData.int) (ns.map V.int)
 | []=>.nil
 | _::_=>.cons .int Reps.ints
theorem Reps.of_ints:∀{ns:List Int} {vs:List V},Reps K H (ns.map PyData.int) vs->vs=ns.map V.int
 | [],_,.nil=>rfl
 | _::_,_,.cons .int t=>by rw [Reps.of_ints t];rfl
theorem Reps.same(s:Same H H'){ds:List D}{vs:List V}(r:Reps K H ds vs):Reps K H' ds vs:=r.mono s.pers
theorem Rep.same(s:Same H H'){d:D}{v:V}(r:Rep K H d v):Rep K H' d v:=r.mono s.pers
end
section
variable (K:PySem.W.Frag)
mutual
inductive RepN(H:Hp):D->V->Prop
 | non:RepN H .none .non
 | bl {b:Bool}:RepN H (.bool b) (.bl b)
 | int {i:Int}:RepN H (.int i) (.int i)
 | str {x:Str}:RepN H (.str x) (.str x)
 | tup {xs:List D} {a:Addr} {vs:List V} (h:SqT K H a vs) (r:RepNs H xs vs):RepN H (.tuple xs) (.ref a)
 | lst {xs:List D} {a:Addr} {vs:List V} (h:Rd H a (.lst vs)) (r:RepNs H xs vs):RepN H (.list xs) (.ref a)
inductive RepNs(H:Hp):List D->List V->Prop
 | nil:RepNs H [] []
 | cons {d:D} {v:V} {ds:List D} {vs:List V} (r:RepN H d v) (t:RepNs H ds vs):RepNs H (d::ds) (v::vs)
end
end
section
variable {K:PySem.W.Frag}{H H':Hp}
theorem Same.rd(s:Same H H'){a:Addr}{u:HO}(h:Rd H a u):Rd H' a u:=by
 rcases h with h | ⟨o,h⟩
 ·exact .inl (s _ _ h)
 ·exact .inr ⟨o,s _ _ h⟩
mutual
theorem RepN.gen(ht:∀{a vs},SqT K H a vs->SqT K H' a vs)(hl:∀{a vs},Rd H a (.lst vs)->Rd H' a (.lst vs)):∀{d:D} {v:V},RepN K H d v->RepN K H' d v
 | _,_,.non=>.non
 | _,_,.bl=>.bl
 | _,_,.int=>.int
 | _,_,.str=>.str
 | _,_,.tup h r=>.tup (ht h) (RepNs.gen ht hl r)
 | _,_,.lst h r=>.lst (hl h) (RepNs.gen ht hl r)
theorem RepNs.gen(ht:∀{a vs},SqT K H a vs->SqT K H' a vs)(hl:∀{a vs},Rd H a (.lst vs)->Rd H' a (.lst vs)):∀{ds:List D} {vs:List V},RepNs K H ds vs->RepNs K H' ds vs
 | _,_,.nil=>.nil
 | _,_,.cons r t=>.cons (RepN.gen ht hl r) (RepNs.gen ht hl t)
end
theorem RepN.same(s:Same H H'){d:D}{v:V}(h:RepN K H d v):RepN K H' d v:=h.gen (fun h=>s.pers.sqT h) (fun h=>s.rd h)
mutual
theorem Rep.now:∀{d:D} {v:V},Rep K H d v->(∀ kvs,d ≠ .dict kvs)->d.canLay0=true->RepN K H d v
 | _,_,.non,_,_=>.non
 | _,_,.bl,_,_=>.bl
 | _,_,.int,_,_=>.int
 | _,_,.str,_,_=>.str
 | _,_,.tup h r,_,c=>.tup h (Reps.now r (by simpa [PyData.canLay0] using c))
 | _,_,.lst h r,_,c=>.lst (.inr ⟨_,h⟩) (Reps.now r (by simpa [PyData.canLay0] using c))
 | _,_,.dic _ _,n,_=>absurd rfl (n _)
theorem Reps.now:∀{ds:List D} {vs:List V},Reps K H ds vs->PyData.canLayAll0 ds=true->RepNs K H ds vs
 | _,_,.nil,_=>.nil
 | _,_,.cons r t,c=>by
  simp only [PyData.canLayAll0,Bool.and_eq_true] at c
  exact .cons (Rep.now r (fun kvs e=>by subst e;simp [PyData.canLay0] at c) c.1) (Reps.now t c.2)
end
theorem RepN.frz{a:Addr}{vs:List V}{o:Obj}(e:H a=some (.lst vs)){d:D}{v:V}(h:RepN K H d v):RepN K (upd H a (.frz o (.lst vs))) d v:=by
 have ne:∀{b:Addr} {u:HO},H b=some u->u ≠ .lst vs->b≠a:=fun{b u} h n z=>by rw [z,e] at h;cases h;exact n rfl
 refine h.gen (fun{b ws} h=>?_) (fun{b ws} h=>?_)
 ·rcases h with(h | ⟨o,h⟩) | h
  ·exact .inl (.inl (by rw [upd_ne (ne h (by intro z;cases z))];exact h))
  ·exact .inl (.inr ⟨o,by rw [upd_ne (ne h (by intro z;cases z))];exact h⟩)
  ·exact .inr h
 ·rcases h with h | ⟨o',h⟩
  ·by_cases z:b=a
   ·subst z
    rw [e] at h
    cases h
    exact .inr ⟨_,upd_same⟩
   ·exact .inl (by rw [upd_ne z];exact h)
  ·exact .inr ⟨o',by rw [upd_ne (ne h (by intro z;cases z))];exact h⟩
end
inductive Mx where
 | v (d:D) | l (xs:List D)
inductive O where
 | lst (xs:List D)
 | dct (kvs:List (Key×D))
 | nst (xss:List (List D)) (ds:List D)
 | anc (a:Addr) (o:O)
 | ins (c:Str) (fs:List (Str×D))
 | mix (ms:List Mx)
inductive W where
 | val (d:D) | vw (xs:List D) | vd (xs:List (Key×D)) | exc (x:Str×List (Str×Int)) | scr (ns:List Int) | pen | tmp (d:D) | own (o:O)
abbrev DSt:=List (Option W)
def clrS:Option W->Option W
 | some (.tmp _)=>none
 | w=>w
def clr(σ:DSt):DSt:=σ.map clrS
section
variable (K:PySem.W.Frag)
def RepL(H:Hp)(xs:List D)(v:V):Prop:=∃ a vs,v=.ref a/\Rd H a (.lst vs)/\Reps K H xs vs
def RepT(H:Hp)(d:D)(v:V):Prop:=Rep K H d v\/∃ xs,d=.list xs/\RepL K H xs v
def RepKV(K:PySem.W.Frag)(H:Hp)(ks:List (Key×D))(vs:List (Key×V)):Prop:=ks.map (·.1)=vs.map (·.1)/\Reps K H (ks.map (·.2)) (vs.map (·.2))
def Nst(H:Hp):List (List D)->List Addr->Prop
 | [],[]=>True
 | xs::xss,b::bs=>(∃ vs,H b=some (.lst vs)/\Reps K H xs vs)/\Nst H xss bs
 | _,_=>False
def MxR(H:Hp):List Mx->List V->List Addr->Prop
 | [],[],[]=>True
 | .v d::ms,u::us,bs=>Rep K H d u/\MxR H ms us bs
 | .l xs::ms,u::us,b::bs=>u=.ref b/\(∃ vs,H b=some (.lst vs)/\Reps K H xs vs)/\MxR H ms us bs
 | _,_,_=>False
def RepO(H:Hp):O->V->List Addr->Prop
 | .mix ms,v,fp=>∃ a us bs,v=.ref a/\fp=a::bs/\H a=some (.lst us)/\MxR K H ms us bs
 | .lst xs,v,fp=>∃ a vs,v=.ref a/\fp = [a]/\H a=some (.lst vs)/\Reps K H xs vs
 | .dct ks,v,fp=>∃ a vs,v=.ref a/\fp = [a]/\H a=some (.dK vs)/\RepKV K H ks vs
 | .nst xss ds,v,fp=>∃ a as us,v=.ref a/\fp=a::as/\H a=some (.lst (as.map V.ref++us))/\Nst K H xss as/\Reps K H ds us
 | .anc a o,v,fp=>v=.ref a/\RepO H o v fp
 | .ins c fs,v,fp=>∃ a dx C fv,v=.ref a/\fp = [a,dx]/\PySem.W.nsIn K mainGlobals c=some (some (.ref C))/\H a=some (.ins C dx fv)/\H dx=some (.own a)/\fv.map (·.1)=fs.map (·.1)/\Reps K H (fs.map (·.2)) (fv.map (·.2))
def RepD(H:Hp)(xs:List (Key×D))(v:V):Prop:=∃ a vs,v=.ref a/\H a=some (.dK vs)/\RepKV K H xs vs
def ExcO(C:Addr)(od:Option Addr)(a:Addr):HO:=.ext fun h=>∃ oe,h.get? a=some oe/\oe.cls=.ref C/\oe.dict=od/\∃ vs,oe.data=.fields vs
def RepX(H:Hp)(x:Str×List (Str×Int))(v:V):Prop:=∃ a C od,v=.ref a/\PySem.W.nsIn K mainGlobals x.1=some (some (.ref C))/\H a=some (ExcO C od a)/\((x.2 = []/\od=none)\/∃ d,od=some d/\H d=some (.xd (x.2.map fun p=>(p.1,V.int p.2))))
inductive Slots(H₀ H:Hp):DSt->St->List Addr->Prop
 | nil:Slots H₀ H [] [] []
 | none {v:Option V} {ws:DSt} {vs:St} {fp:List Addr} (t:Slots H₀ H ws vs fp):Slots H₀ H (Option.none::ws) (v::vs) fp
 | val {d:D} {v:V} {ws:DSt} {vs:St} {fp:List Addr} (r:Rep K H d v) (t:Slots H₀ H ws vs fp):Slots H₀ H (some (.val d)::ws) (some v::vs) fp
 | vw {xs:List D} {v:V} {ws:DSt} {vs:St} {fp:List Addr} (r:RepL K H₀ xs v) (t:Slots H₀ H ws vs fp):Slots H₀ H (some (.vw xs)::ws) (some v::vs) fp
 | vd {xs:List (Key×D)} {v:V} {ws:DSt} {vs:St} {fp:List Addr} (r:RepD K H₀ xs v) (t:Slots H₀ H ws vs fp):Slots H₀ H (some (.vd xs)::ws) (some v::vs) fp
 | exc {xs:Str×List (Str×Int)} {v:V} {ws:DSt} {vs:St} {fp:List Addr} (r:RepX K H₀ xs v) (t:Slots H₀ H ws vs fp):Slots H₀ H (some (.exc xs)::ws) (some v::vs) fp
 | scr {ns:List Int} {a:Addr} {ws:DSt} {vs:St} {fp:List Addr} (r:SqL K H₀ a (ns.map V.int)) (t:Slots H₀ H ws vs fp):Slots H₀ H (some (.scr ns)::ws) (some (.ref a)::vs) fp
 | pen {a:Addr} {ws:DSt} {vs:St} {fp:List Addr} (r:H a=some (PenO a)) (t:Slots H₀ H ws vs fp):Slots H₀ H (some .pen::ws) (some (.ref a)::vs) fp
 | tmp {d:D} {v:V} {ws:DSt} {vs:St} {fp:List Addr} (r:RepN K H d v) (t:Slots H₀ H ws vs fp):Slots H₀ H (some (.tmp d)::ws) (some v::vs) fp
 | own {o:O} {v:V} {f:List Addr} {ws:DSt} {vs:St} {fp:List Addr} (r:RepO K H o v f) (t:Slots H₀ H ws vs fp):Slots H₀ H (some (.own o)::ws) (some v::vs) (f++fp)
structure DOk(H₀ H:Hp)(σD:DSt)(σ:St):Prop where
 same:Same H₀ H
 slots:∃ fp,Slots K H₀ H σD σ fp/\fp.Nodup/\∀ a∈fp,H₀ a=none
end
section
variable {K:PySem.W.Frag}{H₀ H H':Hp}{σD:DSt}{σ:St}
theorem RepX.same(s:Same H H'){xs:Str×List (Str×Int)}{v:V}:RepX K H xs v->RepX K H' xs v:=by
 rintro ⟨a,C,od,rfl,n,h,r⟩
 refine⟨a,C,od,rfl,n,s _ _ h,?_⟩
 rcases r with r | ⟨d,e,r⟩
 ·exact .inl r
 ·exact .inr ⟨d,e,s _ _ r⟩
theorem RepD.same(s:Same H H'){xs:List (Key×D)}{v:V}:RepD K H xs v->RepD K H' xs v:=by
 rintro ⟨a,vs,rfl,h,r⟩
 exact⟨a,vs,rfl,s _ _ h,r.1,r.2.same s⟩
theorem RepL.same(s:Same H H'){xs:List D}{v:V}:RepL K H xs v->RepL K H' xs v:=by
 rintro ⟨a,vs,rfl,h,r⟩
 refine⟨a,vs,rfl,?_,r.same s⟩
 rcases h with h | ⟨o,h⟩
 ·exact .inl (s _ _ h)
 ·exact .inr ⟨o,s _ _ h⟩
theorem RepT.same(s:Same H H'){d:D}{v:V}:RepT K H d v->RepT K H' d v
 | .inl h=>.inl (h.same s)
 | .inr ⟨xs,e,h⟩=>.inr ⟨xs,e,h.same s⟩
theorem Rep.top{d:D}{v:V}(h:Rep K H d v):RepT K H d v:=.inl h
theorem RepT.list{xs:List D}{v:V}(h:RepT K H (.list xs) v):RepL K H xs v:=by
 rcases h with h | ⟨ys,e,h⟩
 ·cases h with
  | lst h r=>exact⟨_,_,rfl,.inr ⟨_,h⟩,r⟩
 ·cases e;exact h
theorem RepL.sq{xs:List D}{v:V}(h:RepL K H xs v):∃ a vs,v=.ref a/\SqL K H a vs/\Reps K H xs vs:=by
 obtain⟨a,vs,rfl,h,r⟩:=h
 exact⟨a,vs,rfl,.inl h,r⟩
theorem Nst.len:∀{xss:List (List D)} {as:List Addr},Nst K H xss as->as.length=xss.length
 | [],[],_=>rfl
 | _::_,_::_,h=>by rw [List.length_cons,List.length_cons,Nst.len h.2]
theorem Nst.live:∀{xss:List (List D)} {as:List Addr},Nst K H xss as->∀ b∈as,∃ vs,H b=some (.lst vs)
 | [],[],_,b,hb=>by cases hb
 | _::_,_::_,h,b,hb=>by
  rcases List.mem_cons.mp hb with rfl | hb
  ·obtain⟨vs,e,_⟩:=h.1;exact⟨vs,e⟩
  ·exact Nst.live h.2 b hb
theorem Nst.keep(p:Pers H H'):∀{xss:List (List D)} {as:List Addr},(∀ a∈as,∀ u,H a=some u->H' a=some u)->Nst K H xss as->Nst K H' xss as
 | [],[],_,_=>trivial
 | _::_,b::_,k,h=>by
  obtain⟨⟨vs,e,r⟩,t⟩:=h
  exact⟨⟨vs,k b List.mem_cons_self _ e,r.mono p⟩,Nst.keep p (fun a ha=>k a (List.mem_cons_of_mem _ ha)) t⟩
theorem MxR.live:∀{ms:List Mx} {us:List V} {bs:List Addr},MxR K H ms us bs->∀ b∈bs,∃ vs,H b=some (.lst vs)
 | [],[],[],_,b,hb=>by cases hb
 | .v _::_,_::_,_,h,b,hb=>MxR.live h.2 b hb
 | .l _::_,_::_,c::_,h,b,hb=>by
  rcases List.mem_cons.mp hb with rfl | hb
  ·obtain⟨vs,e,_⟩:=h.2.1;exact⟨vs,e⟩
  ·exact MxR.live h.2.2 b hb
theorem MxR.keep(p:Pers H H'):∀{ms:List Mx} {us:List V} {bs:List Addr},(∀ a∈bs,∀ u,H a=some u->H' a=some u)->MxR K H ms us bs->MxR K H' ms us bs
 | [],[],[],_,_=>trivial
 | .v _::_,_::_,_,k,h=>⟨h.1.mono p,MxR.keep p k h.2⟩
 | .l _::_,_::_,b::_,k,h=>by
  obtain⟨e0,⟨vs,e,r⟩,t⟩:=h
  exact⟨e0,⟨vs,k b List.mem_cons_self _ e,r.mono p⟩,MxR.keep p (fun a ha=>k a (List.mem_cons_of_mem _ ha)) t⟩
theorem MxR.fp{H2:Hp}:∀{ms:List Mx} {us:List V} {bs cs:List Addr},MxR K H ms us bs->MxR K H2 ms us cs->bs=cs
 | [],[],[],[],_,_=>rfl
 | .v _::_,_::_,_,_,h,g=>MxR.fp h.2 g.2
 | .l _::_,_::_,_::_,_::_,h,g=>by
  have:=h.1.symm.trans g.1
  cases this
  rw [MxR.fp h.2.2 g.2.2]
theorem MxR.len:∀{ms:List Mx} {us:List V} {bs:List Addr},MxR K H ms us bs->ms.length=us.length
 | [],[],[],_=>rfl
 | .v _::_,_::_,_,h=>by rw [List.length_cons,List.length_cons,MxR.len h.2]
 | .l _::_,_::_,_::_,h=>by rw [List.length_cons,List.length_cons,MxR.len h.2.2]
theorem RepO.live{o:O}{v:V}{f:List Addr}(h:RepO K H o v f):∀ a∈f,∃ u,H a=some u/\u.per=false:=by
 induction o with
 | anc a o ih=>exact ih h.2
 | mix ms =>
  obtain⟨a,us,bs,rfl,rfl,e,m⟩:=h
  intro b hb
  rcases List.mem_cons.mp hb with rfl | hb
  ·exact⟨_,e,rfl⟩
  ·obtain⟨vs,e2⟩:=m.live b hb
   exact⟨_,e2,rfl⟩
 | ins c fs =>
  obtain⟨a,dx,C,fv,rfl,rfl,_,e1,e2,_⟩:=h
  intro b hb
  simp only [List.mem_cons,List.not_mem_nil,or_false] at hb
  rcases hb with rfl | rfl
  ·exact⟨_,e1,rfl⟩
  ·exact⟨_,e2,rfl⟩
 | lst xs =>
  obtain⟨a,vs,rfl,rfl,e,r⟩:=h
  intro b hb
  rw [List.mem_singleton.mp hb]
  exact⟨_,e,rfl⟩
 | dct ks =>
  obtain⟨a,vs,rfl,rfl,e,r⟩:=h
  intro b hb
  rw [List.mem_singleton.mp hb]
  exact⟨_,e,rfl⟩
 | nst xss ds =>
  obtain⟨a,as,us,rfl,rfl,e,n,r⟩:=h
  intro b hb
  rcases List.mem_cons.mp hb with rfl | hb
  ·exact⟨_,e,rfl⟩
  ·obtain⟨vs,e2⟩:=n.live b hb
   exact⟨_,e2,rfl⟩
theorem RepO.keep{o:O}{v:V}{f:List Addr}(p:Pers H H')(k:∀ a∈f,∀ u,H a=some u->H' a=some u)(h:RepO K H o v f):RepO K H' o v f:=by
 induction o with
 | anc a o ih=>exact⟨h.1,ih h.2⟩
 | mix ms =>
  obtain⟨a,us,bs,rfl,rfl,e,m⟩:=h
  exact⟨a,us,bs,rfl,rfl,k a List.mem_cons_self _ e,m.keep p fun b hb=>k b (List.mem_cons_of_mem _ hb)⟩
 | ins c fs =>
  obtain⟨a,dx,C,fv,rfl,rfl,n,e1,e2,e3,r⟩:=h
  exact⟨a,dx,C,fv,rfl,rfl,n,k a (by simp) _ e1,k dx (by simp) _ e2,e3,r.mono p⟩
 | lst xs =>
  obtain⟨a,vs,rfl,rfl,e,r⟩:=h
  exact⟨a,vs,rfl,rfl,k a (by simp) _ e,r.mono p⟩
 | dct ks =>
  obtain⟨a,vs,rfl,rfl,e,r⟩:=h
  exact⟨a,vs,rfl,rfl,k a (by simp) _ e,r.1,r.2.mono p⟩
 | nst xss ds =>
  obtain⟨a,as,us,rfl,rfl,e,n,r⟩:=h
  exact⟨a,as,us,rfl,rfl,k a List.mem_cons_self _ e,n.keep p fun b hb=>k b (List.mem_cons_of_mem _ hb),r.mono p⟩
theorem Slots.live{fp:List Addr}(h:Slots K H₀ H σD σ fp):∀ a∈fp,∃ u,H a=some u/\u.per=false:=by
 induction h with
 | nil=>intro a ha;cases ha
 | none _ ih=>exact ih
 | val _ _ ih=>exact ih
 | vw _ _ ih=>exact ih
 | vd _ _ ih=>exact ih
 | exc _ _ ih=>exact ih
 | scr _ _ ih=>exact ih
 | pen _ _ ih=>exact ih
 | tmp _ _ ih=>exact ih
 | own r _ ih =>
  intro a ha
  rcases List.mem_append.mp ha with z | z
  ·exact r.live a z
  ·exact ih a z
theorem Slots.keep{fp:List Addr}(p:Pers H H')(kn:∀{d:D} {v:V},RepN K H d v->RepN K H' d v)(k:∀ a∈fp,∀ u,H a=some u->H' a=some u)(h:Slots K H₀ H σD σ fp):Slots K H₀ H' σD σ fp:=by
 induction h with
 | nil=>exact .nil
 | none _ ih=>exact .none (ih k)
 | val r _ ih=>exact .val (r.mono p) (ih k)
 | vw r _ ih=>exact .vw r (ih k)
 | vd r _ ih=>exact .vd r (ih k)
 | exc r _ ih=>exact .exc r (ih k)
 | scr r _ ih=>exact .scr r (ih k)
 | pen r _ ih=>exact .pen (p _ _ r rfl) (ih k)
 | tmp r _ ih=>exact .tmp (kn r) (ih k)
 | own r _ ih=>exact .own (r.keep p fun a ha=>k a (List.mem_append_left _ ha)) (ih fun a ha=>k a (List.mem_append_right _ ha))
theorem Slots.keepC{fp:List Addr}(p:Pers H H')(k:∀ a∈fp,∀ u,H a=some u->H' a=some u)(h:Slots K H₀ H σD σ fp):Slots K H₀ H' (clr σD) σ fp:=by
 induction h with
 | nil=>exact .nil
 | none _ ih=>exact .none (ih k)
 | val r _ ih=>exact .val (r.mono p) (ih k)
 | vw r _ ih=>exact .vw r (ih k)
 | vd r _ ih=>exact .vd r (ih k)
 | exc r _ ih=>exact .exc r (ih k)
 | scr r _ ih=>exact .scr r (ih k)
 | pen r _ ih=>exact .pen (p _ _ r rfl) (ih k)
 | tmp r _ ih=>exact .none (ih k)
 | own r _ ih=>exact .own (r.keep p fun a ha=>k a (List.mem_append_left _ ha)) (ih fun a ha=>k a (List.mem_append_right _ ha))
theorem Slots.length{fp:List Addr}(h:Slots K H₀ H σD σ fp):σD.length=σ.length:=by
 induction h with
 | nil=>rfl
 | none _ ih=>simp [ih]
 | val _ _ ih=>simp [ih]
 | vw _ _ ih=>simp [ih]
 | vd _ _ ih=>simp [ih]
 | exc _ _ ih=>simp [ih]
 | scr _ _ ih=>simp [ih]
 | pen _ _ ih=>simp [ih]
 | tmp _ _ ih=>simp [ih]
 | own _ _ ih=>simp [ih]
theorem DOk.after(s:Same H H')(h:DOk K H₀ H σD σ):DOk K H₀ H' σD σ:=by
 obtain⟨s0,fp,sl,nd,fr⟩:=h
 exact⟨s0.trans s,fp,sl.keep s.pers (fun h=>h.same s) fun a _ u e=>s a u e,nd,fr⟩
theorem DOk.len(h:DOk K H₀ H σD σ):σD.length=σ.length:=let ⟨_,_,sl,_⟩:=h;sl.length
theorem Slots.get{fp:List Addr}(h:Slots K H₀ H σD σ fp):∀{i:Nat} {w:W},σD[i]?=some (some w)->∃ v,σ[i]?=some (some v)/\match w with
  | .val d=>Rep K H d v
  | .vw xs=>RepL K H₀ xs v
  | .vd xs=>RepD K H₀ xs v
  | .exc xs=>RepX K H₀ xs v
  | .scr ns=>∃ a,v=.ref a/\SqL K H₀ a (ns.map V.int)
  | .pen=>∃ a,v=.ref a/\H a=some (PenO a)
  | .tmp d=>RepN K H d v
  | .own o=>∃ f,RepO K H o v f/\∀ a∈f,a∈fp:=by
 induction h with
 | nil=>intro i w e;simp at e
 | none _ ih =>
  intro i w e
  cases i with
  | zero=>simp at e
  | succ i=>exact ih (by simpa using e)
 | val r _ ih =>
  intro i w e
  cases i with
  | zero=>simp at e;subst e;exact⟨_,rfl,r⟩
  | succ i=>exact ih (by simpa using e)
 | vw r _ ih =>
  intro i w e
  cases i with
  | zero=>simp at e;subst e;exact⟨_,rfl,r⟩
  | succ i=>exact ih (by simpa using e)
 | vd r _ ih =>
  intro i w e
  cases i with
  | zero=>simp at e;subst e;exact⟨_,rfl,r⟩
  | succ i=>exact ih (by simpa using e)
 | exc r _ ih =>
  intro i w e
  cases i with
  | zero=>simp at e;subst e;exact⟨_,rfl,r⟩
  | succ i=>exact ih (by simpa using e)
 | scr r _ ih =>
  intro i w e
  cases i with
  | zero=>simp at e;subst e;exact⟨_,rfl,_,rfl,r⟩
  | succ i=>exact ih (by simpa using e)
 | pen r _ ih =>
  intro i w e
  cases i with
  | zero=>simp at e;subst e;exact⟨_,rfl,_,rfl,r⟩
  | succ i=>exact ih (by simpa using e)
 | tmp r _ ih =>
  intro i w e
  cases i with
  | zero=>simp at e;subst e;exact⟨_,rfl,r⟩
  | succ i=>exact ih (by simpa using e)
 | own r _ ih =>
  intro i w e
  cases i with
  | zero=>simp at e;subst e;exact⟨_,rfl,_,r,fun a ha=>List.mem_append_left _ ha⟩
  | succ i =>
   obtain⟨v,e1,e2⟩:=ih (by simpa using e)
   refine⟨v,e1,?_⟩
   cases w with
   | val d=>exact e2
   | vw xs=>exact e2
   | vd xs=>exact e2
   | exc xs=>exact e2
   | scr ns=>exact e2
   | pen=>exact e2
   | tmp d=>exact e2
   | own o=>obtain⟨f,r,m⟩:=e2;exact⟨f,r,fun a ha=>List.mem_append_right _ (m a ha)⟩
theorem DOk.val(h:DOk K H₀ H σD σ){i:Nat}{d:D}(e:σD[i]?=some (some (.val d))):∃ v,σ[i]?=some (some v)/\Rep K H d v:=let ⟨_,_,sl,_⟩:=h;sl.get e
theorem DOk.vw(h:DOk K H₀ H σD σ){i:Nat}{xs:List D}(e:σD[i]?=some (some (.vw xs))):∃ v,σ[i]?=some (some v)/\RepL K H xs v:=by
 obtain⟨s,_,sl,_⟩:=h
 obtain⟨v,e1,e2⟩:=sl.get e
 exact⟨v,e1,RepL.same s e2⟩
theorem DOk.vd(h:DOk K H₀ H σD σ){i:Nat}{xs:List (Key×D)}(e:σD[i]?=some (some (.vd xs))):∃ v,σ[i]?=some (some v)/\RepD K H xs v:=by
 obtain⟨s,_,sl,_⟩:=h
 obtain⟨v,e1,e2⟩:=sl.get e
 exact⟨v,e1,RepD.same s e2⟩
theorem DOk.exc(h:DOk K H₀ H σD σ){i:Nat}{xs:Str×List (Str×Int)}(e:σD[i]?=some (some (.exc xs))):∃ v,σ[i]?=some (some v)/\RepX K H xs v:=by
 obtain⟨s,_,sl,_⟩:=h
 obtain⟨v,e1,e2⟩:=sl.get e
 exact⟨v,e1,RepX.same s e2⟩
theorem DOk.scr(h:DOk K H₀ H σD σ){i:Nat}{ns:List Int}(e:σD[i]?=some (some (.scr ns))):∃ a,σ[i]?=some (some (.ref a))/\SqL K H a (ns.map V.int):=by
 obtain⟨s,_,sl,_⟩:=h
 obtain⟨v,e1,a,rfl,e2⟩:=sl.get e
 exact⟨a,e1,s.seq e2⟩
theorem DOk.pen(h:DOk K H₀ H σD σ){i:Nat}(e:σD[i]?=some (some .pen)):∃ a,σ[i]?=some (some (.ref a))/\H a=some (PenO a):=by
 obtain⟨s,_,sl,_⟩:=h
 obtain⟨v,e1,a,rfl,e2⟩:=sl.get e
 exact⟨a,e1,e2⟩
theorem DOk.tmp(h:DOk K H₀ H σD σ){i:Nat}{d:D}(e:σD[i]?=some (some (.tmp d))):∃ v,σ[i]?=some (some v)/\RepN K H d v:=let ⟨_,_,sl,_⟩:=h;sl.get e
theorem DOk.ownL(h:DOk K H₀ H σD σ){i:Nat}{xs:List D}(e:σD[i]?=some (some (.own (.lst xs)))):∃ a vs,σ[i]?=some (some (.ref a))/\H a=some (.lst vs)/\Reps K H xs vs/\H₀ a=none:=by
 obtain⟨s,fp,sl,nd,fr⟩:=h
 obtain⟨v,e1,f,⟨a,vs,rfl,rfl,e2,r⟩,m⟩:=sl.get e
 exact⟨a,vs,e1,e2,r,fr a (m a (by simp))⟩
theorem DOk.ownD(h:DOk K H₀ H σD σ){i:Nat}{xs:List (Key×D)}(e:σD[i]?=some (some (.own (.dct xs)))):∃ a vs,σ[i]?=some (some (.ref a))/\H a=some (.dK vs)/\RepKV K H xs vs/\H₀ a=none:=by
 obtain⟨s,fp,sl,nd,fr⟩:=h
 obtain⟨v,e1,f,⟨a,vs,rfl,rfl,e2,r⟩,m⟩:=sl.get e
 exact⟨a,vs,e1,e2,r,fr a (m a (by simp))⟩
theorem Slots.set{fp f:List Addr}(h:Slots K H₀ H σD σ fp){w:Option W}{v:Option V}(hw:∀{ws:DSt} {vs:St} {g:List Addr},Slots K H₀ H ws vs g->Slots K H₀ H (w::ws) (v::vs) (f++g)):
  ∀(i:Nat),i<σD.length->∃ g g',Slots K H₀ H (σD.set i w) (σ.set i v) (g++(f++g'))/\(g++g').Sublist fp:=by
 induction h with
 | nil=>intro i hi;exact absurd hi (Nat.not_lt_zero _)
 | none t ih =>
  intro i hi
  cases i with
  | zero=>exact⟨[],_,hw t,List.Sublist.refl _⟩
  | succ i=>obtain⟨g,g',e,s⟩:=ih i (Nat.lt_of_succ_lt_succ hi);exact⟨g,g',.none e,s⟩
 | val r t ih =>
  intro i hi
  cases i with
  | zero=>exact⟨[],_,hw t,List.Sublist.refl _⟩
  | succ i=>obtain⟨g,g',e,s⟩:=ih i (Nat.lt_of_succ_lt_succ hi);exact⟨g,g',.val r e,s⟩
 | vw r t ih =>
  intro i hi
  cases i with
  | zero=>exact⟨[],_,hw t,List.Sublist.refl _⟩
  | succ i=>obtain⟨g,g',e,s⟩:=ih i (Nat.lt_of_succ_lt_succ hi);exact⟨g,g',.vw r e,s⟩
 | vd r t ih =>
  intro i hi
  cases i with
  | zero=>exact⟨[],_,hw t,List.Sublist.refl _⟩
  | succ i=>obtain⟨g,g',e,s⟩:=ih i (Nat.lt_of_succ_lt_succ hi);exact⟨g,g',.vd r e,s⟩
 | exc r t ih =>
  intro i hi
  cases i with
  | zero=>exact⟨[],_,hw t,List.Sublist.refl _⟩
  | succ i=>obtain⟨g,g',e,s⟩:=ih i (Nat.lt_of_succ_lt_succ hi);exact⟨g,g',.exc r e,s⟩
 | scr r t ih =>
  intro i hi
  cases i with
  | zero=>exact⟨[],_,hw t,List.Sublist.refl _⟩
  | succ i=>obtain⟨g,g',e,s⟩:=ih i (Nat.lt_of_succ_lt_succ hi);exact⟨g,g',.scr r e,s⟩
 | pen r t ih =>
  intro i hi
  cases i with
  | zero=>exact⟨[],_,hw t,List.Sublist.refl _⟩
  | succ i=>obtain⟨g,g',e,s⟩:=ih i (Nat.lt_of_succ_lt_succ hi);exact⟨g,g',.pen r e,s⟩
 | tmp r t ih =>
  intro i hi
  cases i with
  | zero=>exact⟨[],_,hw t,List.Sublist.refl _⟩
  | succ i=>obtain⟨g,g',e,s⟩:=ih i (Nat.lt_of_succ_lt_succ hi);exact⟨g,g',.tmp r e,s⟩
 | @own o v' f' ws vs fp' r t ih =>
  intro i hi
  cases i with
  | zero=>exact⟨[],_,hw t,List.sublist_append_right _ _⟩
  | succ i =>
   obtain⟨g,g',e,s⟩:=ih i (Nat.lt_of_succ_lt_succ hi)
   refine⟨f'++g,g',?_,?_⟩
   ·rw [List.append_assoc];exact .own r e
   ·rw [List.append_assoc];exact(List.Sublist.refl _).append s
theorem DOk.put(h:DOk K H₀ H σD σ){w:Option W}{v:Option V}(hw:∀{ws:DSt} {vs:St} {g:List Addr},Slots K H₀ H ws vs g->Slots K H₀ H (w::ws) (v::vs) g)(i:Nat):DOk K H₀ H (σD.set i w) (σ.set i v):=by
 obtain⟨s,fp,sl,nd,fr⟩:=h
 by_cases hi:i<σD.length
 ·obtain⟨g,g',e,sb⟩:=sl.set (f:=[]) hw i hi
  rw [List.nil_append] at e
  exact⟨s,_,e,sb.nodup nd,fun a ha=>fr a (sb.subset ha)⟩
 ·rw [List.set_eq_of_length_le (by omega),List.set_eq_of_length_le (by rw [<-sl.length];omega)]
  exact⟨s,fp,sl,nd,fr⟩
theorem DOk.setV(h:DOk K H₀ H σD σ){d:D}{v:V}(r:Rep K H d v)(i:Nat):DOk K H₀ H (σD.set i (some (.val d))) (σ.set i (some v)):=h.put (.val r) i
theorem DOk.setN(h:DOk K H₀ H σD σ)(v:Option V)(i:Nat):DOk K H₀ H (σD.set i none) (σ.set i v):=h.put (.none) i
theorem DOk.setO{H1:Hp}(h:DOk K H₀ H1 σD σ)(s1:Same H1 H){a:Addr}{vs:List V}{xs:List D}(n:H1 a=none)(e:H a=some (.lst vs))(r:Reps K H xs vs)(i:Nat):DOk K H₀ H (σD.set i (some (.own (.lst xs)))) (σ.set i (some (.ref a))):=by
 obtain⟨s,fp,sl,nd,fr⟩:=id h
 have lv:∀ b∈fp,b≠a:=fun b hb z=>by
  obtain⟨u,e1,_⟩:=sl.live b hb
  rw [z,n] at e1;cases e1
 obtain⟨s',fp',sl',_⟩:=id (h.after s1)
 have sl2:Slots K H₀ H σD σ fp:=sl.keep s1.pers (fun h=>h.same s1) fun b _ u e=>s1 b u e
 by_cases hi:i<σD.length
 ·obtain⟨g,g',e',sb⟩:=sl2.set (f:=[a]) (w:=some (.own (.lst xs))) (v:=some (.ref a)) (fun t=>.own ⟨a,vs,rfl,rfl,e,r⟩ t) i hi
  refine⟨s',_,e',?_,fun b hb=>?_⟩
  ·have nd2:=sb.nodup nd
   rw [List.nodup_append] at nd2 ⊢
   refine⟨nd2.1,?_,fun x hx y hy=>?_⟩
   ·rw [List.singleton_append,List.nodup_cons]
    exact⟨fun z=>lv a (sb.subset (List.mem_append_right _ z)) rfl,nd2.2.1⟩
   ·rcases List.mem_append.mp hy with z | z
    ·rw [List.mem_singleton.mp z];exact lv x (sb.subset (List.mem_append_left _ hx))
    ·exact nd2.2.2 x hx y z
  ·rcases List.mem_append.mp hb with z | z
   ·exact fr b (sb.subset (List.mem_append_left _ z))
   ·rcases List.mem_append.mp z with z | z
    ·rw [List.mem_singleton.mp z]
     cases q:H₀ a with
     | none=>rfl
     | some u=>rw [s a u q] at n;cases n
    ·exact fr b (sb.subset (List.mem_append_right _ z))
 ·rw [List.set_eq_of_length_le (by omega),List.set_eq_of_length_le (by rw [<-sl2.length];omega)]
  exact⟨s',fp,sl2,nd,fr⟩
theorem Slots.write{fp:List Addr}(h:Slots K H₀ H σD σ fp)(nd:fp.Nodup){i:Nat}{xs ys:List D}{a:Addr}{vs:List V}(e:σD[i]?=some (some (.own (.lst xs))))(ev:σ[i]?=some (some (.ref a)))(ea:∃ zs,H a=some (.lst zs))(r:Reps K H ys vs):
  Slots K H₀ (upd H a (.lst vs)) (clr (σD.set i (some (.own (.lst ys))))) σ fp:=by
 have ps:Pers H (upd H a (.lst vs)):=fun b o hb hp=>by
  obtain⟨zs,ea⟩:=ea
  rw [upd_ne (fun z=>by rw [z,ea] at hb;cases hb;cases hp)]
  exact hb
 induction h generalizing i with
 | nil=>simp at e
 | none t ih =>
  cases i with
  | zero=>simp at e
  | succ i=>exact .none (ih nd (by simpa using e) (by simpa using ev))
 | val q t ih =>
  cases i with
  | zero=>simp at e
  | succ i=>exact .val (q.mono ps) (ih nd (by simpa using e) (by simpa using ev))
 | vw q t ih =>
  cases i with
  | zero=>simp at e
  | succ i=>exact .vw q (ih nd (by simpa using e) (by simpa using ev))
 | vd q t ih =>
  cases i with
  | zero=>simp at e
  | succ i=>exact .vd q (ih nd (by simpa using e) (by simpa using ev))
 | exc q t ih =>
  cases i with
  | zero=>simp at e
  | succ i=>exact .exc q (ih nd (by simpa using e) (by simpa using ev))
 | scr q t ih =>
  cases i with
  | zero=>simp at e
  | succ i=>exact .scr q (ih nd (by simpa using e) (by simpa using ev))
 | pen q t ih =>
  cases i with
  | zero=>simp at e
  | succ i=>exact .pen (ps _ _ q rfl) (ih nd (by simpa using e) (by simpa using ev))
 | tmp q t ih =>
  cases i with
  | zero=>simp at e
  | succ i=>exact .none (ih nd (by simpa using e) (by simpa using ev))
 | @own o v f ws wvs fp' q t ih =>
  rw [List.nodup_append] at nd
  cases i with
  | zero =>
   simp at e ev
   subst e ev
   obtain⟨b,zs,eb,rfl,hb,rb⟩:=q
   cases eb
   refine .own ⟨a,vs,rfl,rfl,upd_same,r.mono ps⟩ (t.keepC ps fun c hc u hu=>?_)
   rw [upd_ne (fun z=>nd.2.2 a (by simp) c hc z.symm)]
   exact hu
  | succ i =>
   have e':ws[i]?=some (some (.own (.lst xs))):=by simpa using e
   have ev':wvs[i]?=some (some (.ref a)):=by simpa using ev
   refine .own (q.keep ps fun c hc u hu=>?_) (ih nd.2.1 e' ev')
   obtain⟨v',e1,f',⟨b,zs,rfl,rfl,hb,rb⟩,m⟩:=t.get e'
   rw [ev'] at e1
   cases e1
   rw [upd_ne (fun z=>nd.2.2 c hc a (m a (by simp)) z)]
   exact hu
theorem upd_pers{a:Addr}{o o':HO}(e:H a=some o)(p:o.per=false):Pers H (upd H a o'):=fun b u hb hp=>by
 rw [upd_ne (fun z=>by rw [z,e] at hb;cases hb;rw [p] at hp;cases hp)]
 exact hb
theorem DOk.write(h:DOk K H₀ H σD σ){i:Nat}{xs ys:List D}{a:Addr}{vs zs:List V}(e:σD[i]?=some (some (.own (.lst xs))))(ev:σ[i]?=some (some (.ref a)))(ea:H a=some (.lst zs))(r:Reps K H ys vs):DOk K H₀ (upd H a (.lst vs)) (clr (σD.set i (some (.own (.lst ys))))) σ:=by
 obtain⟨a',_,e1,_,_,n⟩:=h.ownL e
 rw [ev] at e1
 cases e1
 obtain⟨s,fp,sl,nd,fr⟩:=h
 refine⟨fun b o hb=>?_,fp,sl.write nd e ev ⟨_,ea⟩ r,nd,fr⟩
 rw [upd_ne (fun z=>by rw [z,n] at hb;cases hb)]
 exact s b o hb
end
section
variable {X:Cx}{pins:List (Addr×Obj)}{σ:St}{H:Hp}{s:Shared}{a:Addr}
theorem Inv.frz(I:Inv X pins σ H s){vs:List V}(h:H a=some (.lst vs)):∃ o,Inv X pins σ (upd H a (.frz o (.lst vs))) s:=by
 obtain⟨z,its,n,r,e⟩:=I.hok a _ h
 exact⟨_,I.write (h':=s.heap) (t':=s.toks) (x:=a) (e:=a) (by rw [h];exact trivial) (.inl rfl) (fun b u _ q=>q) ⟨_,e⟩ ⟨e,z,its,n,r,e⟩⟩
theorem penO_ok{P:Program}{w:World}{h:Heap}{x y z:Int}{tx ty tz:Tok}{n:Nat}(e:h.get? a=some { cls:=.type "list",data:=.seq #[.int x tx,.int y ty,.int z tz] n }):ObjOk P w H h a (PenO a) :=
 ⟨⟨x,y,z,tx,ty,tz,n,e⟩,⟨_,e⟩,fun h1 h2 ⟨x,y,z,tx,ty,tz,n,e⟩ k=>⟨x,y,z,tx,ty,tz,n,k _ e⟩⟩
theorem Inv.toPen(I:Inv X pins σ H s){x y z:Int}(h:H a=some (.lst [.int x,.int y,.int z])):Inv X pins σ (upd H a (PenO a)) s:=by
 obtain⟨zz,its,n,r,e⟩:=I.hok a _ h
 cases r with
 | cons r1 r =>
  cases r with
  | cons r2 r =>
   cases r with
   | cons r3 r =>
    cases r
    obtain⟨t1,rfl⟩:=r1
    obtain⟨t2,rfl⟩:=r2
    obtain⟨t3,rfl⟩:=r3
    exact I.write (h':=s.heap) (t':=s.toks) (x:=a) (e:=a) (by rw [h];exact trivial) (.inl rfl) (fun b u _ q=>q) ⟨_,e⟩ (penO_ok e)
end
abbrev DTE:=DSt->(D->Prop)->Prop
abbrev DTF:=DSt->(List D->Prop)->Prop
abbrev DTT:=DSt->(Bool->Prop)->Prop
abbrev DTP:=DSt->(List W->Prop)->Prop
def DEnd(X:Cx)(pins:List (Addr×Obj))(σ:St)(H:Hp)(Q:D->Prop)(u:Value)(s':Shared):Prop:=∃ v H' d,Inv X pins σ H' s'/\RelV v u/\Same H H'/\Rep X.K H' d v/\Q d
def DEndT(X:Cx)(pins:List (Addr×Obj))(σ:St)(H:Hp)(Q:D->Prop)(u:Value)(s':Shared):Prop:=∃ v H' d,Inv X pins σ H' s'/\RelV v u/\Same H H'/\RepT X.K H' d v/\Q d
def DEndF(X:Cx)(pins:List (Addr×Obj))(σ:St)(H:Hp)(Q:List D->Prop)(u:Value)(s':Shared):Prop:=∃ a H' vs xs,u=.ref a/\Inv X pins σ H' s'/\Same H H'/\H a=none/\H' a=some (.lst vs)/\Reps X.K H' xs vs/\Q xs
structure DE(X:Cx)(e:Expr)(t:DTE):Prop where
 run:∀(pins:List (Addr×Obj)) (s:Shared) (σ:St) (H H₀:Hp) (σD:DSt) (Q:D->Prop),Inv X pins σ H s->DOk X.K H₀ H σD σ->t σD Q->wpAny (model X.prog X.w) X.A (eval e X.env) (DEnd X pins σ H Q) X.xe s
structure DV(X:Cx)(e:Expr)(t:DTE):Prop where
 run:∀(pins:List (Addr×Obj)) (s:Shared) (σ:St) (H H₀:Hp) (σD:DSt) (Q:D->Prop),Inv X pins σ H s->DOk X.K H₀ H σD σ->t σD Q->wpAny (model X.prog X.w) X.A (eval e X.env) (DEndT X pins σ H Q) X.xe s
structure DF(X:Cx)(e:Expr)(t:DTF):Prop where
 run:∀(pins:List (Addr×Obj)) (s:Shared) (σ:St) (H H₀:Hp) (σD:DSt) (Q:List D->Prop),Inv X pins σ H s->DOk X.K H₀ H σD σ->t σD Q->wpAny (model X.prog X.w) X.A (eval e X.env) (DEndF X pins σ H Q) X.xe s
def DEndB(X:Cx)(pins:List (Addr×Obj))(σ:St)(H:Hp)(Q:Bool->Prop)(b:Bool)(s':Shared):Prop:=∃ H',Inv X pins σ H' s'/\Same H H'/\Q b
structure DT(X:Cx)(e:Expr)(t:DTT):Prop where
 run:∀(pins:List (Addr×Obj)) (s:Shared) (σ:St) (H H₀:Hp) (σD:DSt) (Q:Bool->Prop),Inv X pins σ H s->DOk X.K H₀ H σD σ->t σD Q->wpAny (model X.prog X.w) X.A (isTrue e X.env (eval e X.env)) (DEndB X pins σ H Q) X.xe s
structure DWt(X:Cx)(e:Expr)(t:DTT):Prop where
 run:∀(whole:Sem Value) (pins:List (Addr×Obj)) (s:Shared) (σ:St) (H H₀:Hp) (σD:DSt) (Q:Bool->Prop),Inv X pins σ H s->DOk X.K H₀ H σD σ->t σD Q->wpAny (model X.prog X.w) X.A (isTrue e X.env whole) (DEndB X pins σ H Q) X.xe s
structure DA(X:Cx)(es:List Expr)(t:DTF):Prop where
 run:∀(pos:Pos) (pins:List (Addr×Obj)) (s:Shared) (σ:St) (H H₀:Hp) (σD:DSt) (Q:List D->Prop),Inv X pins σ H s->DOk X.K H₀ H σD σ->t σD Q ->
  wpAny (model X.prog X.w) X.A (spliced (backTo pos (starEach es X.env))) (fun us s'=>∃ vs H' ds,Inv X pins σ H' s'/\Vals vs us/\Same H H'/\Reps X.K H' ds vs/\Q ds) X.xe s
inductive RepTs(K:PySem.W.Frag)(H:Hp):List D->List V->Prop
 | nil:RepTs K H [] []
 | cons {d:D} {v:V} {ds:List D} {vs:List V} (r:RepT K H d v) (t:RepTs K H ds vs):RepTs K H (d::ds) (v::vs)
structure DAv(X:Cx)(es:List Expr)(t:DTF):Prop where
 run:∀(pos:Pos) (pins:List (Addr×Obj)) (s:Shared) (σ:St) (H H₀:Hp) (σD:DSt) (Q:List D->Prop),Inv X pins σ H s->DOk X.K H₀ H σD σ->t σD Q ->
  wpAny (model X.prog X.w) X.A (spliced (backTo pos (starEach es X.env))) (fun us s'=>∃ vs H' ds,Inv X pins σ H' s'/\Vals vs us/\Same H H'/\RepTs X.K H' ds vs/\Q ds) X.xe s
section
variable (K:PySem.W.Frag)
def RepW(H:Hp):W->V->Prop
 | .val d,v=>Rep K H d v
 | .vw xs,v=>RepL K H xs v
 | .vd xs,v=>RepD K H xs v
 | .exc xs,v=>RepX K H xs v
 | .scr ns,v=>∃ a,v=.ref a/\SqL K H a (ns.map V.int)
 | .pen,v=>∃ a,v=.ref a/\H a=some (PenO a)
 | .tmp _,_=>False
 | .own _,_=>False
inductive RepWs(H:Hp):List W->List V->Prop
 | nil:RepWs H [] []
 | cons {w:W} {v:V} {ws:List W} {vs:List V} (r:RepW K H w v) (t:RepWs H ws vs):RepWs H (w::ws) (v::vs)
end
theorem RepWs.length{K:PySem.W.Frag}{H:Hp}{ws:List W}{vs:List V}(h:RepWs K H ws vs):ws.length=vs.length:=by
 induction h with
 | nil=>rfl
 | cons _ _ ih=>simp [ih]
structure DPs(X:Cx)(es:List Expr)(t:DTP):Prop where
 run:∀(pos:Pos) (pins:List (Addr×Obj)) (s:Shared) (σ:St) (H H₀:Hp) (σD:DSt) (Q:List W->Prop),Inv X pins σ H s->DOk X.K H₀ H σD σ->t σD Q ->
  wpAny (model X.prog X.w) X.A (spliced (backTo pos (starEach es X.env))) (fun us s'=>∃ vs H' ws,Inv X pins σ H' s'/\Vals vs us/\Same H H'/\RepWs X.K H' ws vs/\Q ws) X.xe s
section
variable (K:PySem.W.Frag)
def cnE(t:DTE):TE:=fun σ H Q=>∃ H₀ σD QD,DOk K H₀ H σD σ/\t σD QD/\∀ v H' d,Same H H'->Rep K H' d v->QD d->Q v H'
def cnV(t:DTE):TE:=fun σ H Q=>∃ H₀ σD QD,DOk K H₀ H σD σ/\t σD QD/\∀ v H' d,Same H H'->RepT K H' d v->QD d->Q v H'
def cnF(t:DTF):TE:=fun σ H Q=>∃ H₀ σD QD,DOk K H₀ H σD σ/\t σD QD/\∀ a H' vs xs,Same H H'->H a=none->H' a=some (.lst vs)->Reps K H' xs vs->QD xs->Q (.ref a) H'
def cnT(t:DTT):TT:=fun σ H Q=>∃ H₀ σD QD,DOk K H₀ H σD σ/\t σD QD/\∀ b H',Same H H'->QD b->Q b H'
def cnA(t:DTF):TA:=fun σ H Q=>∃ H₀ σD QD,DOk K H₀ H σD σ/\t σD QD/\∀ vs H' ds,Same H H'->Reps K H' ds vs->QD ds->Q vs H'
def cnAv(t:DTF):TA:=fun σ H Q=>∃ H₀ σD QD,DOk K H₀ H σD σ/\t σD QD/\∀ vs H' ds,Same H H'->RepTs K H' ds vs->QD ds->Q vs H'
def cnP(t:DTP):TA:=fun σ H Q=>∃ H₀ σD QD,DOk K H₀ H σD σ/\t σD QD/\∀ vs H' ws,Same H H'->RepWs K H' ws vs->QD ws->Q vs H'
end
section
variable {X:Cx}{e:Expr}{es:List Expr}
theorem DE.pe{t:DTE}(h:DE X e t):PE X e (cnE X.K t):=fun pins s σ H Q I ⟨H₀,σD,QD,ok,q,k⟩=>thn (h.run pins s σ H H₀ σD QD I ok q) fun u s' ⟨v,H',d,I',r,sm,rp,qd⟩=>⟨v,H',I',r,k v H' d sm rp qd⟩
theorem DV.pe{t:DTE}(h:DV X e t):PE X e (cnV X.K t):=fun pins s σ H Q I ⟨H₀,σD,QD,ok,q,k⟩=>thn (h.run pins s σ H H₀ σD QD I ok q) fun u s' ⟨v,H',d,I',r,sm,rp,qd⟩=>⟨v,H',I',r,k v H' d sm rp qd⟩
theorem DF.pe{t:DTF}(h:DF X e t):PE X e (cnF X.K t):=fun pins s σ H Q I ⟨H₀,σD,QD,ok,q,k⟩=>thn (h.run pins s σ H H₀ σD QD I ok q) fun u s' ⟨a,H',vs,xs,eu,I',sm,n,e,rp,qd⟩=>⟨.ref a,H',I',eu,k a H' vs xs sm n e rp qd⟩
theorem DT.pt{t:DTT}(h:DT X e t):PT X e (cnT X.K t):=fun pins s σ H Q I ⟨H₀,σD,QD,ok,q,k⟩=>thn (h.run pins s σ H H₀ σD QD I ok q) fun u s' ⟨H',I',sm,qd⟩=>⟨H',I',k u H' sm qd⟩
theorem DA.pa{t:DTF}(h:DA X es t):PA X es (cnA X.K t):=fun pos pins s σ H Q I ⟨H₀,σD,QD,ok,q,k⟩=>thn (h.run pos pins s σ H H₀ σD QD I ok q) fun us s' ⟨vs,H',ds,I',r,sm,rp,qd⟩=>⟨vs,H',I',r,k vs H' ds sm rp qd⟩
theorem DAv.pa{t:DTF}(h:DAv X es t):PA X es (cnAv X.K t):=fun pos pins s σ H Q I ⟨H₀,σD,QD,ok,q,k⟩=>thn (h.run pos pins s σ H H₀ σD QD I ok q) fun us s' ⟨vs,H',ds,I',r,sm,rp,qd⟩=>⟨vs,H',I',r,k vs H' ds sm rp qd⟩
theorem DPs.pa{t:DTP}(h:DPs X es t):PA X es (cnP X.K t):=fun pos pins s σ H Q I ⟨H₀,σD,QD,ok,q,k⟩=>thn (h.run pos pins s σ H H₀ σD QD I ok q) fun us s' ⟨vs,H',ws,I',r,sm,rp,qd⟩=>⟨vs,H',I',r,k vs H' ws sm rp qd⟩
theorem DE.of{t:DTE}{t':TE}(h:PE X e t')(k:∀ σ H H₀ σD QD,DOk X.K H₀ H σD σ->t σD QD->t' σ H (fun v H'=>∃ d,Same H H'/\Rep X.K H' d v/\QD d)):DE X e t :=
 ⟨fun pins s σ H H₀ σD Q I ok q=>thn (h pins s σ H _ I (k σ H H₀ σD Q ok q)) fun u s' ⟨v,H',I',r,d,sm,rp,qd⟩=>⟨v,H',d,I',r,sm,rp,qd⟩⟩
theorem DV.of{t:DTE}{t':TE}(h:PE X e t')(k:∀ σ H H₀ σD QD,DOk X.K H₀ H σD σ->t σD QD->t' σ H (fun v H'=>∃ d,Same H H'/\RepT X.K H' d v/\QD d)):DV X e t :=
 ⟨fun pins s σ H H₀ σD Q I ok q=>thn (h pins s σ H _ I (k σ H H₀ σD Q ok q)) fun u s' ⟨v,H',I',r,d,sm,rp,qd⟩=>⟨v,H',d,I',r,sm,rp,qd⟩⟩
theorem DF.of{t:DTF}{t':TE}(h:PE X e t')(k:∀ σ H H₀ σD QD,DOk X.K H₀ H σD σ->t σD QD->t' σ H (fun v H'=>∃ a vs xs,v=.ref a/\Same H H'/\H a=none/\H' a=some (.lst vs)/\Reps X.K H' xs vs/\QD xs)):DF X e t :=
 ⟨fun pins s σ H H₀ σD Q I ok q=>thn (h pins s σ H _ I (k σ H H₀ σD Q ok q)) fun u s' ⟨v,H',I',r,a,vs,xs,ev,sm,n,e,rp,qd⟩=>⟨a,H',vs,xs,by subst ev;exact r,I',sm,n,e,rp,qd⟩⟩
theorem DT.of{t:DTT}{t':TT}(h:PT X e t')(k:∀ σ H H₀ σD QD,DOk X.K H₀ H σD σ->t σD QD->t' σ H (fun b H'=>Same H H'/\QD b)):DT X e t :=
 ⟨fun pins s σ H H₀ σD Q I ok q=>thn (h pins s σ H _ I (k σ H H₀ σD Q ok q)) fun u s' ⟨H',I',sm,qd⟩=>⟨H',I',sm,qd⟩⟩
theorem DE.dv{t:DTE}(h:DE X e t):DV X e t:=⟨fun pins s σ H H₀ σD Q I ok q=>thn (h.run pins s σ H H₀ σD Q I ok q) fun u s' ⟨v,H',d,I',r,sm,rp,qd⟩=>⟨v,H',d,I',r,sm,rp.top,qd⟩⟩
theorem freeze{pins:List (Addr×Obj)}{σ:St}{H H':Hp}{s:Shared}{a:Addr}{vs:List V}{xs:List D}(I:Inv X pins σ H' s)(sm:Same H H')(n:H a=none)(e:H' a=some (.lst vs))(r:Reps X.K H' xs vs):
  ∃ H'',Inv X pins σ H'' s/\Same H H''/\Rep X.K H'' (.list xs) (.ref a):=by
 obtain⟨o,J⟩:=I.frz e
 refine⟨_,J,fun b u hb=>?_,.lst upd_same (r.mono (upd_pers e rfl))⟩
 rw [upd_ne (ne_of_none hb n)]
 exact sm b u hb
def dFz(t:DTF):DTE:=fun σ Q=>t σ fun xs=>Q (.list xs)
theorem DF.de{t:DTF}(h:DF X e t):DE X e (dFz t):=⟨fun pins s σ H H₀ σD Q I ok q=>thn (h.run pins s σ H H₀ σD _ I ok q) fun u s' ⟨a,H',vs,xs,eu,I',sm,n,e,rp,qd⟩=>by
 obtain⟨H'',J,sm',r'⟩:=freeze I' sm n e rp
 exact⟨.ref a,H'',.list xs,J,eu,sm',r',qd⟩⟩
def dVar(i:Nat):DTE:=fun σ Q=>match σ[i]? with
 | some (some (.val d))=>Q d
 | _=>False
def dOwn(i:Nat):DTE:=fun σ Q=>match σ[i]? with
 | some (some (.val d))=>Q d
 | some (some (.own (.lst xs)))=>Q (.list xs)
 | some (some (.vw xs))=>Q (.list xs)
 | _=>False
def dC(d:D):DTE:=fun _ Q=>Q d
theorem de_var(i:Nat){x:Str}{pos:Pos}(hN:X.N[i]?=some x:=by rfl)(hv:Vis X.env.scope x:=by first | exact Or.inl rfl | exact Or.inr (Or.inl rfl) | exact Or.inr (Or.inr rfl))(hd:(x == ("__debug__" : Str))=false:=by decide)
  (hcd:(x == ("__classdict__" : Str))=false:=by decide):DE X (.Name x pos) (dVar i):=by
 refine DE.of (pe_var (i:=i) hN hv hd hcd) fun σ H H₀ σD QD ok q=>?_
 unfold dVar at q
 split at q
 ·next d e =>
  obtain⟨v,e1,r⟩:=ok.val e
  exact⟨v,e1,d,Same.refl _,r,q⟩
 ·exact q.elim
theorem dv_own(i:Nat){x:Str}{pos:Pos}(hN:X.N[i]?=some x:=by rfl)(hv:Vis X.env.scope x:=by first | exact Or.inl rfl | exact Or.inr (Or.inl rfl) | exact Or.inr (Or.inr rfl))(hd:(x == ("__debug__" : Str))=false:=by decide)
  (hcd:(x == ("__classdict__" : Str))=false:=by decide):DV X (.Name x pos) (dOwn i):=by
 refine DV.of (pe_var (i:=i) hN hv hd hcd) fun σ H H₀ σD QD ok q=>?_
 unfold dOwn at q
 split at q
 ·next d e =>
  obtain⟨v,e1,r⟩:=ok.val e
  exact⟨v,e1,d,Same.refl _,r.top,q⟩
 ·next xs e =>
  obtain⟨a,vs,e1,e2,r,_⟩:=ok.ownL e
  exact⟨.ref a,e1,.list xs,Same.refl _,.inr ⟨xs,rfl,a,vs,rfl,.inl e2,r⟩,q⟩
 ·next xs e =>
  obtain⟨v,e1,r⟩:=ok.vw e
  exact⟨v,e1,.list xs,Same.refl _,.inr ⟨xs,rfl,r⟩,q⟩
 ·exact q.elim
theorem de_int{i j pos}:DE X (.Constant (.int i) j pos) (dC (.int i)):=DE.of pe_int fun σ H H₀ σD QD ok q=>⟨.int i,Same.refl _,.int,q⟩
theorem de_bl{b j pos}:DE X (.Constant (.bool b) j pos) (dC (.bool b)):=DE.of pe_bl fun σ H H₀ σD QD ok q=>⟨.bool b,Same.refl _,.bl,q⟩
def dNil:DTF:=fun _ Q=>Q []
def dCons(t:DTE)(r:DTF):DTF:=fun σ Q=>t σ fun d=>r σ fun ds=>Q (d::ds)
theorem da_nil:DA X [] dNil:=⟨fun pos pins s σ H H₀ σD Q I ok q=>thn (pa_nil pos pins s σ H (fun vs H'=>vs = []/\H'=H) I ⟨rfl,rfl⟩) fun us s' ⟨vs,H',I',r,e1,e2⟩=>by subst e1 e2;exact⟨[],H',[],I',r,Same.refl _,.nil,q⟩⟩
theorem da_cons{t:DTE}{r:DTF}(ha:DE X e t)(hr:DA X es r)(hs:starEach (e::es) X.env=(false,eval e X.env)::starEach es X.env:=by rfl):DA X (e::es) (dCons t r):=⟨fun pos pins s σ H H₀ σD Q I ok q=>by
 refine thn (pa_cons ha.pe hr.pa hs pos pins s σ H (fun vs H'=>∃ ds,Same H H'/\Reps X.K H' ds vs/\Q ds) I ?_) fun us s' ⟨vs,H',I',r,ds,sm,rp,qd⟩=>⟨vs,H',ds,I',r,sm,rp,qd⟩
 exact⟨H₀,σD,_,ok,q,fun v H1 d s1 r1 q1=>⟨H₀,σD,_,ok.after s1,q1,fun vs H2 ds s2 r2 q2=>⟨d::ds,s1.trans s2,.cons (r1.same s2) r2,q2⟩⟩⟩⟩
theorem dav_nil:DAv X [] dNil:=⟨fun pos pins s σ H H₀ σD Q I ok q=>thn (pa_nil pos pins s σ H (fun vs H'=>vs = []/\H'=H) I ⟨rfl,rfl⟩) fun us s' ⟨vs,H',I',r,e1,e2⟩=>by subst e1 e2;exact⟨[],H',[],I',r,Same.refl _,.nil,q⟩⟩
theorem dav_cons{t:DTE}{r:DTF}(ha:DV X e t)(hr:DAv X es r)(hs:starEach (e::es) X.env=(false,eval e X.env)::starEach es X.env:=by rfl):DAv X (e::es) (dCons t r):=⟨fun pos pins s σ H H₀ σD Q I ok q=>by
 refine thn (pa_cons ha.pe hr.pa hs pos pins s σ H (fun vs H'=>∃ ds,Same H H'/\RepTs X.K H' ds vs/\Q ds) I ?_) fun us s' ⟨vs,H',I',r,ds,sm,rp,qd⟩=>⟨vs,H',ds,I',r,sm,rp,qd⟩
 exact⟨H₀,σD,_,ok,q,fun v H1 d s1 r1 q1=>⟨H₀,σD,_,ok.after s1,q1,fun vs H2 ds s2 r2 q2=>⟨d::ds,s1.trans s2,.cons (r1.same s2) r2,q2⟩⟩⟩⟩
def dpNil:DTP:=fun _ Q=>Q []
def dpVal(t:DTE)(r:DTP):DTP:=fun σ Q=>t σ fun d=>r σ fun ws=>Q (.val d::ws)
def dpVw(i:Nat)(r:DTP):DTP:=fun σ Q=>match σ[i]? with
 | some (some (.own (.lst xs)))=>r σ fun ws=>Q (.vw xs::ws)
 | some (some (.vw xs))=>r σ fun ws=>Q (.vw xs::ws)
 | some (some (.scr ns))=>r σ fun ws=>Q (.scr ns::ws)
 | some (some (.val d))=>r σ fun ws=>Q (.val d::ws)
 | some (some .pen)=>r σ fun ws=>Q (.pen::ws)
 | _=>False
theorem dp_nil:DPs X [] dpNil:=⟨fun pos pins s σ H H₀ σD Q I ok q=>thn (pa_nil pos pins s σ H (fun vs H'=>vs = []/\H'=H) I ⟨rfl,rfl⟩) fun us s' ⟨vs,H',I',r,e1,e2⟩=>by subst e1 e2;exact⟨[],H',[],I',r,Same.refl _,.nil,q⟩⟩
theorem dp_val{t:DTE}{r:DTP}(ha:DE X e t)(hr:DPs X es r)(hs:starEach (e::es) X.env=(false,eval e X.env)::starEach es X.env:=by rfl):DPs X (e::es) (dpVal t r):=⟨fun pos pins s σ H H₀ σD Q I ok q=>by
 refine thn (pa_cons ha.pe hr.pa hs pos pins s σ H (fun vs H'=>∃ ws,Same H H'/\RepWs X.K H' ws vs/\Q ws) I ?_) fun us s' ⟨vs,H',I',r,ds,sm,rp,qd⟩=>⟨vs,H',ds,I',r,sm,rp,qd⟩
 exact⟨H₀,σD,_,ok,q,fun v H1 d s1 r1 q1=>⟨H₀,σD,_,ok.after s1,q1,fun vs H2 ds s2 r2 q2=>⟨.val d::ds,s1.trans s2,.cons (r1.same s2) r2,q2⟩⟩⟩⟩
theorem dp_vw(i:Nat){x:Str}{pos:Pos}{r:DTP}(hr:DPs X es r)(hN:X.N[i]?=some x:=by rfl)(hv:Vis X.env.scope x:=by first | exact Or.inl rfl | exact Or.inr (Or.inl rfl) | exact Or.inr (Or.inr rfl))(hd:(x == ("__debug__" : Str))=false:=by decide)
  (hcd:(x == ("__classdict__" : Str))=false:=by decide) (hs:starEach (.Name x pos::es) X.env=(false,eval (.Name x pos) X.env)::starEach es X.env:=by rfl):DPs X (.Name x pos::es) (dpVw i r):=⟨fun pos' pins s σ H H₀ σD Q I ok q=>by
 refine thn (pa_cons (pe_var (i:=i) hN hv hd hcd) hr.pa hs pos' pins s σ H (fun vs H'=>∃ ws,Same H H'/\RepWs X.K H' ws vs/\Q ws) I ?_) fun us s' ⟨vs,H',I',r,ds,sm,rp,qd⟩=>⟨vs,H',ds,I',r,sm,rp,qd⟩
 unfold dpVw at q
 split at q
 ·next xs e =>
  obtain⟨a,vs,e1,e2,r,_⟩:=ok.ownL e
  exact⟨.ref a,e1,H₀,σD,_,ok,q,fun ws H2 ds s2 r2 q2=>⟨.vw xs::ds,s2,.cons (RepL.same s2 ⟨a,vs,rfl,.inl e2,r⟩) r2,q2⟩⟩
 ·next xs e =>
  obtain⟨v,e1,r⟩:=ok.vw e
  exact⟨v,e1,H₀,σD,_,ok,q,fun ws H2 ds s2 r2 q2=>⟨.vw xs::ds,s2,.cons (RepL.same s2 r) r2,q2⟩⟩
 ·next ns e =>
  obtain⟨a,e1,r⟩:=ok.scr e
  exact⟨.ref a,e1,H₀,σD,_,ok,q,fun ws H2 ds s2 r2 q2=>⟨.scr ns::ds,s2,.cons ⟨a,rfl,s2.seq r⟩ r2,q2⟩⟩
 ·next d e =>
  obtain⟨v,e1,r⟩:=ok.val e
  exact⟨v,e1,H₀,σD,_,ok,q,fun ws H2 ds s2 r2 q2=>⟨.val d::ds,s2,.cons (r.same s2) r2,q2⟩⟩
 ·next e =>
  obtain⟨a,e1,r⟩:=ok.pen e
  exact⟨.ref a,e1,H₀,σD,_,ok,q,fun ws H2 ds s2 r2 q2=>⟨.pen::ds,s2,.cons ⟨a,rfl,s2 _ _ r⟩ r2,q2⟩⟩
 ·exact q.elim⟩
def dTup(t:DTF):DTE:=fun σ Q=>t σ fun ds=>ds.length<=sizeLine/\Q (.tuple ds)
def dLst(t:DTF):DTF:=fun σ Q=>t σ fun ds=>ds.length<=sizeLine/\Q ds
theorem de_tup{x1 pos}{t:DTF}(h:DA X es t):DE X (.Tuple es x1 pos) (dTup t) :=
 DE.of (pe_tup h.pa) fun σ H H₀ σD QD ok q=>⟨H₀,σD,_,ok,q,fun vs H1 ds s1 r1 q1=>⟨by rw [<-r1.length];exact q1.1,fun p hp=>⟨.tuple ds,s1.trans (same_new hp _),.tup (SqT.of upd_same) (r1.same (same_new hp _)),q1.2⟩⟩⟩
theorem df_lst{pos}{t:DTF}(h:DA X es t):DF X (.List es pos) (dLst t) :=
 DF.of (pe_lst h.pa) fun σ H H₀ σD QD ok q=>⟨H₀,σD,_,ok,q,fun vs H1 ds s1 r1 q1=>⟨by rw [<-r1.length];exact q1.1,fun p hp=>⟨p,vs,ds,rfl,s1.trans (same_new hp _),s1.free hp,upd_same,r1.same (same_new hp _),q1.2⟩⟩⟩
variable {a b:Expr}{rest:List Expr}{pos:Pos}
def onB(Q:Bool->Prop):D->Prop
 | .bool b=>Q b
 | _=>False
def dTB(t:DTE):DTT:=fun σ Q=>t σ (onB Q)
def dOr(t u:DTT):DTT:=fun σ Q=>t σ fun c=>if c=true then Q true else u σ Q
def dNot(t:DTT):DTT:=fun σ Q=>t σ fun c=>Q (!c)
theorem DWt.dt{t:DTT}(h:DWt X e t):DT X e t:=⟨h.run _⟩
theorem dw_or1{t:DTT}(ha:DT X a t):DWt X (.BoolOp .Or [a] pos) t:=⟨fun wh pins s σ H H₀ σD Q I ok q=>by
 refine isTrue_or (thn (ha.run pins s σ H H₀ σD Q I ok q) fun c s1 e=>?_)
 cases c with
 | false=>exact isTrue_or_nil e
 | true=>exact e⟩
theorem dw_or{t u:DTT}(ha:DT X a t)(hb:DWt X (.BoolOp .Or (b::rest) pos) u):DWt X (.BoolOp .Or (a::b::rest) pos) (dOr t u):=⟨fun wh pins s σ H H₀ σD Q I ok q=>by
 refine isTrue_or (thn (ha.run pins s σ H H₀ σD _ I ok q) fun c s1 ⟨H1,I1,sm,q1⟩=>?_)
 cases c with
 | false =>
  rw [if_neg Bool.false_ne_true] at q1
  exact thn (hb.run wh pins s1 σ H1 H₀ σD Q I1 (ok.after sm) q1) fun _ _ ⟨H2,I2,s2,q2⟩=>⟨H2,I2,sm.trans s2,q2⟩
 | true=>rw [if_pos rfl] at q1;exact⟨H1,I1,sm,q1⟩⟩
theorem dt_not{t:DTT}(ha:DT X a t):DT X (.UnaryOp .Not a pos) (dNot t):=⟨fun pins s σ H H₀ σD Q I ok q=>isTrue_not (ha.run pins s σ H H₀ σD (fun c=>Q (!c)) I ok q)⟩
def truD:D->Bool
 | .none=>false
 | .bool b=>b
 | .int i=>i != 0
 | .str x=>(x.length:Int) != 0
 | .tuple xs=>!xs.isEmpty
 | .list xs=>!xs.isEmpty
 | .dict kvs=>!kvs.isEmpty
def dTru(t:DTE):DTT:=fun σ Q=>t σ fun d=>match d with
 | .str x=>x.length<=sizeLine/\Q (truD (.str x))
 | .dict _=>False
 | d=>Q (truD d)
theorem emp_of{K:PySem.W.Frag}{H:Hp}{ds:List D}{vs:List V}(r:Reps K H ds vs):(!vs.isEmpty) = !ds.isEmpty:=by cases r <;> rfl
theorem tru_rep{K:PySem.W.Frag}{H:Hp}{d:D}{v:V}(r:RepT K H d v)(h:match d with | .str x=>x.length<=sizeLine | .dict _=>False | _=>True):TruV K v H (truD d):=by
 rcases r with r | ⟨xs,rfl,a,vs,rfl,e,r⟩
 ·cases r with
  | non=>rfl
  | bl=>rfl
  | int=>rfl
  | str=>exact⟨h,rfl⟩
  | tup q r=>exact .inr (.inl ⟨_,q,(emp_of r).symm⟩)
  | lst q r=>exact .inl ⟨_,.inl (.inr ⟨_,q⟩),(emp_of r).symm⟩
  | dic q r=>exact h.elim
 ·exact .inl ⟨vs,.inl e,(emp_of r).symm⟩
theorem dt_tru{t:DTE}(h:DV X e t)(he:∀ whole,isTrue e X.env whole=(do let v <-whole;standAt e.pos;holding [v] (truthy v)):=by intro _;rfl):DT X e (dTru t) :=
 DT.of (pt_truth h.pe he) fun σ H H₀ σD QD ok q=>⟨H₀,σD,_,ok,q,fun v H1 d s1 r1 q1=>by
  cases d with
  | str x=>exact⟨_,tru_rep r1 q1.1,s1,q1.2⟩
  | dict _=>exact q1.elim
  | none=>exact⟨_,tru_rep r1 trivial,s1,q1⟩
  | bool _=>exact⟨_,tru_rep r1 trivial,s1,q1⟩
  | int _=>exact⟨_,tru_rep r1 trivial,s1,q1⟩
  | tuple _=>exact⟨_,tru_rep r1 trivial,s1,q1⟩
  | list _=>exact⟨_,tru_rep r1 trivial,s1,q1⟩⟩
def dAndV(t u:DTE):DTE:=fun σ Q=>t σ fun d=>match d with
 | .bool c=>if c=true then u σ Q else Q (.bool false)
 | _=>False
def dIfE(c:DTT)(t u:DTE):DTE:=fun σ Q=>c σ fun b=>if b=true then t σ Q else u σ Q
theorem de_one{op}{t:DTE}(h:DE X a t):DE X (.BoolOp op [a] pos) t:=⟨fun pins s σ H H₀ σD Q I ok q=>BoolOp_one (h.run pins s σ H H₀ σD Q I ok q)⟩
theorem DEnd.back{pins:List (Addr×Obj)}{σ:St}{H H1:Hp}{Q:D->Prop}{u:Value}{s':Shared}(s1:Same H H1)(h:DEnd X pins σ H1 Q u s'):DEnd X pins σ H Q u s':=let ⟨v,H',d,I',r,sm,rp,qd⟩:=h;⟨v,H',d,I',r,s1.trans sm,rp,qd⟩
theorem de_and{t u:DTE}(ha:DE X a t)(hb:DE X (.BoolOp .And (b::rest) pos) u):DE X (.BoolOp .And (a::b::rest) pos) (dAndV t u):=⟨fun pins s σ H H₀ σD Q I ok q=>by
 refine BoolOp_and (thn (ha.run pins s σ H H₀ σD _ I ok q) fun v s1 ⟨x,H1,d,I1,r1,sm,rp,q1⟩=>?_)
 cases d with
 | bool c =>
  cases rp
  cases r1
  refine wpAny_truthy_bool ?_
  cases c with
  | true=>exact thn (hb.run pins s1 σ H1 H₀ σD Q I1 (ok.after sm) (by simpa using q1)) fun _ _ h=>h.back sm
  | false=>exact⟨.bl false,H1,.bool false,I1,rfl,sm,.bl,by simpa using q1⟩
 | _=>exact q1.elim⟩
theorem de_ifExp{c:Expr}{tc:DTT}{t u:DTE}(hc:DT X c tc)(ha:DE X a t)(hb:DE X b u):DE X (.IfExp c a b pos) (dIfE tc t u) :=
 DE.of (pe_ifExp hc.pt ha.pe hb.pe) fun σ H H₀ σD QD ok q=>⟨H₀,σD,_,ok,q,fun k H1 s1 q1=>by
  cases k with
  | true=>rw [if_pos rfl] at q1 ⊢;exact⟨H₀,σD,_,ok.after s1,q1,fun v H2 d s2 r2 q2=>⟨d,s1.trans s2,r2,q2⟩⟩
  | false=>rw [if_neg Bool.false_ne_true] at q1 ⊢;exact⟨H₀,σD,_,ok.after s1,q1,fun v H2 d s2 r2 q2=>⟨d,s1.trans s2,r2,q2⟩⟩⟩
end
section
variable {X:Cx}{pins:List (Addr×Obj)}{σ:St}{H:Hp}{s:Shared}
mutual
theorem Rep.reads(I:Inv X pins σ H s):∀{d:D} {v:V} {u:Value},Rep X.K H d v->RelV v u->d.canLay0=true->∃ as,Reads s.heap u d as
 | _,_,_,.non,r,_=>by cases r;exact⟨_,.none⟩
 | _,_,_,.bl,r,_=>by cases r;exact⟨_,.bool _⟩
 | _,_,_,.int,r,_=>by obtain⟨t,rfl⟩:=r;exact⟨_,.int _ _⟩
 | _,_,_,.str,r,_=>by obtain⟨t,rfl⟩:=r;exact⟨_,.str _ _⟩
 | _,_,_,.tup h q,r,c=>by
  cases r
  obtain⟨its,rv,⟨o,e1,e2,n,e3⟩,_⟩:=I.tuple h
  obtain⟨as,ra⟩:=Reps.reads I q rv (by simpa [PyData.canLay0] using c)
  exact⟨_,.tuple e1 e2 e3 (by simpa using ra)⟩
 | _,_,_,.lst h q,r,c=>by
  cases r
  obtain⟨_,z,its,n,rv,e⟩:=I.hok _ _ h
  obtain⟨as,ra⟩:=Reps.reads I q rv (by simpa [PyData.canLay0] using c)
  exact⟨_,.list e rfl rfl (by simpa using ra)⟩
 | _,_,_,.dic h q,r,c=>by simp [PyData.canLay0] at c
theorem Reps.reads(I:Inv X pins σ H s):∀{ds:List D} {vs:List V} {us:List Value},Reps X.K H ds vs->Vals vs us->PyData.canLayAll0 ds=true->∃ as,ReadsAll s.heap us ds as
 | _,_,_,.nil,r,_=>by cases r;exact⟨_,.nil⟩
 | _,_,_,.cons q t,r,c=>by
  cases r with
  | cons r1 r2 =>
   simp only [PyData.canLayAll0,Bool.and_eq_true] at c
   obtain⟨as,ra⟩:=Rep.reads I q r1 c.1
   obtain⟨bs,rb⟩:=Reps.reads I t r2 c.2
   exact⟨_,.cons ra rb⟩
end
theorem RepT.reads(I:Inv X pins σ H s){d:D}{v:V}{u:Value}(h:RepT X.K H d v)(r:RelV v u)(c:d.canLay0=true):∃ as,Reads s.heap u d as:=by
 rcases h with h | ⟨xs,rfl,a,vs,rfl,e,q⟩
 ·exact h.reads I r c
 ·cases r
  obtain⟨z,its,n,rv,e⟩:=e.ok I.hok
  obtain⟨as,ra⟩:=Reps.reads I q rv (by simpa [PyData.canLay0] using c)
  exact⟨_,.list e rfl rfl (by simpa using ra)⟩
end
def Lay(d:D):Prop:=SeqAt.shaped d=true
theorem Lay.can{d:D}(h:Lay d):d.canLay0=true:=by unfold Lay SeqAt.shaped at h;rw [Bool.and_eq_true] at h;exact h.1
theorem Lay.deep{d:D}(h:Lay d):d.depth<=64:=by unfold Lay SeqAt.shaped at h;rw [Bool.and_eq_true] at h;exact of_decide_eq_true h.2
abbrev DOp:=D->D->(D->Prop)->Prop
structure OpD(X:Cx)(f:Value->Value->Sem Value)(g:DOp):Prop where
 run:∀(pins:List (Addr×Obj)) (s:Shared) (σ:St) (H:Hp) (x y:V) (v u:Value) (a b:D) (Q:D->Prop),Inv X pins σ H s->RelV x v->RelV y u->RepT X.K H a x->RepT X.K H b y->g a b Q->wpAny (model X.prog X.w) X.A (f v u) (DEnd X pins σ H Q) X.xe s
structure OpF(X:Cx)(f:Value->Value->Sem Value)(g:D->D->(List D->Prop)->Prop):Prop where
 run:∀(pins:List (Addr×Obj)) (s:Shared) (σ:St) (H:Hp) (x y:V) (v u:Value) (a b:D) (Q:List D->Prop),Inv X pins σ H s->RelV x v->RelV y u->RepT X.K H a x->RepT X.K H b y->g a b Q->wpAny (model X.prog X.w) X.A (f v u) (DEndF X pins σ H Q) X.xe s
def dOp(g:DOp)(ta tb:DTE):DTE:=fun σ Q=>ta σ fun a=>tb σ fun b=>g a b Q
section
variable {X:Cx}{a b c:Expr}{ta tb tc:DTE}{pos:Pos}
theorem OpD.of{f:Value->Value->Sem Value}{r:R2}{g:DOp}(h:OpR X f r)(k:∀ x y H a b Q,RepT X.K H a x->RepT X.K H b y->g a b Q->r x y H (fun v H'=>∃ d,Same H H'/\Rep X.K H' d v/\Q d)):OpD X f g :=
 ⟨fun pins s σ H x y v u a b Q I rx ry ra rb q=>thn (h pins s σ H x y v u _ I rx ry (k x y H a b Q ra rb q)) fun w s' ⟨z,H',I',rz,d,sm,rp,qd⟩=>⟨z,H',d,I',rz,sm,rp,qd⟩⟩
theorem OpF.of{f:Value->Value->Sem Value}{r:R2}{g:D->D->(List D->Prop)->Prop}(h:OpR X f r)(k:∀ x y H a b Q,RepT X.K H a x->RepT X.K H b y->g a b Q->r x y H (fun v H'=>∃ p vs xs,v=.ref p/\Same H H'/\H p=none/\H' p=some (.lst vs)/\Reps X.K H' xs vs/\Q xs)):OpF X f g :=
 ⟨fun pins s σ H x y v u a b Q I rx ry ra rb q=>thn (h pins s σ H x y v u _ I rx ry (k x y H a b Q ra rb q)) fun w s' ⟨z,H',I',rz,p,vs,xs,ez,sm,n,e,rp,qd⟩=>⟨p,H',vs,xs,by subst ez;exact rz,I',sm,n,e,rp,qd⟩⟩
theorem OpF.opD{f:Value->Value->Sem Value}{g:D->D->(List D->Prop)->Prop}(h:OpF X f g):OpD X f (fun a b Q=>g a b fun xs=>Q (.list xs)) :=
 ⟨fun pins s σ H x y v u a b Q I rx ry ra rb q=>thn (h.run pins s σ H x y v u a b _ I rx ry ra rb q) fun w s' ⟨p,H',vs,xs,ew,I',sm,n,e,rp,qd⟩=>by
  obtain⟨H'',J,sm',r'⟩:=freeze I' sm n e rp
  exact⟨.ref p,H'',.list xs,J,ew,sm',r',qd⟩⟩
theorem bin2{ta tb:DTE}(ha:DV X a ta)(hb:DV X b tb){pins:List (Addr×Obj)}{s:Shared}{σ:St}{H H₀:Hp}{σD:DSt}{R:D->D->Prop}(I:Inv X pins σ H s)(ok:DOk X.K H₀ H σD σ)(h:ta σD fun x=>tb σD fun y=>R x y)
  {α:Type} {Q:α->Shared->Prop} {f:Value->Value->Sem α}
  (hf:∀ v u s2 x y H2 d e,Inv X pins σ H2 s2->RelV x v->RelV y u->Same H H2->RepT X.K H2 d x->RepT X.K H2 e y->R d e->wpAny (model X.prog X.w) X.A (f v u) Q X.xe s2) :
  wpAny (model X.prog X.w) X.A (eval a X.env) (fun v s₁=>wpAny (model X.prog X.w) X.A (eval b X.env) (fun u s₂=>wpAny (model X.prog X.w) X.A (f v u) Q X.xe s₂) X.xe s₁) X.xe s:=by
 refine thn (ha.run pins s σ H H₀ σD _ I ok h) fun v s1 ⟨x,H1,d,I1,r1,sm1,p1,q1⟩=>?_
 refine thn (hb.run pins s1 σ H1 H₀ σD _ I1 (ok.after sm1) q1) fun u s2 ⟨y,H2,e,I2,r2,sm2,p2,q2⟩=>?_
 exact hf v u s2 x y H2 d e I2 r1 r2 (sm1.trans sm2) (p1.same sm2) p2 q2
theorem de_op{op:Operator}{g:DOp}(ho:OpD X (binaryOp op) g)(ha:DV X a ta)(hb:DV X b tb):DE X (.BinOp a op b pos) (dOp g ta tb) :=
 ⟨fun pins s σ H H₀ σD Q I ok q=>wpAny_BinOp (bin2 ha hb I ok q fun v u s2 x y H2 d e I2 rx ry sm rd re qd=>thn (ho.run pins s2 σ H2 x y v u d e Q I2 rx ry rd re qd) fun _ _ z=>z.back sm)⟩
theorem de_cmp{op:CmpOp}{g:DOp}(ho:OpD X (compareOp op) g)(ha:DV X a ta)(hb:DV X b tb)(hm:behindInMarks op b=false):DE X (.Compare a [op] [b] pos) (dOp g ta tb) :=
 ⟨fun pins s σ H H₀ σD Q I ok q=>wpAny_Compare1 (bin2 ha hb I ok q fun v u s2 x y H2 d e I2 rx ry sm rd re qd=>thn (ho.run pins s2 σ H2 x y v u d e Q I2 rx ry rd re qd) fun _ _ z=>z.back sm) hm⟩
theorem dt_cmp{op:CmpOp}{g:DOp}(ho:OpD X (compareOp op) g)(ha:DV X a ta)(hb:DV X b tb)(hm:behindInMarks op b=false):DT X (.Compare a [op] [b] pos) (dTB (dOp g ta tb)) :=
 ⟨fun pins s σ H H₀ σD Q I ok q=>by
  refine wpAny_isTrue_Compare1 (thn (ha.run pins s σ H H₀ σD _ I ok q) fun v s1 ⟨x,H1,d,I1,r1,sm1,p1,q1⟩=>thn (hb.run pins s1 σ H1 H₀ σD _ I1 (ok.after sm1) q1) fun u s2 ⟨y,H2,e,I2,r2,sm2,p2,q2⟩ =>
   thn (ho.run pins s2 σ H2 x y v u d e _ I2 r1 r2 (p1.same sm2) p2 q2) fun k s3 ⟨z,H3,dz,I3,r3,sm3,p3,q3⟩=>?_) hm
  cases dz with
  | bool k =>
   cases p3
   cases r3
   exact wpAny_truthy_bool ⟨H3,I3,(sm1.trans sm2).trans sm3,q3⟩
  | _=>exact q3.elim⟩
def dChain(g g':DOp)(ta tb tc:DTE):DTE:=fun σ Q=>ta σ fun a=>tb σ fun b=>g a b fun z=>match z with
 | .bool k=>if k=true then tc σ fun c=>g' b c Q else Q (.bool false)
 | _=>False
theorem de_chain{op op':CmpOp}{g g':DOp}(ho:OpD X (compareOp op) g)(ho':OpD X (compareOp op') g')(ha:DV X a ta)(hb:DV X b tb)(hc:DV X c tc)
  (hm:lastMarks [op,op'] [b,c]=false:=by with_unfolding_all rfl):DE X (.Compare a [op,op'] [b,c] pos) (dChain g g' ta tb tc):=⟨fun pins s σ H H₀ σD Q I ok q=>by
 refine Compare_chain (thn (ha.run pins s σ H H₀ σD _ I ok q) fun v s1 ⟨x,H1,d,I1,r1,sm1,p1,q1⟩=>chain_link (thn (hb.run pins s1 σ H1 H₀ σD _ I1 (ok.after sm1) q1) fun u s2 ⟨y,H2,e,I2,r2,sm2,p2,q2⟩ =>
  thn (ho.run pins s2 σ H2 x y v u d e _ I2 r1 r2 (p1.same sm2) p2 q2) fun k s3 ⟨z,H3,dz,I3,r3,sm3,p3,q3⟩=>?_)) hm
 cases dz with
 | bool k =>
  cases p3
  cases r3
  refine wpAny_truthy_bool ?_
  cases k with
  | false=>exact ite_ff ⟨.bl false,H3,.bool false,I3,rfl,(sm1.trans sm2).trans sm3,.bl,by simpa using q3⟩
  | true =>
   refine ite_tt (chain_last (thn (hc.run pins s3 σ H3 H₀ σD (fun c=>g' e c Q) I3 (ok.after ((sm1.trans sm2).trans sm3)) (by simpa using q3)) fun w' s4 ⟨z',H4,f,I4,r4,sm4,p4,q4⟩=>?_))
   exact thn (ho'.run pins s4 σ H4 y z' u w' e f Q I4 r2 r4 ((p2.same sm3).same sm4) p4 q4) fun _ _ z=>z.back (((sm1.trans sm2).trans sm3).trans sm4)
 | _=>exact q3.elim⟩
def dUn(g:D->(D->Prop)->Prop)(ta:DTE):DTE:=fun σ Q=>ta σ fun a=>g a Q
def gNeg:D->(D->Prop)->Prop
 | .int i,Q=>Q (.int (-i))
 | _,_=>False
theorem de_neg(ha:DE X a ta):DE X (.UnaryOp .USub a pos) (dUn gNeg ta) :=
 DE.of (pe_un un_neg ha.pe) fun σ H H₀ σD QD ok q=>⟨H₀,σD,_,ok,q,fun v H1 d s1 r1 q1=>by
  cases d with
  | int i=>cases r1;exact⟨i,rfl,.int (-i),s1,.int,q1⟩
  | _=>exact q1.elim⟩
def gNot:D->(D->Prop)->Prop
 | .bool b,Q=>Q (.bool (!b))
 | _,_=>False
theorem de_not(ha:DE X a ta):DE X (.UnaryOp .Not a pos) (dUn gNot ta) :=
 DE.of (pe_not ha.pe) fun σ H H₀ σD QD ok q=>⟨H₀,σD,_,ok,q,fun v H1 d s1 r1 q1=>by
  cases d with
  | bool i=>cases r1;exact⟨i,rfl,.bool (!i),s1,.bl,q1⟩
  | _=>exact q1.elim⟩
theorem RepT.int{K:PySem.W.Frag}{H:Hp}{i:Int}{v:V}(h:RepT K H (.int i) v):v=.int i:=by
 rcases h with h | ⟨_,e,_⟩
 ·cases h;rfl
 ·cases e
theorem RepT.str{K:PySem.W.Frag}{H:Hp}{i:Str}{v:V}(h:RepT K H (.str i) v):v=.str i:=by
 rcases h with h | ⟨_,e,_⟩
 ·cases h;rfl
 ·cases e
theorem RepT.bool{K:PySem.W.Frag}{H:Hp}{i:Bool}{v:V}(h:RepT K H (.bool i) v):v=.bl i:=by
 rcases h with h | ⟨_,e,_⟩
 ·cases h;rfl
 ·cases e
theorem RepT.none{K:PySem.W.Frag}{H:Hp}{v:V}(h:RepT K H .none v):v=.non:=by
 rcases h with h | ⟨_,e,_⟩
 ·cases h;rfl
 ·cases e
theorem RepT.tuple{K:PySem.W.Frag}{H:Hp}{xs:List D}{v:V}(h:RepT K H (.tuple xs) v):∃ a vs,v=.ref a/\SqT K H a vs/\Reps K H xs vs:=by
 rcases h with h | ⟨_,e,_⟩
 ·cases h with
  | tup h r=>exact⟨_,_,rfl,h,r⟩
 ·cases e
def gII(C:Int->Int->Prop)(f:Int->Int->D):DOp
 | .int i,.int j,Q=>C i j/\Q (f i j)
 | _,_,_=>False
def gII0(f:Int->Int->D):DOp
 | .int i,.int j,Q=>Q (f i j)
 | _,_,_=>False
theorem OpD.ii{f:Value->Value->Sem Value}{C:Int->Int->Prop}{g:Int->Int->Int}(h:OpR X f (rI C fun i j=>.int (g i j))):OpD X f (gII C fun i j=>.int (g i j)) :=
 OpD.of h fun x y H a b Q ra rb q=>by
  cases a with
  | int i =>
   cases b with
   | int j=>cases ra.int;cases rb.int;exact⟨i,j,rfl,rfl,q.1,.int _,Same.refl _,.int,q.2⟩
   | _=>exact q.elim
  | _=>exact q.elim
theorem OpD.ii0{f:Value->Value->Sem Value}{g:Int->Int->Int}(h:OpR X f (rI0 fun i j=>.int (g i j))):OpD X f (gII0 fun i j=>.int (g i j)) :=
 OpD.of h fun x y H a b Q ra rb q=>by
  cases a with
  | int i =>
   cases b with
   | int j=>cases ra.int;cases rb.int;exact⟨i,j,rfl,rfl,.int _,Same.refl _,.int,q⟩
   | _=>exact q.elim
  | _=>exact q.elim
theorem OpD.ib0{f:Value->Value->Sem Value}{g:Int->Int->Bool}(h:OpR X f (rI0 fun i j=>.bl (g i j))):OpD X f (gII0 fun i j=>.bool (g i j)) :=
 OpD.of h fun x y H a b Q ra rb q=>by
  cases a with
  | int i =>
   cases b with
   | int j=>cases ra.int;cases rb.int;exact⟨i,j,rfl,rfl,.bool _,Same.refl _,.bl,q⟩
   | _=>exact q.elim
  | _=>exact q.elim
theorem o_sub:OpD X (binaryOp .Sub) (gII0 fun i j=>.int (i-j)):=OpD.ii0 op_sub
theorem o_mod:OpD X (binaryOp .Mod) (gII (fun _ j=>0<j) fun i j=>.int (i % j)):=OpD.ii op_mod
theorem o_pow:OpD X (binaryOp .Pow) (gII CPow fun i j=>.int (i ^ j.toNat)):=OpD.ii op_pow
theorem o_lt:OpD X (compareOp .Lt) (gII0 fun i j=>.bool (decide (i<j))):=OpD.ib0 op_lt
theorem o_le:OpD X (compareOp .LtE) (gII0 fun i j=>.bool (decide (i<=j))):=OpD.ib0 op_le
theorem o_gt:OpD X (compareOp .Gt) (gII0 fun i j=>.bool (decide (j<i))):=OpD.ib0 op_gt
theorem o_ge:OpD X (compareOp .GtE) (gII0 fun i j=>.bool (decide (j<=i))):=OpD.ib0 op_ge
def gCat:D->D->(List D->Prop)->Prop
 | .list xs,.list ys,Q=>xs.length+ys.length<=sizeLine/\Q (xs++ys)
 | _,_,_=>False
theorem op_catR:OpR X (binaryOp .Add) (fun x y H Q=>∃ l b xs zs,x=.ref l/\y=.ref b/\Rd H l (.lst xs)/\Rd H b (.lst zs)/\xs.length+zs.length<=sizeLine/\∀ p,H p=none->Q (.ref p) (upd H p (.lst (xs++zs)))):=by
 intro pins s σ H x y v u Q I rx ry h
 obtain⟨l,b,xs,zs,rfl,rfl,hH,hB,hz,q⟩:=h
 cases rx
 cases ry
 obtain⟨z,its,n,r,e⟩:=hH.ok I.hok
 obtain⟨z2,its2,n2,r2,e2⟩:=hB.ok I.hok
 have hl:=r.length
 have hl2:=r2.length
 refine PySem.P.add_list e e2 ?_ (by rw [List.size_toArray,List.size_toArray];omega)
 have ea:its.toArray++its2.toArray=(its++its2).toArray:=by simp
 rw [ea]
 exact⟨.ref _,_,I.lnew (t':=s.toks) (r.append r2) (by rw [List.length_append];omega),rfl,q _ I.fresh⟩
theorem f_cat:OpF X (binaryOp .Add) gCat:=OpF.of op_catR fun x y H a b Q ra rb q=>by
 cases a with
 | list xs =>
  cases b with
  | list ys =>
   obtain⟨l,vs,rfl,hl,r1⟩:=ra.list
   obtain⟨m,ws,rfl,hm,r2⟩:=rb.list
   exact⟨l,m,vs,ws,rfl,rfl,hl,hm,by rw [<-r1.length,<-r2.length];exact q.1,fun p hp=>⟨p,_,xs++ys,rfl,same_new hp _,hp,upd_same,(r1.append r2).same (same_new hp _),q.2⟩⟩
  | _=>exact q.elim
 | _=>exact q.elim
def gRep:D->D->(List D->Prop)->Prop
 | .list xs,.int k,Q=>-(2 ^ 63)<=k/\k<2 ^ 63/\xs.length * k.toNat<=sizeLine/\Q (List.replicate k.toNat xs).flatten
 | _,_,_=>False
theorem op_repR:OpR X (binaryOp .Mult) (fun x y H Q=>∃ l k xs,x=.ref l/\y=.int k/\Rd H l (.lst xs)/\-(2 ^ 63)<=k/\k<2 ^ 63/\xs.length * k.toNat<=sizeLine /\
 ∀ p,H p=none->Q (.ref p) (upd H p (.lst (List.replicate k.toNat xs).flatten))):=by
 intro pins s σ H x y v u Q I rx ry h
 obtain⟨l,k,xs,rfl,rfl,hH,h1,h2,hz,q⟩:=h
 cases rx
 obtain⟨t,rfl⟩:=ry
 obtain⟨z,its,n,r,e⟩:=hH.ok I.hok
 have hl:=r.length
 have hlen:its.toArray.size * k.toNat<=sizeLine:=by rw [List.size_toArray,<-hl];exact hz
 have hcap:¬ its.toArray.size * k.toNat > (2 ^ 63-1) / 8:=by
  have:(sizeLine:Nat)<=(2 ^ 63-1) / 8:=by decide
  omega
 have hfit:¬ (!Builtin.List.listFitsIndex k)=true:=by
  rw [fitsIndex_both h1 h2]
  exact Bool.false_ne_true
 have hlong:¬ Builtin.List.listTooLong (its.toArray.size * k.toNat)=true:=by
  rw [notLongL hlen]
  exact Bool.false_ne_true
 have hnew:List.foldl (fun x1 x2=>x1++x2) #[] (List.replicate (if its.toArray.isEmpty=true then 0 else k.toNat) its.toArray)=(List.replicate k.toNat its).flatten.toArray:=by
  have f0:∀ m:Nat,List.foldl (fun x1 x2=>x1++x2) #[] (List.replicate m its.toArray)=(List.replicate m its).flatten.toArray:=fun m=>by
   have:=foldl_rep its m []
   rw [List.nil_append] at this
   exact this
  rw [f0]
  cases its with
  | nil=>simp
  | cons a r'=>rw [if_neg (by simp)]
 refine wpAny_binaryOp_repeat_ref (T := "list") (U := "int") (by decide) ⟨_,e,rfl⟩ (fun s'=>typeIs_int s' k t) noFill_list_mul F.fills_int_mul F.slot_int_rmul repeat_list F.slot_int_index.lookup
  (call_meets F.slot_int_rmul (typeIs_int s k t) F.entry_int_rmul (F.args_int_rmul_2 _ _) (int___rmul___int_list k t l its.toArray n)
   ⟨e,rfl,⟨_,e,rfl⟩,call_meets F.slot_list_mul ⟨_,e,rfl⟩ F.entry_list_mul (F.args_list_mul_2 _ _) (AutoListH.list___mul___list_int_3 l its.toArray n k t hfit hcap hlong) ⟨e,?_⟩⟩)
 rw [hnew]
 exact⟨.ref _,_,I.lnew (t':=s.toks) (r.rep k.toNat) (by rw [len_rep,Nat.mul_comm];exact hz),rfl,q _ I.fresh⟩
theorem f_rep:OpF X (binaryOp .Mult) gRep:=OpF.of op_repR fun x y H a b Q ra rb q=>by
 cases a with
 | list xs =>
  cases b with
  | int k =>
   obtain⟨l,vs,rfl,hl,r1⟩:=ra.list
   cases rb.int
   obtain⟨h1,h2,h3,q⟩:=q
   exact⟨l,k,vs,rfl,rfl,hl,h1,h2,by rw [<-r1.length];exact h3,fun p hp=>⟨p,_,_,rfl,same_new hp _,hp,upd_same,(r1.rep k.toNat).same (same_new hp _),q⟩⟩
  | _=>exact q.elim
 | _=>exact q.elim
def gAdd:DOp
 | .int i,.int j,Q=>Q (.int (i+j))
 | .str x,.str y,Q=>x.length+y.length<=sizeLine/\Q (.str (x++y))
 | .tuple xs,.tuple ys,Q=>xs.length+ys.length<=sizeLine/\Q (.tuple (xs++ys))
 | .list xs,.list ys,Q=>xs.length+ys.length<=sizeLine/\Q (.list (xs++ys))
 | _,_,_=>False
theorem op_catS:OpR X (binaryOp .Add) (fun x y H Q=>∃ a b xs ys,x=.ref a/\y=.ref b/\SqT X.K H a xs/\SqT X.K H b ys/\xs.length+ys.length<=sizeLine/\∀ p H',Same H H'->SqT X.K H' p (xs++ys)->Q (.ref p) H'):=by
 intro pins s σ H x y v u Q I rx ry h
 obtain⟨a,b,xs,ys,rfl,rfl,ha,hb,hz,q⟩:=h
 cases rx
 cases ry
 obtain⟨its,r1,p1,_⟩:=I.tuple ha
 obtain⟨its2,r2,p2,_⟩:=I.tuple hb
 by_cases hx:xs = []
 ·obtain⟨⟨cls,dd,data,sl⟩,ho,hc,n,hd⟩:=id p1
  obtain⟨⟨cls2,dd2,data2,sl2⟩,ho2,hc2,n2,hd2⟩:=id p2
  simp only at hc hd hc2 hd2
  subst hc hd hc2 hd2
  have hv:its = []:=r1.nil_iff.mpr hx
  refine concat_meets ⟨_,ho,rfl⟩ ⟨_,ho2,rfl⟩ noFill_tuple_add seq_tuple_add PySem.F.slot_tuple_add PySem.F.entry_tuple_add (PySem.F.args_tuple_add_2 _ _) (tuple_addW0 a b its.toArray its2.toArray n n2 dd dd2 sl sl2 (by simp [hv])) ⟨ho,ho2,?_⟩
  exact⟨.ref b,H,I,rfl,q b H (Same.refl H) (by rw [hx,List.nil_append];exact hb)⟩
 ·refine HT.cat_tup p1 p2 (fun z=>hx (r1.nil_iff.mp z)) (fun z=>⟨.ref a,H,I,rfl,q a H (Same.refl H) (by rw [r2.nil_iff.mp z,List.append_nil];exact ha)⟩) (fun z=>?_) (by rw [<-r1.length,<-r2.length];exact hz)
  refine⟨.ref s.heap.objs.size,_,I.laid (t':=s.toks) (o:=.tup (xs++ys)) (fun b ob q=>Heap.get?_push_of_some _ q) (Nat.le_refl _) ?_,rfl,q _ _ (same_new (I.hok.fresh (Nat.le_refl _)) _) (SqT.of upd_same)⟩
  exact⟨by rw [List.length_append];exact hz,_,r1.append r2,TupD.new _ _⟩
theorem o_catT:OpD X (binaryOp .Add) (fun a b Q=>match a,b with | .tuple xs,.tuple ys=>xs.length+ys.length<=sizeLine/\Q (.tuple (xs++ys)) | _,_=>False):=OpD.of op_catS fun x y H a b Q ra rb q=>by
 cases a with
 | tuple xs =>
  cases b with
  | tuple ys =>
   obtain⟨l,vs,rfl,hl,r1⟩:=ra.tuple
   obtain⟨m,ws,rfl,hm,r2⟩:=rb.tuple
   exact⟨l,m,vs,ws,rfl,rfl,hl,hm,by rw [<-r1.length,<-r2.length];exact q.1,fun p H' sm e=>⟨_,sm,.tup e ((r1.append r2).same sm),q.2⟩⟩
  | _=>exact q.elim
 | _=>exact q.elim
theorem o_addS:OpD X (binaryOp .Add) (fun a b Q=>match a,b with | .str x,.str y=>x.length+y.length<=sizeLine/\Q (.str (x++y)) | _,_=>False):=OpD.of op_add_str fun x y H a b Q ra rb q=>by
 cases a with
 | str xs =>
  cases b with
  | str ys=>cases ra.str;cases rb.str;exact⟨_,_,rfl,rfl,q.1,.str _,Same.refl _,.str,q.2⟩
  | _=>exact q.elim
 | _=>exact q.elim
theorem o_add:OpD X (binaryOp .Add) gAdd:=⟨fun pins s σ H x y v u a b Q I rx ry ra rb q=>by
 cases a with
 | int i=>cases b with
  | int j=>exact(OpD.ii0 op_add).run pins s σ H x y v u _ _ Q I rx ry ra rb q
  | _=>exact q.elim
 | str i=>cases b with
  | str j=>exact o_addS.run pins s σ H x y v u _ _ Q I rx ry ra rb q
  | _=>exact q.elim
 | tuple i=>cases b with
  | tuple j=>exact o_catT.run pins s σ H x y v u _ _ Q I rx ry ra rb q
  | _=>exact q.elim
 | list i=>cases b with
  | list j=>exact f_cat.opD.run pins s σ H x y v u _ _ Q I rx ry ra rb q
  | _=>exact q.elim
 | _=>exact q.elim⟩
def gMul:DOp
 | .int i,.int j,Q=>CMul i j/\Q (.int (i * j))
 | .list xs,.int k,Q=>-(2 ^ 63)<=k/\k<2 ^ 63/\xs.length * k.toNat<=sizeLine/\Q (.list (List.replicate k.toNat xs).flatten)
 | _,_,_=>False
theorem o_mul:OpD X (binaryOp .Mult) gMul:=⟨fun pins s σ H x y v u a b Q I rx ry ra rb q=>by
 cases a with
 | int i=>cases b with
  | int j=>exact(OpD.ii op_mul).run pins s σ H x y v u _ _ Q I rx ry ra rb q
  | _=>exact q.elim
 | list i=>cases b with
  | int j=>exact f_rep.opD.run pins s σ H x y v u _ _ Q I rx ry ra rb q
  | _=>exact q.elim
 | _=>exact q.elim⟩
def gEq:DOp
 | .int i,.int j,Q=>Q (.bool (decide (i=j)))
 | .str i,.str j,Q=>Q (.bool (decide (i=j)))
 | .bool i,.bool j,Q=>Q (.bool (decide (i=j)))
 | a,b,Q=>Lay a/\Lay b/\Q (.bool (PyData.eqv a b))
def gNe:DOp
 | .int i,.int j,Q=>Q (.bool (!decide (i=j)))
 | .str i,.str j,Q=>Q (.bool (!decide (i=j)))
 | .bool i,.bool j,Q=>Q (.bool (!decide (i=j)))
 | a,b,Q=>Lay a/\Lay b/\Q (.bool (!PyData.eqv a b))
theorem o_eqG(hu:X.A.units+64<cLine):OpD X (compareOp .Eq) (fun a b Q=>Lay a/\Lay b/\Q (.bool (PyData.eqv a b))):=⟨fun pins s σ H x y v u a b Q I rx ry ra rb q=>by
 obtain⟨as,e1⟩:=ra.reads I rx q.1.can
 obtain⟨bs,e2⟩:=rb.reads I ry q.2.1.can
 exact eq_dataH e1 e2 q.1 q.2.1 hu ⟨.bl _,H,_,I,rfl,Same.refl _,.bl,q.2.2⟩⟩
theorem o_neG(hu:X.A.units+64<cLine):OpD X (compareOp .NotEq) (fun a b Q=>Lay a/\Lay b/\Q (.bool (!PyData.eqv a b))):=⟨fun pins s σ H x y v u a b Q I rx ry ra rb q=>by
 obtain⟨as,e1⟩:=ra.reads I rx q.1.can
 obtain⟨bs,e2⟩:=rb.reads I ry q.2.1.can
 exact ne_dataH e1 e2 q.1 q.2.1 hu ⟨.bl _,H,_,I,rfl,Same.refl _,.bl,q.2.2⟩⟩
theorem o_eqS{f:D->D->Bool}(neg:Bool)(op:CmpOp)(h:OpR X (compareOp op) (fun x y H Q=>scal x y=true/\Q (.bl (if neg then !decide (x=y) else decide (x=y))) H)):
  OpD X (compareOp op) (fun a b Q=>match a,b with
   | .int i,.int j=>Q (.bool (if neg then !decide (i=j) else decide (i=j)))
   | .str i,.str j=>Q (.bool (if neg then !decide (i=j) else decide (i=j)))
   | .bool i,.bool j=>Q (.bool (if neg then !decide (i=j) else decide (i=j)))
   | _,_=>False):=OpD.of h fun x y H a b Q ra rb q=>by
 cases a with
 | int i=>cases b with
  | int j =>
   cases ra.int;cases rb.int
   have e:decide (V.int i=V.int j)=decide (i=j):=by rw [Bool.eq_iff_iff];simp
   rw [e]
   exact⟨rfl,.bool _,Same.refl _,.bl,q⟩
  | _=>exact q.elim
 | str i=>cases b with
  | str j =>
   cases ra.str;cases rb.str
   have e:decide (V.str i=V.str j)=decide (i=j):=by rw [Bool.eq_iff_iff];simp
   rw [e]
   exact⟨rfl,.bool _,Same.refl _,.bl,q⟩
  | _=>exact q.elim
 | bool i=>cases b with
  | bool j =>
   cases ra.bool;cases rb.bool
   have e:decide (V.bl i=V.bl j)=decide (i=j):=by rw [Bool.eq_iff_iff];simp
   rw [e]
   exact⟨rfl,.bool _,Same.refl _,.bl,q⟩
  | _=>exact q.elim
 | _=>exact q.elim
theorem o_eq{k:Nat}(hr:Room k X.A):OpD X (compareOp .Eq) gEq:=⟨fun pins s σ H x y v u a b Q I rx ry ra rb q=>by
 have G:=(o_eqG (X:=X) hr.units).run pins s σ H x y v u a b Q I rx ry ra rb
 have S:=(o_eqS (X:=X) (f:=fun _ _=>true) false .Eq op_eq).run pins s σ H x y v u a b Q I rx ry ra rb
 cases a <;> cases b <;> first | exact S q | exact G q⟩
theorem o_ne{k:Nat}(hr:Room k X.A):OpD X (compareOp .NotEq) gNe:=⟨fun pins s σ H x y v u a b Q I rx ry ra rb q=>by
 have G:=(o_neG (X:=X) hr.units).run pins s σ H x y v u a b Q I rx ry ra rb
 have S:=(o_eqS (X:=X) (f:=fun _ _=>true) true .NotEq op_ne).run pins s σ H x y v u a b Q I rx ry ra rb
 cases a <;> cases b <;> first | exact S q | exact G q⟩
def inD(x:D)(ys:List D):Bool:=ys.any fun y=>PyData.eqv y x
def gIn(neg:Bool):DOp:=fun a b Q=>match b with
 | .list ys=>Lay a/\Lay (.list ys)/\Q (.bool (if neg then !inD a ys else inD a ys))
 | .tuple ys=>Lay a/\Lay (.tuple ys)/\Q (.bool (if neg then !inD a ys else inD a ys))
 | _=>False
theorem Lay.all{xs:List D}(h:Lay (.list xs)):PyData.canLayAll0 xs=true:=by simpa [PyData.canLay0] using h.can
theorem Lay.allT{xs:List D}(h:Lay (.tuple xs)):PyData.canLayAll0 xs=true:=by simpa [PyData.canLay0] using h.can
theorem o_in{k:Nat}(hr:Room k X.A):OpD X (compareOp .In) (gIn false):=⟨fun pins s σ H x y v u a b Q I rx ry ra rb q=>by
 have hu:=hr.un
 cases b with
 | list ys =>
  obtain⟨as,e1⟩:=ra.reads I rx q.1.can
  obtain⟨bs,e2⟩:=rb.reads I ry q.2.1.can
  have:=q.1.deep
  exact SeqAt.in_list_reads e2 e1 q.2.1.all q.1.can (by omega) ⟨.bl _,H,_,I,rfl,Same.refl _,.bl,q.2.2⟩
 | tuple ys =>
  obtain⟨as,e1⟩:=ra.reads I rx q.1.can
  obtain⟨bs,e2⟩:=rb.reads I ry q.2.1.can
  have:=q.1.deep
  exact SeqAt.in_tuple_reads e2 e1 q.2.1.allT q.1.can (by omega) ⟨.bl _,H,_,I,rfl,Same.refl _,.bl,q.2.2⟩
 | _=>exact q.elim⟩
theorem o_notIn{k:Nat}(hr:Room k X.A):OpD X (compareOp .NotIn) (gIn true):=⟨fun pins s σ H x y v u a b Q I rx ry ra rb q=>by
 have hu:=hr.un
 cases b with
 | list ys =>
  obtain⟨as,e1⟩:=ra.reads I rx q.1.can
  obtain⟨bs,e2⟩:=rb.reads I ry q.2.1.can
  have:=q.1.deep
  exact SeqAt.notIn_list_reads e2 e1 q.2.1.all q.1.can (by omega) ⟨.bl _,H,_,I,rfl,Same.refl _,.bl,q.2.2⟩
 | tuple ys =>
  obtain⟨as,e1⟩:=ra.reads I rx q.1.can
  obtain⟨bs,e2⟩:=rb.reads I ry q.2.1.can
  have:=q.1.deep
  exact SeqAt.notIn_tuple_reads e2 e1 q.2.1.allT q.1.can (by omega) ⟨.bl _,H,_,I,rfl,Same.refl _,.bl,q.2.2⟩
 | _=>exact q.elim⟩
end
structure CallD(X:Cx)(f:Value)(g:List D->(D->Prop)->Prop):Prop where
 run:∀(pins:List (Addr×Obj)) (s:Shared) (σ:St) (H:Hp) (vs:List V) (us:List Value) (ds:List D) (Q:D->Prop),Inv X pins σ H s->Vals vs us->RepTs X.K H ds vs->g ds Q->wpAny (model X.prog X.w) X.A (call f us) (DEnd X pins σ H Q) X.xe s
structure CallF(X:Cx)(f:Value)(g:List D->(List D->Prop)->Prop):Prop where
 run:∀(pins:List (Addr×Obj)) (s:Shared) (σ:St) (H:Hp) (vs:List V) (us:List Value) (ds:List D) (Q:List D->Prop),Inv X pins σ H s->Vals vs us->RepTs X.K H ds vs->g ds Q->wpAny (model X.prog X.w) X.A (call f us) (DEndF X pins σ H Q) X.xe s
def dCB(g:List D->(D->Prop)->Prop)(t:DTF):DTE:=fun σ Q=>t σ fun ds=>g ds Q
section
variable {X:Cx}{f:Value}{g:List D->(D->Prop)->Prop}{gf:List D->(List D->Prop)->Prop}{e:Expr}{es:List Expr}{t:DTF}{x:Str}{p pos:Pos}
theorem CallD.of{r:List V->Hp->VK->Prop}(h:CallR X f r)(k:∀ vs H ds Q,RepTs X.K H ds vs->g ds Q->r vs H (fun v H'=>∃ d,Same H H'/\Rep X.K H' d v/\Q d)):CallD X f g :=
 ⟨fun pins s σ H vs us ds Q I rv rd q=>thn (h pins s σ H vs us _ I rv (k vs H ds Q rd q)) fun w s' ⟨z,H',I',rz,d,sm,rp,qd⟩=>⟨z,H',d,I',rz,sm,rp,qd⟩⟩
theorem CallF.of{r:List V->Hp->VK->Prop}(h:CallR X f r)(k:∀ vs H ds Q,RepTs X.K H ds vs->gf ds Q->r vs H (fun v H'=>∃ p vs xs,v=.ref p/\Same H H'/\H p=none/\H' p=some (.lst vs)/\Reps X.K H' xs vs/\Q xs)):CallF X f gf :=
 ⟨fun pins s σ H vs us ds Q I rv rd q=>thn (h pins s σ H vs us _ I rv (k vs H ds Q rd q)) fun w s' ⟨z,H',I',rz,p,ws,xs,ez,sm,n,e,rp,qd⟩=>⟨p,H',ws,xs,by subst ez;exact rz,I',sm,n,e,rp,qd⟩⟩
theorem CallD.cr(h:CallD X f g):CallR X f (fun vs H Q=>∃ ds QD,RepTs X.K H ds vs/\g ds QD/\∀ v H' d,Same H H'->Rep X.K H' d v->QD d->Q v H') :=
 fun pins s σ H vs us Q I rv ⟨ds,QD,rd,q,k⟩=>thn (h.run pins s σ H vs us ds QD I rv rd q) fun w s' ⟨z,H',d,I',rz,sm,rp,qd⟩=>⟨z,H',I',rz,k z H' d sm rp qd⟩
theorem de_callB{id:String}(hc:CallD X (.builtin id) g)(hg:Gl X x)(hm:X.mg x=none)(hv:bootBuiltins x=some (.builtin id))(ha:DAv X (e::es) t)(hn:x ≠ "__name__" := by decide)(hdb:(x == ("__debug__" : Str))=false:=by decide)
  (he:starEach (e::es) X.env=(false,eval e X.env)::starEach es X.env:=by rfl) (hpl:(backTo pos (starEach es X.env)).any (·.1)=false:=by rfl):DE X (.Call (.Name x p) (e::es) [] pos) (dCB g t) :=
 DE.of (pe_callB hc.cr hg hm hv ha.pa hn hdb he hpl) fun σ H H₀ σD QD ok q=>⟨H₀,σD,_,ok,q,fun vs H1 ds s1 r1 q1=>⟨ds,_,r1,q1,fun v H' d s2 rp qd=>⟨d,s1.trans s2,rp,qd⟩⟩⟩
theorem de_callTy{id:String}(hc:CallD X (.type id) g)(hg:Gl X x)(hm:X.mg x=none)(hv:bootBuiltins x=some (.type id))(ha:DAv X (e::es) t)(hn:x ≠ "__name__" := by decide)(hdb:(x == ("__debug__" : Str))=false:=by decide)
  (he:starEach (e::es) X.env=(false,eval e X.env)::starEach es X.env:=by rfl) (hpl:(backTo pos (starEach es X.env)).any (·.1)=false:=by rfl):DE X (.Call (.Name x p) (e::es) [] pos) (dCB g t) :=
 DE.of (pe_callTy hc.cr hg hm hv ha.pa hn hdb he hpl) fun σ H H₀ σD QD ok q=>⟨H₀,σD,_,ok,q,fun vs H1 ds s1 r1 q1=>⟨ds,_,r1,q1,fun v H' d s2 rp qd=>⟨d,s1.trans s2,rp,qd⟩⟩⟩
theorem RepTs.one{K:PySem.W.Frag}{H:Hp}{d:D}{vs:List V}(h:RepTs K H [d] vs):∃ v,vs = [v]/\RepT K H d v:=by
 cases h with
 | cons r t=>cases t;exact⟨_,rfl,r⟩
theorem RepTs.two{K:PySem.W.Frag}{H:Hp}{d e:D}{vs:List V}(h:RepTs K H [d,e] vs):∃ v w,vs = [v,w]/\RepT K H d v/\RepT K H e w:=by
 cases h with
 | cons r t=>cases t with
  | cons r2 t=>cases t;exact⟨_,_,rfl,r,r2⟩
def gLen:List D->(D->Prop)->Prop
 | [.str x],Q=>x.length<=sizeLine/\Q (.int x.length)
 | [.list xs],Q=>Q (.int xs.length)
 | [.tuple xs],Q=>Q (.int xs.length)
 | _,_=>False
theorem c_len:CallD X (.builtin "len") gLen:=CallD.of call_len fun vs H ds Q rd q=>by
 match ds,q,rd with
 | [.str x],q,rd =>
  obtain⟨v,rfl,r⟩:=rd.one
  cases r.str
  exact⟨_,x.length,rfl,⟨q.1,rfl⟩,_,Same.refl _,.int,q.2⟩
 | [.list xs],q,rd =>
  obtain⟨v,rfl,r⟩:=rd.one
  obtain⟨a,vs,rfl,h,r⟩:=r.list.sq
  exact⟨_,xs.length,rfl,.inl ⟨vs,h,r.length⟩,_,Same.refl _,.int,q⟩
 | [.tuple xs],q,rd =>
  obtain⟨v,rfl,r⟩:=rd.one
  obtain⟨a,vs,rfl,h,r⟩:=r.tuple
  exact⟨_,xs.length,rfl,.inr ⟨vs,h,r.length⟩,_,Same.refl _,.int,q⟩
def gMax:List D->(D->Prop)->Prop
 | [.int i,.int j],Q=>Q (.int (max i j))
 | _,_=>False
theorem c_max(hc:X.calm=true):CallD X (.builtin "max") gMax:=CallD.of (call_max2 hc) fun vs H ds Q rd q=>by
 match ds,q,rd with
 | [.int i,.int j],q,rd =>
  obtain⟨v,w,rfl,r1,r2⟩:=rd.two
  cases r1.int
  cases r2.int
  refine⟨i,j,rfl,_,Same.refl _,.int,?_⟩
  have e:(if j > i then j else i)=max i j:=by split <;> omega
  rw [e]
  exact q
def gInt:List D->(D->Prop)->Prop
 | [.int i],Q=>Q (.int i)
 | [.bool b],Q=>Q (.int (if b then 1 else 0))
 | _,_=>False
theorem c_int:CallD X (.type "int") gInt:=CallD.of call_int1 fun vs H ds Q rd q=>by
 match ds,q,rd with
 | [.int i],q,rd =>
  obtain⟨v,rfl,r⟩:=rd.one
  cases r.int
  exact .inl ⟨i,rfl,_,Same.refl _,.int,q⟩
 | [.bool i],q,rd =>
  obtain⟨v,rfl,r⟩:=rd.one
  cases r.bool
  exact .inr ⟨i,rfl,_,Same.refl _,.int,q⟩
def gTuple:List D->(D->Prop)->Prop
 | [.list xs],Q=>Q (.tuple xs)
 | [.tuple xs],Q=>Q (.tuple xs)
 | _,_=>False
theorem c_tuple:CallD X (.type "tuple") gTuple:=CallD.of call_tuple_of fun vs H ds Q rd q=>by
 match ds,q,rd with
 | [.list xs],q,rd =>
  obtain⟨v,rfl,r⟩:=rd.one
  obtain⟨a,vs,rfl,h,r⟩:=r.list.sq
  exact⟨a,vs,rfl,.inl ⟨h,fun l hl=>⟨_,same_new hl _,.tup (SqT.of upd_same) (r.same (same_new hl _)),q⟩⟩⟩
 | [.tuple xs],q,rd =>
  obtain⟨v,rfl,r⟩:=rd.one
  obtain⟨a,vs,rfl,h,r⟩:=r.tuple
  exact⟨a,vs,rfl,.inr ⟨h,_,Same.refl _,.tup h r,q⟩⟩
def boolsD:List D->Option (List Bool)
 | []=>some []
 | .bool i::r=>(boolsD r).map (i :: ·)
 | _::_=>none
theorem boolsD_map(ns:List Bool):boolsD (ns.map PyData.bool)=some ns:=by
 induction ns with
 | nil=>rfl
 | cons n ns ih=>simp [boolsD,ih]
theorem boolsD_rep{K:PySem.W.Frag}{H:Hp}:∀{xs:List D} {vs:List V} {ns:List Bool},Reps K H xs vs->boolsD xs=some ns->vs=ns.map V.bl
 | [],_,ns,r,e=>by cases r;simp [boolsD] at e;subst e;rfl
 | x::xs,_,ns,r,e=>by
  cases r with
  | cons r t =>
   cases x with
   | bool i =>
    simp only [boolsD,Option.map_eq_some_iff] at e
    obtain⟨ms,e1,rfl⟩:=e
    cases r
    rw [boolsD_rep t e1]
    rfl
   | _=>simp [boolsD] at e
def gAll:List D->(D->Prop)->Prop
 | [.list xs],Q=>∃ ns,boolsD xs=some ns/\Q (.bool (ns.all id))
 | _,_=>False
theorem c_all(hc:X.calm=true):CallD X (.builtin "all") gAll:=CallD.of (call_all hc) fun vs H ds Q rd q=>by
 match ds,q,rd with
 | [.list xs],q,rd =>
  obtain⟨v,rfl,r⟩:=rd.one
  obtain⟨a,vs,rfl,h,r⟩:=r.list.sq
  obtain⟨ns,e,q⟩:=q
  cases boolsD_rep r e
  exact⟨a,ns,rfl,h,_,Same.refl _,.bl,q⟩
def isD:String->D->Bool
 | "int",.int _=>true
 | "int",.bool _=>true
 | "bool",.bool _=>true
 | "str",.str _=>true
 | "list",.list _=>true
 | "tuple",.tuple _=>true
 | "dict",.dict _=>true
 | _,_=>false
def tyD:D->String
 | .none => "NoneType"
 | .bool _ => "bool"
 | .int _ => "int"
 | .str _ => "str"
 | .list _ => "list"
 | .tuple _ => "tuple"
 | .dict _ => "dict"
theorem isinst_rep{pins:List (Addr×Obj)}{σ:St}{H:Hp}{s:Shared}{A:Around}{E:Value->Shared->Prop}{Q:Value->Shared->Prop}{c:Value}{b:Bool}{d:D}{v:V}{u:Value}(I:Inv X pins σ H s)(rp:RepT X.K H d v)(ru:RelV v u)(e:PySem.W.kitOne X.K (.type (tyD d)) c=some b)
  (h:∀ tk,Q (.bool b) { s with toks:=tk }):wpAny (model X.prog X.w) A (call (.builtin "isinstance") [u,c]) Q E s:=by
 rcases rp with rp | ⟨xs,rfl,a,vs,rfl,hr,_⟩
 ·cases rp with
  | non=>cases ru;exact PySem.W.kia_one PySem.W.kitx_none I.kIn True.intro e (fun z=>nomatch z) h
  | bl=>cases ru;exact PySem.W.kia_one PySem.W.kitx_bool I.kIn True.intro e (fun z=>nomatch z) h
  | int=>obtain⟨t,rfl⟩:=ru;exact PySem.W.kia_one PySem.W.kitx_int I.kIn True.intro e (fun z=>nomatch z) h
  | str=>obtain⟨t,rfl⟩:=ru;exact PySem.W.kia_one PySem.W.kitx_str I.kIn True.intro e (fun z=>nomatch z) h
  | tup q r =>
   cases ru
   obtain⟨its,_,⟨o,h1,h2,_⟩,_⟩:=I.tuple q
   exact PySem.W.kia_one PySem.W.kitx_tuple I.kIn ⟨o,h1,h2⟩ e (fun z=>nomatch z) h
  | lst q r =>
   cases ru
   obtain⟨_,_,_,n,_,h1⟩:=I.hok _ _ q
   exact PySem.W.kia_one PySem.W.kitx_list I.kIn ⟨_,h1,rfl⟩ e (fun z=>nomatch z) h
  | dic q r =>
   cases ru
   obtain⟨_,_,_,vs,_,o,es,ep,h1,h2,_⟩:=I.hok _ _ q
   exact PySem.W.kia_one PySem.W.kitx_dict I.kIn ⟨o,h1,h2.1⟩ e (fun z=>nomatch z) h
 ·cases ru
  obtain⟨_,_,n,_,h1⟩:=hr.ok I.hok
  exact PySem.W.kia_one PySem.W.kitx_list I.kIn ⟨_,h1,rfl⟩ e (fun z=>nomatch z) h
def dIs(n:String)(t:DTE):DTE:=fun σ Q=>t σ fun d=>Q (.bool (isD n d))
theorem de_isT{n:String}{ta:DTE}{x2:Str}{p2:Pos}(hk:∀ d:D,PySem.W.kitOne X.K (.type (tyD d)) (.type n)=some (isD n d))(hg:Gl X "isinstance")(hm:X.mg "isinstance" = none)(hv:bootBuiltins "isinstance" = some (.builtin "isinstance"))(ha:DV X e ta)
  (hg2:Gl X x2) (hm2:X.mg x2=none) (hv2:bootBuiltins x2=some (.type n)) (hn2:x2 ≠ "__name__" := by decide) (hdb2:(x2 == ("__debug__" : Str))=false:=by decide)
  (he:starEach (e :: [.Name x2 p2]) X.env=(false,eval e X.env)::starEach [.Name x2 p2] X.env:=by rfl) (he2:starEach [.Name x2 p2] X.env=(false,eval (.Name x2 p2) X.env)::starEach [] X.env:=by rfl) (hpl:(backTo pos (starEach [.Name x2 p2] X.env)).any (·.1)=false:=by rfl):DE X (.Call (.Name "isinstance" p) [e,.Name x2 p2] [] pos) (dIs n ta):=by
 have hc:CallR X (.builtin "isinstance") (fun vs H Q=>∃ d v,vs = [v,.ty n]/\RepT X.K H d v/\Q (.bl (isD n d)) H):=fun pins s σ H xs us Q I rv ⟨d,v,e,r,q⟩=>by
  subst e
  obtain⟨u,w,rfl,r1,r2⟩:=rv.two
  cases r2
  exact isinst_rep I r r1 (hk d) fun tk=>⟨.bl (isD n d),H,I.tok tk,rfl,q⟩
 refine DE.of (pe_callB hc hg hm hv (pa_cons ha.pe (pa_cons (pe_bltn (v:=.ty n) hg2 hm2 hv2 rfl hn2 hdb2) pa_nil he2) he) (by decide) (by decide) he hpl) fun σ H H₀ σD QD ok q=>?_
 exact⟨H₀,σD,_,ok,q,fun v H1 d s1 r1 q1=>⟨d,v,rfl,r1,_,s1,.bl,q1⟩⟩
theorem k_int{K:PySem.W.Frag}(d:D):PySem.W.kitOne K (.type (tyD d)) (.type "int")=some (isD "int" d):=by cases d <;> rfl
theorem k_bool{K:PySem.W.Frag}(d:D):PySem.W.kitOne K (.type (tyD d)) (.type "bool")=some (isD "bool" d):=by cases d <;> rfl
theorem k_tuple{K:PySem.W.Frag}(d:D):PySem.W.kitOne K (.type (tyD d)) (.type "tuple")=some (isD "tuple" d):=by cases d <;> rfl
variable {a b:Expr}{ta tb:DTE}
def gIx:DOp
 | .list xs,.int i,Q=>∃ d,atI xs i=some d/\Q d
 | .tuple xs,.int i,Q=>∃ d,atI xs i=some d/\Q d
 | .str x,.int i,Q=>x.length<=sizeLine/\∃ c,atI x.cps.toList i=some c/\Q (.str ⟨#[c]⟩)
 | _,_,_=>False
theorem atI_rep{K:PySem.W.Frag}{H:Hp}{xs:List D}{vs:List V}{i:Int}{d:D}(r:Reps K H xs vs)(h:atI xs i=some d):∃ v,atI vs i=some v/\Rep K H d v:=by
 unfold atI at h ⊢
 rw [<-r.length]
 cases e:ixN xs.length i with
 | none=>rw [e] at h;cases h
 | some j =>
  rw [e] at h
  exact r.get h
theorem de_ix(ha:DV X a ta)(hb:DE X b tb)(hs:PlainIx b):DE X (.Subscript a b pos) (dOp gIx ta tb) :=
 DE.of (pe_ix ix_seq ha.pe hb.pe hs) fun σ H H₀ σD QD ok q=>⟨H₀,σD,_,ok,q,fun v H1 d s1 r1 q1=>⟨H₀,σD,_,ok.after s1,q1,fun w H2 d2 s2 r2 q2=>by
  have r1:=r1.same s2
  have sm:=s1.trans s2
  cases d2 with
  | int i =>
   cases r2
   cases d with
   | list xs =>
    obtain⟨l,vs,rfl,hl,r⟩:=r1.list.sq
    obtain⟨d,e,q⟩:=q2
    obtain⟨x,e1,e2⟩:=atI_rep r e
    exact .inl ⟨l,vs,i,x,rfl,rfl,hl,e1,d,sm,e2,q⟩
   | tuple xs =>
    obtain⟨l,vs,rfl,hl,r⟩:=r1.tuple
    obtain⟨d,e,q⟩:=q2
    obtain⟨x,e1,e2⟩:=atI_rep r e
    exact .inr (.inl ⟨l,vs,i,x,rfl,rfl,hl,e1,d,sm,e2,q⟩)
   | str x =>
    cases r1.str
    obtain⟨hz,c,e,q⟩:=q2
    exact .inr (.inr ⟨x,i,c,rfl,rfl,hz,e,_,sm,.str,q⟩)
   | _=>exact q2.elim
  | _=>cases d <;> exact q2.elim⟩⟩
abbrev DTO:=DSt->(Option Int->Prop)->Prop
structure DO(X:Cx)(e:Option Expr)(t:DTO):Prop where
 po:PO X e (fun σ H Q=>∃ H₀ σD QD,DOk X.K H₀ H σD σ/\t σD QD/\∀ o H',Same H H'->QD o->Q o H')
def dNoPart:DTO:=fun _ Q=>Q none
def dPart(t:DTE):DTO:=fun σ Q=>t σ fun d=>match d with
 | .int i=>Q (some i)
 | _=>False
theorem do_none:DO X none dNoPart:=⟨fun pins s σ H Q I ⟨H₀,σD,QD,ok,q,k⟩=>po_none pins s σ H Q I (k none H (Same.refl _) q)⟩
theorem do_some(h:DE X a ta):DO X (some a) (dPart ta):=⟨fun pins s σ H Q I ⟨H₀,σD,QD,ok,q,k⟩=>po_some h.pe pins s σ H Q I ⟨H₀,σD,_,ok,q,fun v H1 d s1 r1 q1=>by
 cases d with
 | int i=>cases r1;exact⟨i,rfl,k _ _ s1 q1⟩
 | _=>exact q1.elim⟩⟩
def sliceD(xs:List D)(lo hi:Option Int):List D:=(xs.drop (HT.sIx xs.length 0 lo)).take (HT.sIx xs.length xs.length hi-HT.sIx xs.length 0 lo)
theorem Reps.cut{K:PySem.W.Frag}{H:Hp}{xs:List D}{vs:List V}(r:Reps K H xs vs)(lo hi:Option Int):Reps K H (sliceD xs lo hi) (cutV vs lo hi):=by
 unfold sliceD cutV
 rw [<-r.length]
 exact(r.drop _).take _
variable {lo hi:Option Expr}{tl th:DTO}{p2:Pos}
theorem sl_tupS:SlR X (fun x lo hi H Q=>∃ a xs,x=.ref a/\SqT X.K H a xs/\∀ p H',Same H H'->SqT X.K H' p (cutV xs lo hi)->Q (.ref p) H'):=by
 intro pins s σ H x v vl vu lo hi sl Q I rx hs pl pu h
 obtain⟨a,xs,rfl,hx,q⟩:=h
 by_cases hw:HT.sIx xs.length 0 lo=0/\HT.sIx xs.length xs.length hi=xs.length
 ·cases rx
  obtain⟨its,r,ht,hz⟩:=I.tuple hx
  have hlen:its.toArray.size=xs.length:=by rw [List.size_toArray];exact r.length.symm
  refine⟨"tuple",_,PyProof.Rows.slot_tuple_getitem.lookup,ht.typeIs,tup_whole ht hs pl pu (by rw [hlen];exact hw.1) (by rw [hlen];exact hw.2) ⟨.ref a,H,I,rfl,q a H (Same.refl H) ?_⟩⟩
  unfold cutV
  rw [hw.1,hw.2,List.drop_zero,Nat.sub_zero,List.take_length]
  exact hx
 ·exact sl_tup pins s σ H (.ref a) v vl vu lo hi sl Q I rx hs pl pu ⟨a,xs,rfl,hx,hw,fun p hp=>q p _ (same_new hp _) (SqT.of upd_same)⟩
def dSl(te:DTE)(tl th:DTO):DTE:=fun σ Q=>te σ fun d=>tl σ fun l=>th σ fun u=>match d with
 | .list xs=>Q (.list (sliceD xs l u))
 | .tuple xs=>Q (.tuple (sliceD xs l u))
 | _=>False
theorem de_slice(he:DV X e ta)(hl:DO X lo tl)(hu:DO X hi th):DE X (.Subscript e (.Slice lo hi none p2) pos) (dSl ta tl th):=⟨fun pins s σ H H₀ σD Q I ok q=>by
 refine thn (pe_slice (SlR.or sl_list sl_tupS) he.pe hl.po hu.po pins s σ H (fun v H'=>(∃ d,Same H H'/\Rep X.K H' d v/\Q d)\/∃ p vs xs,v=.ref p/\Same H H'/\H p=none/\H' p=some (.lst vs)/\Reps X.K H' xs vs/\Q (.list xs)) I ?_) fun u s' ⟨v,H',I',r,z⟩=>?_
 ·exact⟨H₀,σD,_,ok,q,fun v H1 d s1 r1 q1=>⟨H₀,σD,_,ok.after s1,q1,fun l H2 s2 q2=>⟨H₀,σD,_,(ok.after s1).after s2,q2,fun u H3 s3 q3=>by
   cases d with
   | list xs =>
    obtain⟨b,vs,rfl,hb,r⟩:=((r1.same s2).same s3).list.sq
    exact .inl ⟨b,vs,rfl,hb,fun p hp=>.inr ⟨p,_,_,rfl,((s1.trans s2).trans s3).trans (same_new hp _),((s1.trans s2).trans s3).free hp,upd_same,(r.cut l u).same (same_new hp _),q3⟩⟩
   | tuple xs =>
    obtain⟨b,vs,rfl,hb,r⟩:=((r1.same s2).same s3).tuple
    exact .inr ⟨b,vs,rfl,hb,fun p H4 s4 e4=>.inl ⟨_,((s1.trans s2).trans s3).trans s4,.tup e4 ((r.cut l u).same s4),q3⟩⟩
   | _=>exact q3.elim⟩⟩⟩
 ·rcases z with⟨d,sm,rp,qd⟩ | ⟨p,vs,xs,rfl,sm,n,e,rp,qd⟩
  ·exact⟨v,H',d,I',r,sm,rp,qd⟩
  ·obtain⟨H'',J,sm',r'⟩:=freeze I' sm n e rp
   exact⟨.ref p,H'',.list xs,J,r,sm',r',qd⟩⟩
def dScrSl(i:Nat)(tl th:DTO):DTF:=fun σ Q=>match σ[i]? with
 | some (some (.scr ns))=>tl σ fun l=>th σ fun u=>Q ((sliceD (ns.map PyData.int) l u))
 | _=>False
theorem df_scr(i:Nat){x:Str}{pos':Pos}(hl:DO X lo tl)(hu:DO X hi th)(hN:X.N[i]?=some x:=by rfl)(hv:Vis X.env.scope x:=by first | exact Or.inl rfl | exact Or.inr (Or.inl rfl) | exact Or.inr (Or.inr rfl))(hd:(x == ("__debug__" : Str))=false:=by decide)
  (hcd:(x == ("__classdict__" : Str))=false:=by decide):DF X (.Subscript (.Name x pos') (.Slice lo hi none p2) pos) (dScrSl i tl th) :=
 DF.of (pe_slice sl_list (pe_var (i:=i) hN hv hd hcd) hl.po hu.po) fun σ H H₀ σD QD ok q=>by
  unfold dScrSl at q
  split at q
  ·next ns e =>
   obtain⟨b,e1,hb⟩:=ok.scr e
   exact⟨_,e1,H₀,σD,_,ok,q,fun l H2 s2 q2=>⟨H₀,σD,_,ok.after s2,q2,fun u H3 s3 q3=>⟨b,_,rfl,s3.seq (s2.seq hb),fun p hp=>⟨p,_,_,rfl,(s2.trans s3).trans (same_new hp _),(s2.trans s3).free hp,upd_same,Reps.ints.cut l u,q3⟩⟩⟩⟩
  ·exact q.elim
def dScrLen(i:Nat):DTE:=fun σ Q=>match σ[i]? with
 | some (some (.scr ns))=>Q (.int ns.length)
 | _=>False
theorem de_scrLen(i:Nat){x:Str}{pos':Pos}(hg:Gl X "len")(hm:X.mg "len" = none)(hN:X.N[i]?=some x:=by rfl)(hv:Vis X.env.scope x:=by first | exact Or.inl rfl | exact Or.inr (Or.inl rfl) | exact Or.inr (Or.inr rfl))(hd:(x == ("__debug__" : Str))=false:=by decide)
  (hcd:(x == ("__classdict__" : Str))=false:=by decide):DE X (.Call (.Name "len" p) [.Name x pos'] [] pos) (dScrLen i) :=
 DE.of (pe_callB call_len_seq hg hm PySem.boot_len (pa_cons (pe_var (i:=i) hN hv hd hcd) pa_nil)) fun σ H H₀ σD QD ok q=>by
  unfold dScrLen at q
  split at q
  ·next ns e =>
   obtain⟨b,e1,hb⟩:=ok.scr e
   exact⟨_,e1,b,_,rfl,.inl hb,_,Same.refl _,.int,by rw [List.length_map];exact q⟩
  ·exact q.elim
def dScrIx(i:Nat)(tb:DTE):DTE:=fun σ Q=>match σ[i]? with
 | some (some (.scr ns))=>tb σ fun d=>match d with
  | .int k=>∃ n,atI ns k=some n/\Q (.int n)
  | _=>False
 | _=>False
theorem atI_map{α β:Type}(f:α->β)(xs:List α)(i:Int):atI (xs.map f) i=(atI xs i).map f:=by
 unfold atI
 rw [List.length_map]
 cases ixN xs.length i with
 | none=>rfl
 | some j=>simp
theorem de_scrIx(i:Nat){x:Str}{pos':Pos}(hb:DE X b tb)(hs:PlainIx b)(hN:X.N[i]?=some x:=by rfl)(hv:Vis X.env.scope x:=by first | exact Or.inl rfl | exact Or.inr (Or.inl rfl) | exact Or.inr (Or.inr rfl))(hd:(x == ("__debug__" : Str))=false:=by decide)
  (hcd:(x == ("__classdict__" : Str))=false:=by decide):DE X (.Subscript (.Name x pos') b pos) (dScrIx i tb) :=
 DE.of (pe_ix ix_list (pe_var (i:=i) hN hv hd hcd) hb.pe hs) fun σ H H₀ σD QD ok q=>by
  unfold dScrIx at q
  split at q
  ·next ns e =>
   obtain⟨b,e1,hb⟩:=ok.scr e
   refine⟨_,e1,H₀,σD,_,ok,q,fun w H2 d2 s2 r2 q2=>?_⟩
   cases d2 with
   | int k =>
    cases r2
    obtain⟨n,en,q⟩:=q2
    exact⟨b,_,k,.int n,rfl,rfl,s2.seq hb,by rw [atI_map,en];rfl,_,s2,.int,q⟩
   | _=>exact q2.elim
  ·exact q.elim
end
structure ItOk(K:PySem.W.Frag)(Kp:Hp->Hp->Prop)(J:It)(H1:Hp)(ds:List D):Prop where
 go:∀ H i d,Kp H1 H->ds[i]?=some d->J.go i H/\∀ x H',J.yld i H x H'->Same H H'/\Rep K H' d x
 stop:∀ H,Kp H1 H->J.stop ds.length H
theorem ItOk.weak{K:PySem.W.Frag}{J:It}{H1:Hp}{ds:List D}(h:ItOk K Pers J H1 ds):ItOk K Same J H1 ds:=⟨fun H i d s=>h.go H i d s.pers,fun H s=>h.stop H s.pers⟩
def cnI(K:PySem.W.Frag)(Kp:Hp->Hp->Prop)(t:DTF):TI:=fun σ H R=>∃ H₀ σD QD,DOk K H₀ H σD σ/\t σD QD/\∀ J H1 ds,Same H H1->ItOk K Kp J H1 ds->QD ds->R J H1
structure DI(X:Cx)(tg iter:Expr)(t:DTF):Prop where
 pi:PI X tg iter (cnI X.K Pers t)
structure DIw(X:Cx)(tg iter:Expr)(t:DTF):Prop where
 pi:PI X tg iter (cnI X.K Same t)
section
variable {X:Cx}{tg iter e:Expr}{t:DTF}{te:DTE}{p pos:Pos}
theorem DI.w(h:DI X tg iter t):DIw X tg iter t:=⟨fun pins s σ H R I ⟨H₀,σD,QD,ok,q,k⟩=>h.pi pins s σ H R I ⟨H₀,σD,QD,ok,q,fun J H1 ds s1 o qd=>k J H1 ds s1 o.weak qd⟩⟩
theorem pi_seq{l:Expr}{tl:TE}(hl:PE X l tl):PI X tg l (fun σ H R=>tl σ H fun x H1=>(∃ a xs,x=.ref a/\SqL X.K H1 a xs/\R (Itl X.K a) H1)\/∃ a xs,x=.ref a/\SqT X.K H1 a xs/\R (Itt X.K a) H1):=by
 intro pins s σ H R I h
 refine thn (hl pins s σ H _ I h) fun v s1 ⟨x,H1,I1,r1,q1⟩=>?_
 rcases q1 with⟨a,xs,e,hq,q⟩ | ⟨a,xs,e,hq,q⟩
 ·subst e
  cases r1
  obtain⟨its,rv,p,hz⟩:=I1.list hq
  refine wpAny_pyIter_list p.isList ?_
  refine⟨s1.heap.objs.size,[s1.heap.objs.size],_,_,H1,rfl,I1.kept (t':=s1.toks) fun b o e=>Heap.get?_push_of_some _ e,turn_list a _,⟨_,Heap.get?_push_size _ rfl,rfl,rfl⟩,fun b hb=>?_,q⟩
  have e:b=s1.heap.objs.size:=by simpa using hb
  subst e
  exact I1.fpOk (Nat.le_refl _) (I1.hok.fresh (Nat.le_refl _))
 ·subst e
  cases r1
  obtain⟨its,rv,p,hz⟩:=I1.tuple hq
  refine wpAny_pyIter_tuple (show s1.heap.IsTuple a its.toArray from p) ?_
  refine⟨s1.heap.objs.size,[s1.heap.objs.size],_,_,H1,rfl,I1.kept (t':=s1.toks) fun b o e=>Heap.get?_push_of_some _ e,turn_tuple a _,⟨_,Heap.get?_push_size _ rfl,rfl,rfl⟩,fun b hb=>?_,q⟩
  have e:b=s1.heap.objs.size:=by simpa using hb
  subst e
  exact I1.fpOk (Nat.le_refl _) (I1.hok.fresh (Nat.le_refl _))
def dSeqI(te:DTE):DTF:=fun σ Q=>te σ fun d=>match d with
 | .list xs=>Q xs
 | .tuple xs=>Q xs
 | _=>False
theorem itl_ok{K:PySem.W.Frag}{Kp:Hp->Hp->Prop}{H1:Hp}{a:Addr}{xs:List D}{vs:List V}(kp:∀ H,Kp H1 H->SqL K H a vs/\Reps K H xs vs):ItOk K Kp (Itl K a) H1 xs where
 go:=fun H i d k e=>by
  obtain⟨hs,r⟩:=kp H k
  obtain⟨v,e1,r1⟩:=r.get e
  refine⟨⟨vs,v,hs,e1⟩,fun x H' y=>?_⟩
  obtain⟨rfl,y⟩:=y
  have:=y vs hs
  rw [e1] at this
  cases this
  exact⟨Same.refl _,r1⟩
 stop:=fun H k=>by
  obtain⟨hs,r⟩:=kp H k
  exact⟨vs,hs,by rw [r.length];exact Nat.le_refl _⟩
theorem itt_ok{K:PySem.W.Frag}{Kp:Hp->Hp->Prop}{H1:Hp}{a:Addr}{xs:List D}{vs:List V}(kp:∀ H,Kp H1 H->SqT K H a vs/\Reps K H xs vs):ItOk K Kp (Itt K a) H1 xs where
 go:=fun H i d k e=>by
  obtain⟨hs,r⟩:=kp H k
  obtain⟨v,e1,r1⟩:=r.get e
  refine⟨⟨vs,v,hs,e1⟩,fun x H' y=>?_⟩
  obtain⟨rfl,y⟩:=y
  have:=y vs hs
  rw [e1] at this
  cases this
  exact⟨Same.refl _,r1⟩
 stop:=fun H k=>by
  obtain⟨hs,r⟩:=kp H k
  exact⟨vs,hs,by rw [r.length];exact Nat.le_refl _⟩
theorem Pers.sqF{K:PySem.W.Frag}{H H':Hp}{a:Addr}{o:Obj}{vs:List V}(p:Pers H H')(h:H a=some (.frz o (.lst vs))):SqL K H' a vs:=.inl (.inr ⟨o,p _ _ h rfl⟩)
theorem di_seq(h:DE X e te):DI X tg e (dSeqI te):=⟨fun pins s σ H R I ⟨H₀,σD,QD,ok,q,k⟩=>pi_seq h.pe pins s σ H R I ⟨H₀,σD,_,ok,q,fun v H1 d s1 r1 q1=>by
 cases d with
 | list xs =>
  cases r1 with
  | lst hf r=>exact .inl ⟨_,_,rfl,.inl (.inr ⟨_,hf⟩),k _ _ xs s1 (itl_ok fun H' pr=>⟨pr.sqF hf,r.mono pr⟩) q1⟩
 | tuple xs =>
  cases r1 with
  | tup hf r=>exact .inr ⟨_,_,rfl,hf,k _ _ xs s1 (itt_ok fun H' pr=>⟨pr.sqT hf,r.mono pr⟩) q1⟩
 | _=>exact q1.elim⟩⟩
theorem RepL.sq'{K:PySem.W.Frag}{H H':Hp}{a:Addr}{vs:List V}(s:Same H H')(h:Rd H a (.lst vs)):SqL K H' a vs:=by
 rcases h with h | ⟨o,h⟩
 ·exact .inl (.inl (s _ _ h))
 ·exact .inl (.inr ⟨o,s _ _ h⟩)
theorem diw_seq(h:DV X e te):DIw X tg e (dSeqI te):=⟨fun pins s σ H R I ⟨H₀,σD,QD,ok,q,k⟩=>pi_seq h.pe pins s σ H R I ⟨H₀,σD,_,ok,q,fun v H1 d s1 r1 q1=>by
 cases d with
 | list xs =>
  obtain⟨a,vs,rfl,hf,r⟩:=r1.list
  exact .inl ⟨_,_,rfl,.inl hf,k _ _ xs s1 (itl_ok fun H' pr=>⟨RepL.sq' pr hf,r.same pr⟩) q1⟩
 | tuple xs =>
  obtain⟨a,vs,rfl,hf,r⟩:=r1.tuple
  exact .inr ⟨_,_,rfl,hf,k _ _ xs s1 (itt_ok fun H' pr=>⟨pr.pers.sqT hf,r.same pr⟩) q1⟩
 | _=>exact q1.elim⟩⟩
def rangeD(lo:Int)(n:Nat):List D:=(List.range n).map fun i=>.int (lo+(i:Nat))
theorem itr_ok{K:PySem.W.Frag}{Kp:Hp->Hp->Prop}{H1:Hp}(lo:Int)(n:Nat):ItOk K Kp (Itr lo n) H1 (rangeD lo n) where
 go:=fun H i d k e=>by
  have hi:i<n:=by have:=(List.getElem?_eq_some_iff.mp e).1;simpa [rangeD] using this
  refine⟨hi,fun x H' y=>?_⟩
  obtain⟨rfl,rfl⟩:=y
  refine⟨Same.refl _,?_⟩
  simp [rangeD,List.getElem?_map,List.getElem?_range hi] at e
  subst e
  exact .int
 stop:=fun H k=>by
  show n<=(rangeD lo n).length
  simp [rangeD]
def dRange1(ta:DTF):DTF:=fun σ Q=>ta σ fun ds=>match ds with
 | [.int j]=>(-(2 ^ 62)<=j/\j<2 ^ 62)/\Q (rangeD 0 j.toNat)
 | _=>False
variable {a b:Expr}
theorem di_range1(hg:Gl X "range")(hm:X.mg "range" = none)(ha:DA X [a] t)(hs:starEach [a] X.env = [(false,eval a X.env)]:=by rfl):DI X tg (.Call (.Name "range" p) [a] [] pos) (dRange1 t) :=
 ⟨fun pins s σ H R I ⟨H₀,σD,QD,ok,q,k⟩=>pi_range1 hg hm ha.pa hs pins s σ H R I ⟨H₀,σD,_,ok,q,fun vs H1 ds s1 r1 q1=>by
  match ds,r1,q1 with
  | [.int j],r1,q1 =>
   cases r1 with
   | cons r t =>
    cases t
    cases r
    exact⟨j,rfl,q1.1.1,q1.1.2,k _ _ _ s1 (itr_ok 0 j.toNat) q1.2⟩⟩⟩
def zipD(xs ys:List D):List D:=List.zipWith (fun a b=>.tuple [a,b]) xs ys
theorem pi_zipX{elts:List Expr}{x1}{tpos:Pos}{ta:TA}(hg:Gl X "zip")(hm:X.mg "zip" = none)(ha:PA X [a,b] ta)(hb:bootBuiltins "zip" = some (.type "zip"):=by first | exact boot_zip | rfl | decide +kernel)(hs:starEach [a,b] X.env = [(false,eval a X.env),(false,eval b X.env)]:=by rfl)(hs2:starEach [b] X.env = [(false,eval b X.env)]:=by rfl):
  PI X (.Tuple elts x1 tpos) (.Call (.Name "zip" p) [a,b] [] pos) (fun σ H R=>ta σ H fun vs H1=>∃ b1 b2 a b,vs = [.ref a,.ref b]/\(∃ xs,SqG b1 X.K H1 a xs)/\(∃ ys,SqG b2 X.K H1 b ys)/\R (Izg b1 b2 X.K a b) H1):=by
 intro pins s σ H R I h
 refine Call_ (ld_blt I hg hm hb (PyProof.Rows.callWith_type1 (thn (ha pos pins s σ H _ I h) fun us s1 ⟨vs,H1,I1,r1,q1⟩=>?_) (by rw [hs,hs2]) (by rw [hs2];rfl)))
 obtain⟨b1,b2,l1,l2,e,⟨xs,hq1⟩,⟨ys,hq2⟩,q⟩:=q1
 subst e
 obtain⟨v1,v2,rfl,r1',r2'⟩:=r1.two
 cases r1'
 cases r2'
 obtain⟨its1,rv1,p1,hz1⟩:=I1.sqG hq1
 obtain⟨its2,rv2,p2,hz2⟩:=I1.sqG hq2
 refine call_zipG p1 p2 fun h' hz hTI hTO hi1 hi2 hk=>wpAny_pyIter_zip hz ?_
 have I2:Inv X pins σ H1 { s1 with heap:=h' }:=I1.kept (t':=s1.toks) hk
 refine⟨_,[s1.heap.objs.size+4,s1.heap.objs.size+2,s1.heap.objs.size+3,s1.heap.objs.size,s1.heap.objs.size+1],_,_,H1,rfl,I2,turn_zipG (zipApart_new p1.lt p2.lt),⟨hz,hTI,⟨_,_,hTO⟩,hi1,hi2⟩,fun b hb=>?_,q⟩
 have hb':s1.heap.objs.size<=b:=by
  simp only [List.mem_cons,List.not_mem_nil,or_false] at hb
  rcases hb with rfl | rfl | rfl | rfl | rfl <;> omega
 exact I1.fpOk hb' (I1.hok.fresh hb')
theorem itz_ok{K:PySem.W.Frag}{Kp:Hp->Hp->Prop}{H1:Hp}{b1 b2:Bool}{l m:Addr}{xs ys:List D}{vs ws:List V}(kp:∀ H,Kp H1 H->(SqG b1 K H l vs/\Reps K H xs vs)/\SqG b2 K H m ws/\Reps K H ys ws):ItOk K Kp (Izg b1 b2 K l m) H1 (zipD xs ys) where
 go:=fun H i d k e=>by
  obtain⟨⟨h1,r1⟩,h2,r2⟩:=kp H k
  unfold zipD at e
  rw [List.getElem?_zipWith] at e
  cases ex:xs[i]? with
  | none=>rw [ex] at e;cases e
  | some x =>
   cases ey:ys[i]? with
   | none=>rw [ex,ey] at e;cases e
   | some y =>
    rw [ex,ey] at e
    cases e
    obtain⟨v,e1,q1⟩:=r1.get ex
    obtain⟨w,e2,q2⟩:=r2.get ey
    refine⟨⟨vs,ws,v,w,h1,h2,e1,e2⟩,fun z H' yl=>?_⟩
    obtain⟨p,v',w',hp,rfl,rfl,y1,y2⟩:=yl
    have z1:=y1 vs h1
    have z2:=y2 ws h2
    rw [e1] at z1
    rw [e2] at z2
    cases z1
    cases z2
    exact⟨same_new hp _,.tup (SqT.of upd_same) (.cons (q1.same (same_new hp _)) (.cons (q2.same (same_new hp _)) .nil))⟩
 stop:=fun H k=>by
  obtain⟨⟨h1,r1⟩,h2,r2⟩:=kp H k
  refine⟨vs,ws,h1,h2,?_⟩
  unfold zipD
  rw [List.length_zipWith,<-r1.length,<-r2.length]
  omega
def dZip(t:DTF):DTF:=fun σ Q=>t σ fun ds=>match ds with
 | [.list xs,.list ys]=>Q (zipD xs ys)
 | [.list xs,.tuple ys]=>Q (zipD xs ys)
 | [.tuple xs,.list ys]=>Q (zipD xs ys)
 | [.tuple xs,.tuple ys]=>Q (zipD xs ys)
 | _=>False
theorem Rep.seqP{K:PySem.W.Frag}{H:Hp}{d:D}{v:V}{xs:List D}(h:Rep K H d v)(e:d=.list xs\/d=.tuple xs):∃ b a vs,v=.ref a/\∀ H',Pers H H'->SqG b K H' a vs/\Reps K H' xs vs:=by
 cases h with
 | lst hf r =>
  rcases e with e | e
  ·cases e;exact⟨false,_,_,rfl,fun H' p=>⟨p.sqF hf,r.mono p⟩⟩
  ·cases e
 | tup hf r =>
  rcases e with e | e
  ·cases e
  ·cases e;exact⟨true,_,_,rfl,fun H' p=>⟨p.sqT hf,r.mono p⟩⟩
 | _=>rcases e with e | e <;> cases e
theorem RepT.seqS{K:PySem.W.Frag}{H:Hp}{d:D}{v:V}{xs:List D}(h:RepT K H d v)(e:d=.list xs\/d=.tuple xs):∃ b a vs,v=.ref a/\∀ H',Same H H'->SqG b K H' a vs/\Reps K H' xs vs:=by
 rcases h with h | ⟨ys,rfl,a,vs,rfl,hf,r⟩
 ·obtain⟨b,a,vs,e,k⟩:=h.seqP e
  exact⟨b,a,vs,e,fun H' s=>k H' s.pers⟩
 ·rcases e with e | e
  ·cases e;exact⟨false,a,vs,rfl,fun H' s=>⟨RepL.sq' s hf,r.same s⟩⟩
  ·cases e
theorem zip_cases {ds:List D} {Q:List D->Prop} (h:match ds with
 | [.list xs,.list ys]=>Q (zipD xs ys)
 | [.list xs,.tuple ys]=>Q (zipD xs ys)
 | [.tuple xs,.list ys]=>Q (zipD xs ys)
 | [.tuple xs,.tuple ys]=>Q (zipD xs ys)
 | _=>False):∃ d1 d2 xs ys,ds = [d1,d2]/\(d1=.list xs\/d1=.tuple xs)/\(d2=.list ys\/d2=.tuple ys)/\Q (zipD xs ys):=by
 split at h
 ·exact⟨_,_,_,_,rfl,.inl rfl,.inl rfl,h⟩
 ·exact⟨_,_,_,_,rfl,.inl rfl,.inr rfl,h⟩
 ·exact⟨_,_,_,_,rfl,.inr rfl,.inl rfl,h⟩
 ·exact⟨_,_,_,_,rfl,.inr rfl,.inr rfl,h⟩
 ·exact h.elim
theorem diw_zip{elts:List Expr}{x1}{tpos:Pos}(hg:Gl X "zip")(hm:X.mg "zip" = none)(ha:DAv X [a,b] t)(hs:starEach [a,b] X.env = [(false,eval a X.env),(false,eval b X.env)]:=by rfl)(hs2:starEach [b] X.env = [(false,eval b X.env)]:=by rfl):
  DIw X (.Tuple elts x1 tpos) (.Call (.Name "zip" p) [a,b] [] pos) (dZip t) :=
 ⟨fun pins s σ H R I ⟨H₀,σD,QD,ok,q,k⟩=>pi_zipX hg hm ha.pa (by first | exact boot_zip | rfl | decide +kernel) hs hs2 pins s σ H R I ⟨H₀,σD,_,ok,q,fun vs H1 ds s1 r1 q1=>by
  obtain⟨d1,d2,xs,ys,rfl,e1,e2,q2⟩:=zip_cases q1
  obtain⟨v,w,rfl,r,r2⟩:=r1.two
  obtain⟨b1,l,vs,rfl,k1⟩:=r.seqS e1
  obtain⟨b2,m,ws,rfl,k2⟩:=r2.seqS e2
  exact⟨b1,b2,l,m,rfl,⟨vs,(k1 _ (Same.refl _)).1⟩,⟨ws,(k2 _ (Same.refl _)).1⟩,k _ _ _ s1 (itz_ok fun H' pr=>⟨k1 H' pr,k2 H' pr⟩) q2⟩⟩⟩
def enumD:Nat->List D->List D
 | _,[]=>[]
 | k,x::xs=>.tuple [.int k,x]::enumD (k+1) xs
theorem enumD_get:∀{xs:List D} {k i:Nat} {x:D},(enumD k xs)[i]?=some x->∃ y,xs[i]?=some y/\x=.tuple [.int ((k+i:Nat):Int),y]
 | [],_,_,_,e=>by simp [enumD] at e
 | y::ys,k,0,x,e=>by simp [enumD] at e;subst e;exact⟨y,rfl,rfl⟩
 | y::ys,k,i+1,x,e=>by
  simp only [enumD,List.getElem?_cons_succ] at e
  obtain⟨z,e1,e2⟩:=enumD_get e
  refine⟨z,by simpa using e1,?_⟩
  rw [e2,show k+1+i=k+(i+1) by omega]
theorem enumD_len:∀(k:Nat) (xs:List D),(enumD k xs).length=xs.length
 | _,[]=>rfl
 | k,_::xs=>by simp [enumD,enumD_len (k+1) xs]
abbrev DTG:=D->DSt->(DSt->Prop)->Prop
abbrev DTGs:=List D->DSt->(DSt->Prop)->Prop
structure DG(X:Cx)(tg:Expr)(is:List Nat)(g:DTG):Prop where
 run:∀(pins:List (Addr×Obj)) (s:Shared) (σ:St) (H H₀:Hp) (σD:DSt) (v:V) (u:Value) (d:D) (Q:DSt->Prop),Inv X pins σ H s->DOk X.K H₀ H σD σ->RelV v u->Rep X.K H d v->g d σD Q ->
  wpAny (model X.prog X.w) X.A (assign tg X.env u) (fun _ s'=>∃ σ' σD',Inv X pins σ' H s'/\DOk X.K H₀ H σD' σ'/\(∀ j,j∉is->σ'[j]?=σ[j]?)/\Q σD') X.xe s
structure DGs(X:Cx)(ts:List Expr)(is:List Nat)(g:DTGs):Prop where
 run:∀(pins:List (Addr×Obj)) (s:Shared) (σ:St) (H H₀:Hp) (σD:DSt) (vs:List V) (us:List Value) (ds:List D) (Q:DSt->Prop),Inv X pins σ H s->DOk X.K H₀ H σD σ->Vals vs us->Reps X.K H ds vs->g ds σD Q ->
  wpAny (model X.prog X.w) X.A (assignInOrder ((assignEach ts X.env).map (·.2)) us) (fun _ s'=>∃ σ' σD',Inv X pins σ' H s'/\DOk X.K H₀ H σD' σ'/\(∀ j,j∉is->σ'[j]?=σ[j]?)/\Q σD') X.xe s
def dgName(i:Nat):DTG:=fun d σ Q=>Q (σ.set i (some (.val d)))
theorem dg_name{i:Nat}{x:Str}(hN:X.N.Nodup)(hi:X.N[i]?=some x)(hx:Loc X.env.scope x)(hf:X.fn x=true\/X.env.scope.names.lookup x=some .local:=by first | exact .inl rfl | exact .inr rfl | assumption):DG X (.Name x pos) [i] (dgName i) :=
 ⟨fun pins s σ H H₀ σD v u d Q I ok r rp q=>wpAny_assign_Name (store_ok I hN hi hx r (fun s' I'=>⟨_,_,I',ok.setV rp i,fun j hj=>List.getElem?_set_ne (fun z=>hj (by simp [z])),q⟩) hf)⟩
def dgNil:DTGs:=fun ds σ Q=>ds = []/\Q σ
def dgCons(g:DTG)(gs:DTGs):DTGs:=fun ds σ Q=>match ds with
 | d::r=>g d σ fun σ'=>gs r σ' Q
 | []=>False
theorem dgs_nil:DGs X [] [] dgNil:=⟨fun pins s σ H H₀ σD vs us ds Q I ok r rp q=>by
 obtain⟨rfl,q⟩:=q
 cases rp
 cases r
 exact assignInOrder_nil ⟨σ,σD,I,ok,fun _ _=>rfl,q⟩⟩
theorem dgs_cons{e:Expr}{es:List Expr}{i1 i2:List Nat}{g:DTG}{gs:DTGs}(h1:DG X e i1 g)(h2:DGs X es i2 gs)
  (hs:(assignEach (e::es) X.env).map (·.2)=assign e X.env::(assignEach es X.env).map (·.2):=by rfl):DGs X (e::es) (i1++i2) (dgCons g gs):=⟨fun pins s σ H H₀ σD vs us ds Q I ok r rp q=>by
 cases rp with
 | nil=>exact q.elim
 | cons rd rds =>
  cases r with
  | cons r rr =>
   rw [hs]
   refine assignInOrder_cons (thn (h1.run pins s σ H H₀ σD _ _ _ _ I ok r rd q) fun _ s1 ⟨σ1,σD1,I1,ok1,f1,q1⟩=>?_)
   refine thn (h2.run pins s1 σ1 H H₀ σD1 _ _ _ Q I1 ok1 rr rds q1) fun _ s2 ⟨σ2,σD2,I2,ok2,f2,q2⟩=>⟨σ2,σD2,I2,ok2,fun j hj=>?_,q2⟩
   rw [f2 j (fun z=>hj (List.mem_append_right _ z)),f1 j (fun z=>hj (List.mem_append_left _ z))]⟩
def dgTup(n:Nat)(gs:DTGs):DTG:=fun d σ Q=>match d with
 | .tuple xs=>xs.length=n/\gs xs σ Q
 | _=>False
theorem dg_tup{es:List Expr}{k:Nat}{is:List Nat}{gs:DTGs}{n:Nat}(hc:X.calm=true)(h:DGs X es is gs)(hn:(assignEach es X.env).length=n:=by rfl)(hst:(assignEach es X.env).findIdx? (·.1)=none:=by rfl):DG X (.Tuple es k pos) is (dgTup n gs):=⟨fun pins s σ H H₀ σD v u d Q I ok r rp q=>by
 cases d with
 | tuple xs =>
  obtain⟨hl,q⟩:=q
  cases rp with
  | tup hq rr =>
   cases r
   obtain⟨its,rv,ht,hz⟩:=I.tuple hq
   refine assign_Tuple_tuple (I.ok.hd hc) ht (by simp [hn,<-hl,<-rv.length,rr.length]) hst fun h' hx=>?_
   have I1:Inv X pins σ H { s with heap:=h' }:=I.kept (t':=s.toks) fun b o e=>hx b o (Nat.ne_of_lt (Heap.lt_size e)) e
   exact h.run pins _ σ H H₀ σD _ _ xs Q I1 ok (by simpa using rv) rr q
 | _=>exact q.elim⟩
def lcD(f:D->(Option D->Prop)->Prop):List D->(List D->Prop)->Prop
 | [],Q=>Q []
 | d::ds,Q=>f d fun o=>lcD f ds fun ys=>Q (match o with | some y=>y::ys | none=>ys)
def seenW:Option W->Option W
 | some (.own (.lst xs))=>some (.vw xs)
 | some (.own (.dct xs))=>some (.vd xs)
 | some (.own (.nst _ _))=>none
 | some (.own (.anc _ _))=>none
 | some (.own (.ins _ _))=>none
 | some (.own (.mix _))=>none
 | some (.tmp _)=>none
 | w=>w
def startD(k:Nat)(js:List Nat)(σ:DSt):DSt:=List.replicate k none++js.map fun j=>seenW (σ[j]?).join
def lcF(g:DTG)(tt:DTT)(te:DTE)(σ0:DSt):D->(Option D->Prop)->Prop:=fun d k=>g d σ0 fun σ2=>tt σ2 fun b=>if b=true then te σ2 fun y=>k (some y) else k none
def dLC(k:Nat)(js:List Nat)(ti:DTF)(g:DTG)(tt:DTT)(te:DTE):DTF:=fun σ Q=>ti σ fun ds=>ds.length<=sizeLine/\lcD (lcF g tt te (startD k js σ)) ds Q
structure DTs(X:Cx)(ifs:List Expr)(t:DTT):Prop where
 pts:PTs X ifs (cnT X.K t)
def dTrue:DTT:=fun _ Q=>Q true
theorem dts_nil:DTs X [] dTrue:=⟨fun pins s σ H Q I ⟨H₀,σD,QD,ok,q,k⟩=>pts_nil pins s σ H Q I (k true H (Same.refl _) q)⟩
theorem dts_one{c:Expr}{t:DTT}(h:DT X c t):DTs X [c] t:=⟨pts_one h.pt⟩
theorem Slots.keepN{K:PySem.W.Frag}{H₀ H:Hp}{σD:DSt}{σ:St}{fp:List Addr}(h:Slots K H₀ H σD σ fp):∀{σ':St},σ'.length=σ.length->(∀ j:Nat,σD[j]?=some Option.none\/σ'[j]?=σ[j]?)->Slots K H₀ H σD σ' fp:=by
 induction h with
 | nil=>intro σ' hl _;cases σ' with
  | nil=>exact .nil
  | cons _ _=>simp at hl
 | none t ih =>
  intro σ' hl k
  cases σ' with
  | nil=>simp at hl
  | cons x σ'=>exact .none (ih (by simpa using hl) fun j=>by simpa using k (j+1))
 | val r t ih =>
  intro σ' hl k
  cases σ' with
  | nil=>simp at hl
  | cons x σ' =>
   have:=k 0
   simp at this
   subst this
   exact .val r (ih (by simpa using hl) fun j=>by simpa using k (j+1))
 | vw r t ih =>
  intro σ' hl k
  cases σ' with
  | nil=>simp at hl
  | cons x σ' =>
   have:=k 0
   simp at this
   subst this
   exact .vw r (ih (by simpa using hl) fun j=>by simpa using k (j+1))
 | vd r t ih =>
  intro σ' hl k
  cases σ' with
  | nil=>simp at hl
  | cons x σ' =>
   have:=k 0
   simp at this
   subst this
   exact .vd r (ih (by simpa using hl) fun j=>by simpa using k (j+1))
 | exc r t ih =>
  intro σ' hl k
  cases σ' with
  | nil=>simp at hl
  | cons x σ' =>
   have:=k 0
   simp at this
   subst this
   exact .exc r (ih (by simpa using hl) fun j=>by simpa using k (j+1))
 | scr r t ih =>
  intro σ' hl k
  cases σ' with
  | nil=>simp at hl
  | cons x σ' =>
   have:=k 0
   simp at this
   subst this
   exact .scr r (ih (by simpa using hl) fun j=>by simpa using k (j+1))
 | pen r t ih =>
  intro σ' hl k
  cases σ' with
  | nil=>simp at hl
  | cons x σ' =>
   have:=k 0
   simp at this
   subst this
   exact .pen r (ih (by simpa using hl) fun j=>by simpa using k (j+1))
 | tmp r t ih =>
  intro σ' hl k
  cases σ' with
  | nil=>simp at hl
  | cons x σ' =>
   have:=k 0
   simp at this
   subst this
   exact .tmp r (ih (by simpa using hl) fun j=>by simpa using k (j+1))
 | own r t ih =>
  intro σ' hl k
  cases σ' with
  | nil=>simp at hl
  | cons x σ' =>
   have:=k 0
   simp at this
   subst this
   exact .own r (ih (by simpa using hl) fun j=>by simpa using k (j+1))
theorem DOk.keepN{K:PySem.W.Frag}{H₀ H:Hp}{σD:DSt}{σ σ':St}(h:DOk K H₀ H σD σ)(hl:σ'.length=σ.length)(k:∀ j:Nat,σD[j]?=some Option.none\/σ'[j]?=σ[j]?):DOk K H₀ H σD σ':=let ⟨s,fp,sl,r⟩:=h;⟨s,fp,sl.keepN hl k,r⟩
theorem DOk.block{K:PySem.W.Frag}{H₀ H:Hp}{σD:DSt}{σ:St}(h:DOk K H₀ H σD σ)(k:Nat)(js:List Nat):DOk K H H (startD k js σD) (startLC k js σ):=by
 refine⟨Same.refl _,[],?_,List.nodup_nil,fun a ha=>by cases ha⟩
 have two:∀ js:List Nat,Slots K H H (js.map fun j=>seenW (σD[j]?).join) (js.map fun j=>(σ[j]?).join) []:=by
  intro js
  induction js with
  | nil=>exact .nil
  | cons j js ih =>
   simp only [List.map_cons]
   have nn:∀ v,Slots K H H (none::js.map fun j=>seenW (σD[j]?).join) (v::js.map fun j=>(σ[j]?).join) []:=fun v=>.none ih
   cases e:σD[j]? with
   | none=>exact nn _
   | some o =>
    cases o with
    | none=>exact nn _
    | some w =>
     cases w with
     | val d =>
      obtain⟨v,e1,r⟩:=h.val e
      rw [e1]
      exact .val r ih
     | vw xs =>
      obtain⟨v,e1,r⟩:=h.vw e
      rw [e1]
      exact .vw r ih
     | vd xs =>
      obtain⟨v,e1,r⟩:=h.vd e
      rw [e1]
      exact .vd r ih
     | exc xs =>
      obtain⟨v,e1,r⟩:=h.exc e
      rw [e1]
      exact .exc r ih
     | scr ns =>
      obtain⟨a,e1,r⟩:=h.scr e
      rw [e1]
      exact .scr r ih
     | pen =>
      obtain⟨a,e1,r⟩:=h.pen e
      rw [e1]
      exact .pen r ih
     | tmp d=>exact nn _
     | own o =>
      cases o with
      | lst xs =>
       obtain⟨a,vs,e1,e2,r,_⟩:=h.ownL e
       rw [e1]
       exact .vw ⟨a,vs,rfl,.inl e2,r⟩ ih
      | dct xs =>
       obtain⟨a,vs,e1,e2,r,_⟩:=h.ownD e
       rw [e1]
       exact .vd ⟨a,vs,rfl,e2,r⟩ ih
      | nst xss ds=>exact nn _
      | anc _ _=>exact nn _
      | ins _ _=>exact nn _
      | mix _=>exact nn _
 unfold startD startLC
 induction k with
 | zero=>exact two js
 | succ k ih=>exact .none ih
theorem lc_turns{g:DTG}{tt:DTT}{te:DTE}{k:Nat}{js is:List Nat}{σ:St}{σD:DSt}{H₀ H1:Hp}{J:It}{ds:List D}{QD:List D->Prop}{Dd:Addr}{gL:TG}(ok:DOk X.K H₀ H1 σD σ)(it:ItOk X.K Same J H1 ds)(hz:ds.length<=sizeLine)
  (hg:∀ d v σ' H' Q (σ0:DSt),DOk X.K H1 H' σ0 σ'->Rep X.K H' d v->g d σ0 Q->gL v σ' H' (fun σ2 H2=>H2=H'/\σ2.length=σ'.length/\(∀ j,j∉is->σ2[j]?=σ'[j]?)/\∃ σD2,DOk X.K H1 H' σD2 σ2/\Q σD2))
  (mono:∀ v σ' H' (Q Q':St->Hp->Prop),(∀ σ2 H2,Q σ2 H2->Q' σ2 H2)->gL v σ' H' Q->gL v σ' H' Q')
  (his:∀ j∈is,j<k) (hn:H1 Dd=none) (q:lcD (lcF g tt te (startD k js σD)) ds QD) :
  lcTurns J Dd gL (cnT X.K tt) (cnE X.K te) (startLC k js σ) H1 (fun v H'=>∃ a vs xs,v=.ref a/\Same H1 H'/\H1 a=none/\H' a=some (.lst vs)/\Reps X.K H' xs vs/\QD xs):=by
 have sub:∀{Q1:List D->Prop} {i:Nat} {d:D},ds[i]?=some d->lcD (lcF g tt te (startD k js σD)) (ds.drop i) Q1=lcF g tt te (startD k js σD) d (fun o=>lcD (lcF g tt te (startD k js σD)) (ds.drop (i+1)) fun ys=>Q1 (match o with | some y=>y::ys | none=>ys)):=fun{Q1 i d} e=>by
  obtain⟨hi,e'⟩:=List.getElem?_eq_some_iff.mp e
  rw [List.drop_eq_getElem_cons hi,e']
  rfl
 refine⟨fun i m σ' H'=>m=ds.length-i/\i<=ds.length/\Same H1 H'/\σ'.length=(startLC k js σ).length/\(∀ j,k<=j->σ'[j]?=(startLC k js σ)[j]?)/\∃ acc vs,H' Dd=some (.lst vs)/\Reps X.K H' acc vs/\acc.length<=i/\lcD (lcF g tt te (startD k js σD)) (ds.drop i) (fun ys=>QD (acc++ys)),
  ⟨ds.length,rfl,Nat.zero_le _,same_new hn _,rfl,fun _ _=>rfl,[],[],upd_same,.nil,Nat.le_refl _,q⟩,?_⟩
 rintro i m σ' H' ⟨rfl,hi,sm,hl,fr,acc,vs,eD,ra,la,q1⟩
 have ok1:DOk X.K H1 H' (startD k js σD) σ':=by
  refine DOk.keepN ((ok.block k js).after sm) hl fun j=>?_
  by_cases hj:j<k
  ·left
   unfold startD
   rw [List.getElem?_append_left (by simpa using hj),List.getElem?_replicate,if_pos hj]
  ·right
   exact fr j (by omega)
 by_cases hlt:i<ds.length
 ·have e:ds[i]?=some ds[i]:=by simp [hlt]
  obtain⟨go,yl⟩:=it.go H' i ds[i] sm e
  refine .inr ⟨go,fun x H2 y=>?_⟩
  obtain⟨s2,r2⟩:=yl x H2 y
  rw [sub e] at q1
  refine mono _ _ _ _ _ (fun σ2 H3 z=>?_) (hg ds[i] x σ' H2 _ _ (ok1.after s2) r2 q1)
  obtain⟨rfl,l2,f2,σD2,ok2,q2⟩:=z
  have fr2:∀ j,k<=j->σ2[j]?=(startLC k js σ)[j]?:=fun j hj=>by rw [f2 j (fun z=>absurd (his j z) (by omega)),fr j hj]
  refine⟨H1,σD2,_,ok2,q2,fun b H4 s4 q4=>?_⟩
  cases b with
  | true =>
   rw [if_pos rfl] at q4 ⊢
   refine⟨H1,σD2,_,ok2.after s4,q4,fun y H5 dy s5 r5 q5=>?_⟩
   have eD5:=s5 _ _ (s4 _ _ (s2 _ _ eD))
   have ra5:=((ra.same s2).same s4).same s5
   refine⟨vs,eD5,by rw [<-ra5.length];omega,ds.length-(i+1),by omega,rfl,hlt,?_,l2.trans hl,fr2,acc ++ [dy],vs ++ [y],upd_same,?_,by rw [List.length_append,List.length_singleton];omega,?_⟩
   ·exact Same.but (((sm.trans s2).trans s4).trans s5) hn But.write
   ·exact(ra5.append (.cons r5 .nil)).mono (upd_pers eD5 rfl)
   ·simpa using q5
  | false =>
   rw [if_neg Bool.false_ne_true] at q4 ⊢
   exact⟨ds.length-(i+1),by omega,rfl,hlt,(sm.trans s2).trans s4,l2.trans hl,fr2,acc,vs,s4 _ _ (s2 _ _ eD),(ra.same s2).same s4,by omega,by simpa using q4⟩
 ·have e:i=ds.length:=by omega
  subst e
  rw [List.drop_length] at q1
  refine .inl ⟨it.stop H' sm,Dd,vs,acc,rfl,sm,hn,eD,ra,?_⟩
  have:lcD (lcF g tt te (startD k js σD)) [] (fun ys=>QD (acc++ys)):=q1
  simpa [lcD] using this
def cnG(K:PySem.W.Frag)(is:List Nat)(g:DTG):TG:=fun v σ H Q=>∃ H₀ σD d QD,DOk K H₀ H σD σ/\Rep K H d v/\g d σD QD/\∀ σ' σD',σ'.length=σ.length->DOk K H₀ H σD' σ'->(∀ j,j∉is->σ'[j]?=σ[j]?)->QD σD'->Q σ' H
theorem DG.pg{is:List Nat}{g:DTG}(h:DG X tg is g):PG X tg (cnG X.K is g):=fun pins s σ H v u Q I r ⟨H₀,σD,d,QD,ok,rp,q,k⟩=>thn (h.run pins s σ H H₀ σD v u d QD I ok r rp q) fun _ s' ⟨σ',σD',I',ok',f,qd⟩=>⟨σ',H,I',k σ' σD' (by rw [I'.len,I.len]) ok' f qd⟩
variable {elt:Expr}{ifs:List Expr}{scope:Scope}{cl:List (Str×Addr)}{N' capt:List Str}{k:Nat}{js is:List Nat}{ti:DTF}{g:DTG}{tt:DTT}{te:DTE}
theorem df_lc(hc:X.calm=true)(L:LCok X scope cl N' capt k js)
  (hi:DIw X tg iter ti) (hg:∀ C fp s2 H2,DG (cxLC X N' scope cl C fp s2 H2) tg is g) (ht:∀ C fp s2 H2,DTs (cxLC X N' scope cl C fp s2 H2) ifs tt) (he:∀ C fp s2 H2,DE (cxLC X N' scope cl C fp s2 H2) elt te)
  (his:∀ j∈is,j<k:=by decide) (hs:∀ x,foldedSetIterable iter X.env x=pure x:=by intro _;rfl):DF X (.ListComp elt [⟨tg,iter,ifs,0⟩] scope pos) (dLC k js ti g tt te) :=
 DF.of (pe_lc hc L hi.pi (fun C fp s2 H2=>(hg C fp s2 H2).pg) (fun C fp s2 H2=>(ht C fp s2 H2).pts) (fun C fp s2 H2=>(he C fp s2 H2).pe) hs) fun σ H H₀ σD QD ok q=>⟨H₀,σD,_,ok,q,fun J H1 ds s1 it q1 Dd hn=>by
  have z:=lc_turns (k:=k) (js:=js) (is:=is) (gL:=cnG X.K is g) (Dd:=Dd) (ok.after s1) it q1.1 (fun d v σ' H' Q σ0 ok0 r0 q0=>⟨H1,σ0,d,Q,ok0,r0,q0,fun σ2 σD2 l2 ok2 f2 q2=>⟨rfl,l2,f2,σD2,ok2,q2⟩⟩)
   (fun v σ' H' Q Q' m ⟨a,b,c,d,e1,e2,e3,e4⟩=>⟨a,b,c,d,e1,e2,e3,fun σ2 σD2 l o f q=>m _ _ (e4 σ2 σD2 l o f q)⟩) his hn q1.2
  obtain⟨W,w0,turn⟩:=z
  refine⟨W,w0,fun i m σ' H' w=>?_⟩
  rcases turn i m σ' H' w with⟨st,a,vs,xs,e,sm,n,e2,r,qd⟩ | h
  ·exact .inl ⟨st,a,vs,xs,e,s1.trans sm,s1.free n,e2,r,qd⟩
  ·exact .inr h⟩
end
inductive Ret where
 | val (d:D) | new (xs:List D)
def Ret.d:Ret->D
 | .val d=>d
 | .new xs=>.list xs
abbrev DSp:=List W->(Ret->Prop)->Prop
def RepR(K:PySem.W.Frag)(H H':Hp):Ret->V->Prop
 | .val d,v=>Rep K H' d v
 | .new xs,v=>∃ a vs,v=.ref a/\H a=none/\H' a=some (.lst vs)/\Reps K H' xs vs
def cnSp(K:PySem.W.Frag)(sp:DSp):Sp:=fun vs H Q _=>∃ ws QD,RepWs K H ws vs/\sp ws QD/\∀ v H' r,Same H H'->RepR K H H' r v->QD r->Q v H'
def dCall(sp:DSp)(t:DTP):DTE:=fun σ Q=>t σ fun ws=>sp ws fun r=>Q r.d
def dCallF(sp:DSp)(t:DTP):DTF:=fun σ Q=>t σ fun ws=>sp ws fun r=>match r with
 | .new xs=>Q xs
 | .val _=>False
section
variable {X:Cx}{e:Expr}{es:List Expr}{k k':Nat}{x:Str}{ps:List Str}{sp:DSp}{t:DTP}{p pos:Pos}
theorem call_out{pins:List (Addr×Obj)}{σ:St}{H H₀:Hp}{σD:DSt}{s:Shared}{Q:Ret->Prop}(C:Callee X.prog X.w X.K X.mg X.base k x ps (cnSp X.K sp))(hr:Room k' X.A)(hg:Gl X x)(ha:DPs X (e::es) t)(hk:k<=k')
  (hdb:(x == ("__debug__" : Str))=false) (he:starEach (e::es) X.env=(false,eval e X.env)::starEach es X.env) (hpl:(backTo pos (starEach es X.env)).any (·.1)=false) (I:Inv X pins σ H s) (ok:DOk X.K H₀ H σD σ) (q:t σD fun ws=>sp ws Q) :
  wpAny (model X.prog X.w) X.A (eval (.Call (.Name x p) (e::es) [] pos) X.env) (fun u s'=>∃ v H' r,Inv X pins σ H' s'/\RelV v u/\Same H H'/\RepR X.K H H' r v/\Q r) X.xe s:=by
 refine thn (pe_callC C hr hg ha.pa hk hdb he hpl pins s σ H (fun v H'=>∃ r,Same H H'/\RepR X.K H H' r v/\Q r) I ?_) fun u s' ⟨v,H',I',r,z,sm,rp,qd⟩=>⟨v,H',z,I',r,sm,rp,qd⟩
 refine⟨H₀,σD,_,ok,q,fun vs H1 ws s1 r1 q1=>⟨ws,Q,by rw [List.append_nil];exact r1,q1,fun v H' r s2 rp qd=>⟨r,s1.trans s2,?_,qd⟩⟩⟩
 cases r with
 | val d=>exact rp
 | new xs=>obtain⟨a,vs,e1,n,e2,r⟩:=rp;exact⟨a,vs,e1,s1.free n,e2,r⟩
theorem de_call(C:Callee X.prog X.w X.K X.mg X.base k x ps (cnSp X.K sp))(hr:Room k' X.A)(hg:Gl X x)(ha:DPs X (e::es) t)(hk:k<=k':=by decide)(hdb:(x == ("__debug__" : Str))=false:=by decide)
  (he:starEach (e::es) X.env=(false,eval e X.env)::starEach es X.env:=by rfl) (hpl:(backTo pos (starEach es X.env)).any (·.1)=false:=by rfl):DE X (.Call (.Name x p) (e::es) [] pos) (dCall sp t) :=
 ⟨fun pins s σ H H₀ σD Q I ok q=>thn (call_out C hr hg ha hk hdb he hpl I ok q) fun u s' ⟨v,H',r,I',rv,sm,rp,qd⟩=>by
  cases r with
  | val d=>exact⟨v,H',d,I',rv,sm,rp,qd⟩
  | new xs =>
   obtain⟨a,vs,rfl,n,e,r⟩:=rp
   obtain⟨H'',J,sm',r'⟩:=freeze I' sm n e r
   exact⟨.ref a,H'',.list xs,J,rv,sm',r',qd⟩⟩
theorem df_call(C:Callee X.prog X.w X.K X.mg X.base k x ps (cnSp X.K sp))(hr:Room k' X.A)(hg:Gl X x)(ha:DPs X (e::es) t)(hk:k<=k':=by decide)(hdb:(x == ("__debug__" : Str))=false:=by decide)
  (he:starEach (e::es) X.env=(false,eval e X.env)::starEach es X.env:=by rfl) (hpl:(backTo pos (starEach es X.env)).any (·.1)=false:=by rfl):DF X (.Call (.Name x p) (e::es) [] pos) (dCallF sp t) :=
 ⟨fun pins s σ H H₀ σD Q I ok q=>thn (call_out C hr hg ha hk hdb he hpl I ok q) fun u s' ⟨v,H',r,I',rv,sm,rp,qd⟩=>by
  cases r with
  | val d=>exact qd.elim
  | new xs =>
   obtain⟨a,vs,rfl,n,e,r⟩:=rp
   exact⟨a,H',vs,xs,rv,I',sm,n,e,r,qd⟩⟩
end
structure DEnds where
 nx:DSt->Prop
 rt:Ret->Prop
 bk:DSt->Prop:=fun _=>False
 ct:DSt->Prop:=fun _=>False
abbrev DTS:=DEnds->DSt->Prop
def DSP(X:Cx)(pins:List (Addr×Obj))(H₀ H:Hp)(Dn:DEnds)(f:Flow)(s':Shared):Prop :=
 match f with
 | .next=>∃ σ' H' σD',Inv X pins σ' H' s'/\DOk X.K H₀ H' σD' σ'/\Pers H H'/\Dn.nx σD'
 | .brk=>∃ σ' H' σD',Inv X pins σ' H' s'/\DOk X.K H₀ H' σD' σ'/\Pers H H'/\Dn.bk σD'
 | .cont=>∃ σ' H' σD',Inv X pins σ' H' s'/\DOk X.K H₀ H' σD' σ'/\Pers H H'/\Dn.ct σD'
 | .ret u=>∃ v σ' H' r,Inv X pins σ' H' s'/\RelV v u/\Same H₀ H'/\RepR X.K H₀ H' r v/\Dn.rt r
structure DS(X:Cx)(st:Stmt)(t:DTS):Prop where
 run:∀(pins:List (Addr×Obj)) (s:Shared) (σ:St) (H H₀:Hp) (σD:DSt) (Dn:DEnds),Inv X pins σ H s->DOk X.K H₀ H σD σ->t Dn σD->wpAny (model X.prog X.w) X.A (exec st X.env) (DSP X pins H₀ H Dn) X.xe s
structure DSs(X:Cx)(st:List Stmt)(t:DTS):Prop where
 run:∀(pins:List (Addr×Obj)) (s:Shared) (σ:St) (H H₀:Hp) (σD:DSt) (Dn:DEnds),Inv X pins σ H s->DOk X.K H₀ H σD σ->t Dn σD->wpAny (model X.prog X.w) X.A (execs st X.env) (DSP X pins H₀ H Dn) X.xe s
theorem DSP.back{X:Cx}{pins:List (Addr×Obj)}{H₀ H H1:Hp}{Dn:DEnds}{f:Flow}{s':Shared}(p:Pers H H1)(h:DSP X pins H₀ H1 Dn f s'):DSP X pins H₀ H Dn f s':=by
 cases f with
 | next=>obtain⟨a,b,c,e1,e2,e3,e4⟩:=h;exact⟨a,b,c,e1,e2,p.trans e3,e4⟩
 | brk=>obtain⟨a,b,c,e1,e2,e3,e4⟩:=h;exact⟨a,b,c,e1,e2,p.trans e3,e4⟩
 | cont=>obtain⟨a,b,c,e1,e2,e3,e4⟩:=h;exact⟨a,b,c,e1,e2,p.trans e3,e4⟩
 | ret u=>exact h
def dEnds(K:PySem.W.Frag)(H₀ H:Hp)(Dn:DEnds):Ends where
 nx:=fun σ' H'=>∃ σD',DOk K H₀ H' σD' σ'/\Pers H H'/\Dn.nx σD'
 bk:=fun σ' H'=>∃ σD',DOk K H₀ H' σD' σ'/\Pers H H'/\Dn.bk σD'
 ct:=fun σ' H'=>∃ σD',DOk K H₀ H' σD' σ'/\Pers H H'/\Dn.ct σD'
 rt:=fun v H'=>∃ r,Same H₀ H'/\RepR K H₀ H' r v/\Dn.rt r
section
variable {X:Cx}{st:Stmt}{sts rest:List Stmt}{t u:DTS}{e:Expr}{te:DTE}{tf:DTF}{pos:Pos}
theorem SP.dsp{pins:List (Addr×Obj)}{H₀ H:Hp}{Dn:DEnds}{f:Flow}{s':Shared}(h:SP X pins (dEnds X.K H₀ H Dn) f s'):DSP X pins H₀ H Dn f s':=by
 cases f with
 | next=>obtain⟨a,b,e1,c,e2,e3,e4⟩:=h;exact⟨a,b,c,e1,e2,e3,e4⟩
 | brk=>obtain⟨a,b,e1,c,e2,e3,e4⟩:=h;exact⟨a,b,c,e1,e2,e3,e4⟩
 | cont=>obtain⟨a,b,e1,c,e2,e3,e4⟩:=h;exact⟨a,b,c,e1,e2,e3,e4⟩
 | ret u=>obtain⟨v,a,b,e1,e2,r,e3,e4,e5⟩:=h;exact⟨v,a,b,r,e1,e2,e3,e4,e5⟩
theorem DS.of{t':TS}(h:PS X st t')(k:∀ σ H H₀ σD Dn,DOk X.K H₀ H σD σ->t Dn σD->t' (dEnds X.K H₀ H Dn) σ H):DS X st t :=
 ⟨fun pins s σ H H₀ σD Dn I ok q=>thn (h pins s σ H _ I (k σ H H₀ σD Dn ok q)) fun _ _ z=>z.dsp⟩
def cnS(K:PySem.W.Frag)(t:DTS):TS:=fun E σ H=>∃ H₀ σD Dn,DOk K H₀ H σD σ/\t Dn σD/\(∀ σ' H' σD',DOk K H₀ H' σD' σ'->Pers H H'->Dn.nx σD'->E.nx σ' H')/\(∀ v H' r,Same H₀ H'->RepR K H₀ H' r v->Dn.rt r->E.rt v H') /\
 (∀ σ' H' σD',DOk K H₀ H' σD' σ'->Pers H H'->Dn.bk σD'->E.bk σ' H')/\∀ σ' H' σD',DOk K H₀ H' σD' σ'->Pers H H'->Dn.ct σD'->E.ct σ' H'
theorem DSs.ps(h:DSs X sts t):PSs X sts (cnS X.K t):=fun pins s σ H E I ⟨H₀,σD,Dn,ok,q,k1,k2,k3,k4⟩=>thn (h.run pins s σ H H₀ σD Dn I ok q) fun f s' z=>by
 cases f with
 | next=>obtain⟨a,b,c,e1,e2,e3,e4⟩:=z;exact⟨a,b,e1,k1 a b c e2 e3 e4⟩
 | brk=>obtain⟨a,b,c,e1,e2,e3,e4⟩:=z;exact⟨a,b,e1,k3 a b c e2 e3 e4⟩
 | cont=>obtain⟨a,b,c,e1,e2,e3,e4⟩:=z;exact⟨a,b,e1,k4 a b c e2 e3 e4⟩
 | ret u=>obtain⟨v,a,b,r,e1,e2,e3,e4,e5⟩:=z;exact⟨v,a,b,e1,e2,k2 v b r e3 e4 e5⟩
def dNext:DTS:=fun Dn σ=>Dn.nx σ
def dSeq(t u:DTS):DTS:=fun Dn σ=>t { Dn with nx:=u Dn } σ
theorem dss_nil:DSs X [] dNext:=⟨fun _ _ σ H _ σD _ I ok h=>wpAny_execs_nil ⟨σ,H,σD,I,ok,Pers.refl _,h⟩⟩
theorem dss_cons(h1:DS X st t)(h2:DSs X rest u):DSs X (st::rest) (dSeq t u):=⟨fun pins s σ H H₀ σD Dn I ok q=>by
 refine wpAny_execs_cons (thn (h1.run pins s σ H H₀ σD { Dn with nx:=u Dn } I ok q) fun f s1 z=>?_)
 cases f with
 | next =>
  obtain⟨σ',H',σD',I',ok',p,q'⟩:=z
  exact thn (h2.run pins s1 σ' H' H₀ σD' Dn I' ok' q') fun _ _ y=>y.back p
 | ret v=>exact z
 | brk=>exact z
 | cont=>exact z⟩
theorem dss_one(h1:DS X st t):DSs X [st] t:=⟨fun pins s σ H H₀ σD Dn I ok q=>by
 refine wpAny_execs_cons (thn (h1.run pins s σ H H₀ σD Dn I ok q) fun f s1 z=>?_)
 cases f with
 | next=>exact wpAny_execs_nil z
 | ret v=>exact z
 | brk=>exact z
 | cont=>exact z⟩
def dBreak:DTS:=fun Dn σ=>Dn.bk σ
theorem ds_break:DS X (.Break pos) dBreak:=⟨fun _ _ σ H _ σD _ I ok h=>wpAny_Break ⟨σ,H,σD,I,ok,Pers.refl _,h⟩⟩
def dNever:DTS:=fun _ _=>False
theorem ds_never:DS X st dNever:=⟨fun _ _ _ _ _ _ _ _ _ h=>h.elim⟩
def dFrz(i:Nat)(t:DTS):DTS:=fun Dn σ=>match σ[i]? with
 | some (some (.own (.lst xs)))=>t Dn (σ.set i (some (.val (.list xs))))
 | _=>False
theorem nst_fp{K:PySem.W.Frag}{H:Hp}{xss:List (List D)}{ds:List D}{v:V}{f1 f2:List Addr}(r:RepO K H (.nst xss ds) v f1)(r2:RepO K H (.nst xss ds) v f2):f1=f2:=by
 obtain⟨a,as,us,rfl,rfl,e,n,_⟩:=r
 obtain⟨a2,as2,us2,e0,rfl,e2,n2,_⟩:=r2
 cases e0
 rw [e] at e2
 have h1:as.map V.ref++us=as2.map V.ref++us2:=HO.lst.inj (Option.some.inj e2)
 have h2:as.map V.ref=as2.map V.ref:=(List.append_inj h1 (by rw [List.length_map,List.length_map,n.len,n2.len])).1
 have h3:as=as2:=(List.map_inj_right fun x y h=>V.ref.inj h).mp h2
 rw [h3]
theorem RepO.fp{K:PySem.W.Frag}{H:Hp}{o:O}{v:V}{f1 f2:List Addr}(r:RepO K H o v f1)(r2:RepO K H o v f2):f1=f2:=by
 induction o with
 | lst xs =>
  obtain⟨b,_,eb,rfl,_⟩:=r
  obtain⟨b2,_,eb2,rfl,_⟩:=r2
  rw [eb] at eb2
  cases eb2
  rfl
 | dct xs =>
  obtain⟨b,_,eb,rfl,_⟩:=r
  obtain⟨b2,_,eb2,rfl,_⟩:=r2
  rw [eb] at eb2
  cases eb2
  rfl
 | nst xss ds=>exact nst_fp r r2
 | anc a o ih=>exact ih r.2 r2.2
 | mix ms =>
  obtain⟨a,us,bs,rfl,rfl,e1,m⟩:=r
  obtain⟨a2,us2,bs2,e0,rfl,e2,m2⟩:=r2
  cases e0
  rw [e1] at e2
  cases e2
  rw [m.fp m2]
 | ins c fs =>
  obtain⟨a,dx,C,fv,rfl,rfl,_,e1,_⟩:=r
  obtain⟨a2,dx2,C2,fv2,e0,rfl,_,e2,_⟩:=r2
  cases e0
  rw [e1] at e2
  cases e2
  rfl
theorem DOk.frz{pins:List (Addr×Obj)}{s:Shared}{σ:St}{H H₀:Hp}{σD:DSt}{i:Nat}{xs:List D}(I:Inv X pins σ H s)(ok:DOk X.K H₀ H σD σ)(e:σD[i]?=some (some (.own (.lst xs)))):∃ H',Inv X pins σ H' s/\DOk X.K H₀ H' (σD.set i (some (.val (.list xs)))) σ/\Pers H H':=by
 obtain⟨a,vs,e1,e2,r,n⟩:=ok.ownL e
 obtain⟨o,J⟩:=I.frz e2
 have ps:Pers H (upd H a (.frz o (.lst vs))):=upd_pers e2 rfl
 refine⟨_,J,?_,ps⟩
 obtain⟨s0,fp,sl,nd,fr⟩:=id ok
 have sm:Same H₀ (upd H a (.frz o (.lst vs))):=fun b u hb=>by rw [upd_ne (ne_of_none hb n)];exact s0 b u hb
 have hi:i<σD.length:=(List.getElem?_eq_some_iff.mp e).1
 -- the slot is forgotten first,then filled with the value
 obtain⟨_,fp1,sl1,nd1,fr1⟩:DOk X.K H₀ H (σD.set i none) (σ.set i (some (.ref a))):=ok.setN (some (.ref a)) i
 have eσ:σ.set i (some (.ref a))=σ:=by
  refine List.ext_getElem? fun j=>?_
  by_cases hj:i=j
  ·subst hj
   rw [List.getElem?_set_self (by rw [<-ok.len];exact hi),e1]
  ·rw [List.getElem?_set_ne hj]
 rw [eσ] at sl1
 have off:a∉fp1:=fun ha=>by
  -- every slot's own addresses apart: a belongs to slot i alone
  have key:∀{σD:DSt} {σ:St} {fp:List Addr},Slots X.K H₀ H σD σ fp->fp.Nodup->∀{i:Nat},σD[i]?=some (some (.own (.lst xs)))->σ[i]?=some (some (.ref a))->∀{fp1:List Addr},Slots X.K H₀ H (σD.set i none) σ fp1->a∉fp1:=by
   intro σD σ fp h
   have det:∀{σD:DSt} {σ:St} {f1 f2:List Addr},Slots X.K H₀ H σD σ f1->Slots X.K H₀ H σD σ f2->f1=f2:=by
    intro σD σ f1 f2 h1
    induction h1 generalizing f2 with
    | nil=>intro h2;cases h2;rfl
    | none _ ih=>intro h2;cases h2 with | none t=>exact ih t
    | val _ _ ih=>intro h2;cases h2 with | val _ t=>exact ih t
    | vw _ _ ih=>intro h2;cases h2 with | vw _ t=>exact ih t
    | vd _ _ ih=>intro h2;cases h2 with | vd _ t=>exact ih t
    | exc _ _ ih=>intro h2;cases h2 with | exc _ t=>exact ih t
    | scr _ _ ih=>intro h2;cases h2 with | scr _ t=>exact ih t
    | pen _ _ ih=>intro h2;cases h2 with | pen _ t=>exact ih t
    | tmp _ _ ih=>intro h2;cases h2 with | tmp _ t=>exact ih t
    | @own o v f ws vs fp r _ ih =>
     intro h2
     cases h2 with
     | own r2 t =>
      cases o with
      | lst xs =>
       obtain⟨b,_,eb,rfl,_⟩:=r
       obtain⟨b2,_,eb2,rfl,_⟩:=r2
       rw [eb] at eb2
       cases eb2
       rw [ih t]
      | dct xs =>
       obtain⟨b,_,eb,rfl,_⟩:=r
       obtain⟨b2,_,eb2,rfl,_⟩:=r2
       rw [eb] at eb2
       cases eb2
       rw [ih t]
      | nst xss ds =>
       rw [nst_fp r r2,ih t]
      | anc _ _=>rw [RepO.fp r r2,ih t]
      | ins _ _=>rw [RepO.fp r r2,ih t]
      | mix _=>rw [RepO.fp r r2,ih t]
   induction h with
   | nil=>intro _ i e;simp at e
   | none t ih =>
    intro nd i e ev fp1 h1
    cases i with
    | zero=>simp at e
    | succ i=>cases h1 with | none t1=>exact ih nd (by simpa using e) (by simpa using ev) t1
   | val r t ih =>
    intro nd i e ev fp1 h1
    cases i with
    | zero=>simp at e
    | succ i=>cases h1 with | val _ t1=>exact ih nd (by simpa using e) (by simpa using ev) t1
   | vw r t ih =>
    intro nd i e ev fp1 h1
    cases i with
    | zero=>simp at e
    | succ i=>cases h1 with | vw _ t1=>exact ih nd (by simpa using e) (by simpa using ev) t1
   | vd r t ih =>
    intro nd i e ev fp1 h1
    cases i with
    | zero=>simp at e
    | succ i=>cases h1 with | vd _ t1=>exact ih nd (by simpa using e) (by simpa using ev) t1
   | exc r t ih =>
    intro nd i e ev fp1 h1
    cases i with
    | zero=>simp at e
    | succ i=>cases h1 with | exc _ t1=>exact ih nd (by simpa using e) (by simpa using ev) t1
   | scr r t ih =>
    intro nd i e ev fp1 h1
    cases i with
    | zero=>simp at e
    | succ i=>cases h1 with | scr _ t1=>exact ih nd (by simpa using e) (by simpa using ev) t1
   | pen r t ih =>
    intro nd i e ev fp1 h1
    cases i with
    | zero=>simp at e
    | succ i=>cases h1 with | pen _ t1=>exact ih nd (by simpa using e) (by simpa using ev) t1
   | tmp r t ih =>
    intro nd i e ev fp1 h1
    cases i with
    | zero=>simp at e
    | succ i=>cases h1 with | tmp _ t1=>exact ih nd (by simpa using e) (by simpa using ev) t1
   | @own o v f ws wvs fp' r t ih =>
    intro nd i e ev fp1 h1
    rw [List.nodup_append] at nd
    cases i with
    | zero =>
     simp at e ev
     subst e ev
     obtain⟨b,_,eb,rfl,_⟩:=r
     cases eb
     cases h1 with
     | none t1 =>
      rw [det t1 t]
      exact fun z=>nd.2.2 _ (by simp) _ z rfl
    | succ i =>
     have e':ws[i]?=some (some (.own (.lst xs))):=by simpa using e
     have ev':wvs[i]?=some (some (.ref a)):=by simpa using ev
     cases h1 with
     | own r1 t1 =>
      intro z
      rcases List.mem_append.mp z with z | z
      ·obtain⟨v',e1,f',⟨b,zs,rfl,rfl,hb,rb⟩,m⟩:=t.get e'
       rw [ev'] at e1
       cases e1
       cases o with
       | lst ys =>
        obtain⟨b1,_,eb1,rfl,_⟩:=r
        obtain⟨b2,_,eb2,rfl,_⟩:=r1
        rw [eb1] at eb2
        cases eb2
        exact nd.2.2 a z a (m a (by simp)) rfl
       | dct ys =>
        obtain⟨b1,_,eb1,rfl,_⟩:=r
        obtain⟨b2,_,eb2,rfl,_⟩:=r1
        rw [eb1] at eb2
        cases eb2
        exact nd.2.2 a z a (m a (by simp)) rfl
       | nst yss ds =>
        rw [<-nst_fp r r1] at z
        exact nd.2.2 a z a (m a (by simp)) rfl
       | anc _ _ =>
        rw [<-RepO.fp r r1] at z
        exact nd.2.2 a z a (m a (by simp)) rfl
       | ins _ _ =>
        rw [<-RepO.fp r r1] at z
        exact nd.2.2 a z a (m a (by simp)) rfl
       | mix _ =>
        rw [<-RepO.fp r r1] at z
        exact nd.2.2 a z a (m a (by simp)) rfl
      ·exact ih nd.2.1 e' ev' t1 z
  exact key sl nd e e1 sl1 ha
 have sl2:Slots X.K H₀ (upd H a (.frz o (.lst vs))) (σD.set i none) σ fp1:=sl1.keep ps (fun h=>h.frz e2) fun b hb w hw=>by rw [upd_ne (fun z=>off (by rw [<-z];exact hb))];exact hw
 have fin:DOk X.K H₀ (upd H a (.frz o (.lst vs))) (σD.set i none) σ:=⟨sm,fp1,sl2,nd1,fr1⟩
 have:=fin.setV (d:=.list xs) (v:=.ref a) (.lst upd_same (r.mono ps)) i
 rw [List.set_set,eσ] at this
 exact this
theorem ds_frz(i:Nat)(h:DS X st t):DS X st (dFrz i t):=⟨fun pins s σ H H₀ σD Dn I ok q=>by
 unfold dFrz at q
 split at q
 ·next xs e =>
  obtain⟨H',I',ok',p⟩:=DOk.frz I ok e
  exact thn (h.run pins s σ H' H₀ _ Dn I' ok' q) fun _ _ z=>z.back p
 ·exact q.elim⟩
def dRet(te:DTE):DTS:=fun Dn σ=>te σ fun d=>Dn.rt (.val d)
def dRetF(tf:DTF):DTS:=fun Dn σ=>tf σ fun xs=>Dn.rt (.new xs)
def dRetO(i:Nat):DTS:=fun Dn σ=>match σ[i]? with
 | some (some (.own (.lst xs)))=>Dn.rt (.new xs)
 | _=>False
theorem ds_ret(he:DE X e te):DS X (.Return (some e) pos) (dRet te) :=
 DS.of (ps_ret he.pe) fun σ H H₀ σD Dn ok q=>⟨H₀,σD,_,ok,q,fun v H1 d s1 r1 q1=>⟨.val d,ok.same.trans s1,r1,q1⟩⟩
theorem ds_retF(he:DF X e tf):DS X (.Return (some e) pos) (dRetF tf) :=
 DS.of (ps_ret he.pe) fun σ H H₀ σD Dn ok q=>⟨H₀,σD,_,ok,q,fun a H1 vs xs s1 n e r1 q1=>⟨.new xs,ok.same.trans s1,⟨a,vs,rfl,ok.same.free n,e,r1⟩,q1⟩⟩
theorem ds_retO(i:Nat){x:Str}{pos':Pos}(hN:X.N[i]?=some x:=by rfl)(hv:Vis X.env.scope x:=by first | exact Or.inl rfl | exact Or.inr (Or.inl rfl) | exact Or.inr (Or.inr rfl))(hd:(x == ("__debug__" : Str))=false:=by decide)
  (hcd:(x == ("__classdict__" : Str))=false:=by decide):DS X (.Return (some (.Name x pos')) pos) (dRetO i) :=
 DS.of (ps_ret (pe_var (i:=i) hN hv hd hcd)) fun σ H H₀ σD Dn ok q=>by
  unfold dRetO at q
  split at q
  ·next xs e =>
   obtain⟨a,vs,e1,e2,r,n⟩:=ok.ownL e
   exact⟨.ref a,e1,.new xs,ok.same,⟨a,vs,rfl,n,e2,r⟩,q⟩
  ·exact q.elim
def dSet(i:Nat)(te:DTE):DTS:=fun Dn σ=>te σ fun d=>Dn.nx (σ.set i (some (.val d)))
def dSetO(i:Nat)(tf:DTF):DTS:=fun Dn σ=>tf σ fun xs=>Dn.nx (σ.set i (some (.own (.lst xs))))
def dSetP(i:Nat)(tf:DTF):DTS:=fun Dn σ=>tf σ fun xs=>(∃ a b c:Int,xs = [.int a,.int b,.int c])/\Dn.nx (σ.set i (some .pen))
theorem ds_set{i:Nat}{x:Str}{pos':Pos}(hN:X.N.Nodup)(hi:X.N[i]?=some x)(hx:Loc X.env.scope x)(he:DE X e te)(hs:swapsWith e (some (.Name x pos')) pos.line X.env=pure false:=by rfl)(hf:X.fn x=true\/X.env.scope.names.lookup x=some .local:=by first | exact .inl rfl | exact .inr rfl | assumption):
  DS X (.Assign [.Name x pos'] e pos) (dSet i te) :=
 DS.of (ps_set hN hi hx he.pe hs hf) fun σ H H₀ σD Dn ok q=>⟨H₀,σD,_,ok,q,fun v H1 d s1 r1 q1=>⟨_,(ok.after s1).setV r1 i,s1.pers,q1⟩⟩
theorem ds_setO{i:Nat}{x:Str}{pos':Pos}(hN:X.N.Nodup)(hi:X.N[i]?=some x)(hx:Loc X.env.scope x)(he:DF X e tf)(hs:swapsWith e (some (.Name x pos')) pos.line X.env=pure false:=by rfl)(hf:X.fn x=true\/X.env.scope.names.lookup x=some .local:=by first | exact .inl rfl | exact .inr rfl | assumption):
  DS X (.Assign [.Name x pos'] e pos) (dSetO i tf) :=
 DS.of (ps_set hN hi hx he.pe hs hf) fun σ H H₀ σD Dn ok q=>⟨H₀,σD,_,ok,q,fun a H1 vs xs s1 n e r1 q1=>⟨_,ok.setO s1 n e r1 i,s1.pers,q1⟩⟩
theorem ds_setP{i:Nat}{x:Str}{pos':Pos}(hN:X.N.Nodup)(hi:X.N[i]?=some x)(hx:Loc X.env.scope x)(he:DF X e tf)(hs:swapsWith e (some (.Name x pos')) pos.line X.env=pure false:=by rfl)(hf:X.fn x=true\/X.env.scope.names.lookup x=some .local:=by first | exact .inl rfl | exact .inr rfl | assumption):
  DS X (.Assign [.Name x pos'] e pos) (dSetP i tf):=⟨fun pins s σ H H₀ σD Dn I ok q=>by
 refine thn (ps_set hN hi hx he.pe hs hf pins s σ H { nx:=fun σ' H'=>∃ a,Same H H'/\H a=none/\σ'=σ.set i (some (.ref a))/\(∃ x y z:Int,H' a=some (.lst [.int x,.int y,.int z]))/\Dn.nx (σD.set i (some .pen)),rt:=fun _ _=>False } I ⟨H₀,σD,_,ok,q,fun a H1 vs xs s1 n e r1 q1=>?_⟩) fun f s' z=>?_
 ·obtain⟨⟨x,y,z,rfl⟩,q1⟩:=q1
  cases r1 with
  | cons r1 t=>cases t with
   | cons r2 t=>cases t with
    | cons r3 t =>
     cases t
     cases r1
     cases r2
     cases r3
     exact⟨a,s1,n,rfl,⟨x,y,z,e⟩,q1⟩
 ·cases f with
  | next =>
   obtain⟨σ',H',I',a,sm,n,rfl,⟨x,y,z,e⟩,q⟩:=z
   have sm2:Same H (upd H' a (PenO a)):=fun b u hb=>by rw [upd_ne (ne_of_none hb n)];exact sm b u hb
   exact⟨_,_,_,I'.toPen e,(ok.after sm2).put (.pen upd_same) i,sm2.pers,q⟩
  | ret u=>obtain⟨_,_,_,_,_,z⟩:=z;exact z.elim
  | brk=>obtain⟨_,_,_,z⟩:=z;exact z.elim
  | cont=>obtain⟨_,_,_,z⟩:=z;exact z.elim⟩
def dPar3(i j k:Nat)(t:DTF):DTS:=fun Dn σ=>t σ fun ds=>match ds with
 | [d,e,f]=>Dn.nx (((σ.set i (some (.val d))).set j (some (.val e))).set k (some (.val f)))
 | _=>False
theorem ds_par3{i j k:Nat}{x y z:Str}{a b c:Expr}{px py pz pt:Pos}{kt k2 pt2}(hc:X.calm=true)(hN:X.N.Nodup)(hi:X.N[i]?=some x)(hj:X.N[j]?=some y)(hk:X.N[k]?=some z)(hij:i≠j)(hik:i≠k)(hjk:j≠k)
  (hx:X.env.scope.names.lookup x=some .local) (hy:X.env.scope.names.lookup y=some .local) (hz:X.env.scope.names.lookup z=some .local) (ha:DA X [a,b,c] tf)
  (hw:swappedStores [.Tuple [.Name x px,.Name y py,.Name z pz] kt pt] (.Tuple [a,b,c] k2 pt2) X.env=pure (some [x,y,z]))
  (hs:swapsWithSole [.Tuple [.Name x px,.Name y py,.Name z pz] kt pt] (.Tuple [a,b,c] k2 pt2) pos.line X.env=pure false:=by rfl) :
  DS X (.Assign [.Tuple [.Name x px,.Name y py,.Name z pz] kt pt] (.Tuple [a,b,c] k2 pt2) pos) (dPar3 i j k tf) :=
 DS.of (ps_par3 hc hN hi hj hk hij hik hjk hx hy hz ha.pa hw hs) fun σ H H₀ σD Dn ok q=>⟨H₀,σD,_,ok,q,fun vs H1 ds s1 r1 q1=>by
  match ds,r1,q1 with
  | [d,e,f],r1,q1 =>
   cases r1 with
   | cons p1 t1=>cases t1 with
    | cons p2 t2=>cases t2 with
     | cons p3 t3 =>
      cases t3
      exact⟨_,_,_,rfl,_,(((ok.after s1).setV p1 i).setV p2 j).setV p3 k,s1.pers,q1⟩⟩
def dIf(c:DTT)(t u:DTS):DTS:=fun Dn σ=>c σ fun b=>if b=true then t Dn σ else u Dn σ
theorem ds_if{c:Expr}{a b:List Stmt}{tc:DTT}(hc:DT X c tc)(ha:DSs X a t)(hb:DSs X b u):DS X (.If c a b pos) (dIf tc t u):=⟨fun pins s σ H H₀ σD Dn I ok q=>by
 refine wpAny_If (thn (hc.run pins s σ H H₀ σD _ I ok q) fun d s1 ⟨H1,I1,sm,q1⟩=>?_)
 cases d with
 | true=>exact thn (ha.run pins s1 σ H1 H₀ σD Dn I1 (ok.after sm) (by simpa using q1)) fun _ _ z=>z.back sm.pers
 | false=>exact thn (hb.run pins s1 σ H1 H₀ σD Dn I1 (ok.after sm) (by simpa using q1)) fun _ _ z=>z.back sm.pers⟩
def forD(g:DTG)(tb:DTS)(Dn:DEnds):List D->DSt->Prop
 | [],σ=>Dn.nx σ
 | d::ds,σ=>g d σ fun σ2=>tb { Dn with nx:=forD g tb Dn ds,ct:=forD g tb Dn ds,bk:=Dn.nx } σ2
theorem forD_inv{g:DTG}{tb:DTS}{Dn:DEnds}(Iv:Nat->DSt->Prop):∀(ds:List D) (σ:DSt) (n:Nat),Iv n σ->(∀ i d σ (N:DSt->Prop),ds[i]?=some d->Iv (n+i) σ->(∀ σ',Iv (n+i+1) σ'->N σ')->g d σ fun σ2=>tb { Dn with nx:=N,ct:=N,bk:=Dn.nx } σ2) ->
  (∀ σ',Iv (n+ds.length) σ'->Dn.nx σ')->forD g tb Dn ds σ
 | [],σ,n,h0,_,hd=>hd σ h0
 | d::ds,σ,n,h0,hs,hd=>hs 0 d σ _ rfl h0 fun σ' h'=>forD_inv Iv ds σ' (n+1) h' (fun i d' σ2 N e w k=>hs (i+1) d' σ2 N (by simpa using e) (by rw [show n+(i+1)=n+1+i by omega];exact w) (fun σ3 w3=>k σ3 (by rw [show n+1+i+1=n+(i+1)+1 by omega];exact w3))) (fun σ2 w=>hd σ2 (by rw [show n+(d::ds).length=n+1+ds.length by simp only [List.length_cons];omega];exact w))
theorem forD_suf{g:DTG}{tb:DTS}{Dn:DEnds}(Iv:List D->DSt->Prop)(hs:∀ d ds σ (N:DSt->Prop),Iv (d::ds) σ->(∀ σ',Iv ds σ'->N σ')->g d σ fun σ2=>tb { Dn with nx:=N,ct:=N,bk:=Dn.nx } σ2)(hd:∀ σ,Iv [] σ->Dn.nx σ):∀{ds:List D} {σ:DSt},Iv ds σ->forD g tb Dn ds σ
 | [],σ,h=>hd σ h
 | d::ds,σ,h=>hs d ds σ _ h fun σ' h'=>forD_suf Iv hs hd h'
def dFor(ti:DTF)(g:DTG)(tb:DTS):DTS:=fun Dn σ=>ti σ fun ds=>forD g tb Dn ds σ
theorem ds_for{tg iter:Expr}{body:List Stmt}{ti:DTF}{is:List Nat}{g:DTG}{tb:DTS}(hp:PassesOwn (model X.prog X.w) X.A X.env X.xe)(hc:X.calm=true)(hi:DI X tg iter ti)(hg:DG X tg is g)(hb:DSs X body tb)
  (hs:∀ x,foldedSetIterable iter X.env x=pure x:=by intro _;rfl):DS X (.For tg iter body [] pos) (dFor ti g tb) :=
 DS.of (ps_for hp hc hi.pi hg.pg hb.ps hs) fun σ H H₀ σD Dn ok q=>⟨H₀,σD,_,ok,q,fun J H1 ds s1 it q1=>by
  have sub:∀{i:Nat} {d:D} {σ':DSt},ds[i]?=some d->forD g tb Dn (ds.drop i) σ'=g d σ' (fun σ2=>tb { Dn with nx:=forD g tb Dn (ds.drop (i+1)),ct:=forD g tb Dn (ds.drop (i+1)),bk:=Dn.nx } σ2):=fun{i d σ'} e=>by
   obtain⟨hi,e'⟩:=List.getElem?_eq_some_iff.mp e
   rw [List.drop_eq_getElem_cons hi,e']
   rfl
  refine⟨fun i m σ' H'=>m=ds.length-i/\i<=ds.length/\Pers H1 H'/\∃ σD',DOk X.K H₀ H' σD' σ'/\forD g tb Dn (ds.drop i) σD',⟨ds.length,rfl,Nat.zero_le _,Pers.refl _,σD,ok.after s1,q1⟩,?_⟩
  rintro i m σ' H' ⟨rfl,hi,pr,σD',ok',q'⟩
  by_cases hlt:i<ds.length
  ·have e:ds[i]?=some ds[i]:=by simp [hlt]
   obtain⟨go,yl⟩:=it.go H' i ds[i] pr e
   rw [sub e] at q'
   refine .inr ⟨go,fun σ2 H2=>Pers H1 H2/\∃ σD2,DOk X.K H₀ H2 σD2 σ2/\forD g tb Dn (ds.drop (i+1)) σD2,fun σ2 H2 ⟨p2,σD2,ok2,q2⟩=>⟨ds.length-(i+1),by omega,rfl,hlt,p2,σD2,ok2,q2⟩,fun x H2 y=>?_⟩
   obtain⟨s2,r2⟩:=yl x H2 y
   have p2:=pr.trans s2.pers
   refine⟨H₀,σD',ds[i],_,ok'.after s2,r2,q',fun σ3 σD3 _ ok3 _ q3=>?_⟩
   exact⟨H₀,σD3,_,ok3,q3,fun σ4 H4 σD4 ok4 p4 q4=>⟨p2.trans p4,σD4,ok4,q4⟩,fun v H4 r sm rp qr=>⟨r,sm,rp,qr⟩,fun σ4 H4 σD4 ok4 p4 q4=>⟨σD4,ok4,(s1.pers.trans p2).trans p4,q4⟩,fun σ4 H4 σD4 ok4 p4 q4=>⟨p2.trans p4,σD4,ok4,q4⟩⟩
  ·have e:i=ds.length:=by omega
   subst e
   rw [List.drop_length] at q'
   exact .inl ⟨it.stop H' pr,σD',ok',s1.pers.trans pr,q'⟩⟩
variable {ta tb:DTE}
end
def startF(N:List Str)(ws:List W):DSt:=ws.map some++List.replicate (N.length-ws.length) none
section
variable {P:Program}{w:World}{K:PySem.W.Frag}{mg:Str->Option Value}{base:Heap}
theorem DOk.begin{H:Hp}{ws:List W}{vs:List V}(r:RepWs K H ws vs)(N:List Str):DOk K H H (startF N ws) (start N vs):=by
 refine⟨Same.refl _,[],?_,List.nodup_nil,fun a ha=>by cases ha⟩
 unfold startF start
 rw [<-r.length]
 generalize N.length-ws.length=n
 have rep:∀ n:Nat,Slots K H H (List.replicate n none) (List.replicate n none) []:=fun n=>by
  induction n with
  | zero=>exact .nil
  | succ n ih=>exact .none ih
 induction r with
 | nil=>exact rep n
 | @cons w' v ws vs r t ih =>
  cases w' with
  | val d=>exact .val r ih
  | vw xs=>exact .vw r ih
  | vd xs=>exact .vd r ih
  | exc xs=>exact .exc r ih
  | scr ns=>obtain⟨a,rfl,r⟩:=r;exact .scr r ih
  | pen=>obtain⟨a,rfl,r⟩:=r;exact .pen r ih
  | tmp d=>exact r.elim
  | own o=>exact r.elim
theorem Fun.dok{x qual:Str}{st:Stmt}{f:Addr}{fd:FuncData}{N ps:List Str}{k:Nat}{sp:DSp}(F:Fun K x qual st f fd)(S:FnScope N ps (defScope st))(len:∀ ws Q,sp ws Q->ws.length=ps.length)
  (hbody:∀(cdv:Value) (A:Around) (outer:List Env) (s:Shared) (H:Hp) (ws:List W) (Q:Ret->Prop) (E:XK),Room k (A.deeper (envOfC qual (defScope st) s.heap.objs.size f cdv))->sp ws Q ->
   ∃ t,DSs (cxOf CX0 P w K mg base N qual (defScope st) f cdv A outer s H E).nox (defBody st) t/\t { nx:=fun _=>Q (.val .none),rt:=Q } (startF N ws)):FnOk P w K mg base CX0 (k+1) f fd ps (cnSp K sp):=by
 refine F.ok S (fun vs H Q E h=>?_) fun cdv A outer s H vs Q E hr h=>?_
 ·obtain⟨ws,QD,r,q,_⟩:=h
  rw [<-r.length]
  exact len ws QD q
 ·obtain⟨ws,QD,r,q,kk⟩:=h
  obtain⟨t,ht,hq⟩:=hbody cdv A outer s H ws QD E hr q
  refine⟨_,ht.ps,H,_,_,DOk.begin r N,hq,fun σ' H' σD' ok' p' q'=>kk .non H' (.val .none) ok'.same .non q',fun v H' r' sm rp qr=>kk v H' r' sm rp qr,fun _ _ _ _ _ z=>z.elim,fun _ _ _ _ _ z=>z.elim⟩
end
def sp_drawH:Sp:=fun vs H Q _=>∃(p:Addr) (m:Int),vs = [.ref p,.int m]/\0<m/\m<10000000000000000000000000000000000000000000000000000000000000/\Pen H p/\∀(v:Int) H',0<=v->v<m->Pen H' p->But p H H'->Q (.int v) H'
def sp__law_draw:DSp:=fun ws Q=>∃ m:Int,ws = [.pen,.val (.int m)]/\0<m/\m<10000000000000000000000000000000000000000000000000000000000000/\∀ v:Int,0<=v->v<m->Q (.val (.int v))
theorem pen_fn{P:Program}{w:World}{K:PySem.W.Frag}{mg:Str->Option Value}{base:Heap}{k:Nat}{f:Addr}{fd:FuncData}{ps:List Str}(F:FnOk P w K mg base CX0 k f fd ps sp_drawH):FnOk P w K mg base CX0 k f fd ps (cnSp K sp__law_draw):=by
 refine⟨fun vs H Q E h=>?_,fun A outer s H args us vs Q E hr e0 hb hv hs=>?_⟩
 ·obtain⟨ws,QD,rw',⟨m,rfl,hm,hM,q⟩,kk⟩:=h
  cases rw' with
  | cons r1 t=>cases t with
   | cons r2 t =>
    cases t
    obtain⟨p,rfl,hp⟩:=r1
    have r2:Rep K H (.int m) _:=r2
    cases r2
    exact F.len [.ref p,.int m] (upd H p (.lst [.int 0,.int 0,.int 0])) (fun _ _=>True) E ⟨p,m,rfl,hm,hM,⟨0,0,0,upd_same⟩,fun _ _ _ _ _ _=>trivial⟩
 ·obtain⟨ws,QD,rw',⟨m,rfl,hm,hM,q⟩,kk⟩:=hs
  cases rw' with
  | cons r1 t=>cases t with
   | cons r2 t =>
    cases t
    obtain⟨p,rfl,hp⟩:=r1
    have r2:Rep K H (.int m) _:=r2
    cases r2
    obtain⟨⟨x,y,z,tx,ty,tz,n,e⟩,_,_⟩:=e0.hok p _ hp
    have mu:Mut (H p):=by rw [hp];exact trivial
    have hok1:HOk P w (upd H p (.lst [.int x,.int y,.int z])) s.heap:=e0.hok.write (h':=s.heap) mu (.inl rfl) (fun b u _ q=>q) ⟨_,e⟩ ⟨by show 3<=sizeLine;decide,[_,_,_],n,.cons ⟨_,rfl⟩ (.cons ⟨_,rfl⟩ (.cons ⟨_,rfl⟩ .nil)),e⟩
    have nn:∀ b,H b=none->b≠p:=fun b h z=>by rw [z,hp] at h;cases h
    have e1:Env0 P w K mg base A outer s (upd H p (.lst [.int x,.int y,.int z])):=⟨e0.frames,e0.mod,fun b o h=>⟨(e0.bs b o h).1,by rw [upd_ne (nn b (e0.bs b o h).2)];exact(e0.bs b o h).2⟩,e0.bsz,e0.funs,fun b hb=>by rw [upd_ne (nn b (e0.frf b hb))];exact e0.frf b hb,hok1,e0.bare⟩
    refine codeAny_mono (F.run A outer s _ args us [.ref p,.int m] (fun v H'=>∃ i,v=.int i/\0<=i/\i<m/\Pen H' p/\But p (upd H p (.lst [.int x,.int y,.int z])) H') E hr e1 hb hv ⟨p,m,rfl,hm,hM,⟨x,y,z,upd_same⟩,fun v H' h1 h2 h3 h4=>⟨v,rfl,h1,h2,h3,h4⟩⟩) fun r s' z=>?_
    cases r with
    | error e=>exact z
    | ok fl =>
     cases fl with
     | ret u =>
      obtain⟨v,H',os,bare,un,hok',rv,i,rfl,h1,h2,⟨a',b',c',hp'⟩,bt⟩:=z
      obtain⟨zz,its,n',r',e'⟩:=hok' p _ hp'
      have pk:∃(x y z:Int) (tx ty tz:Tok),its = [.int x tx,.int y ty,.int z tz]:=by
       cases r' with
       | cons r1 r=>cases r with
        | cons r2 r=>cases r with
         | cons r3 r =>
          cases r
          obtain⟨t1,rfl⟩:=r1
          obtain⟨t2,rfl⟩:=r2
          obtain⟨t3,rfl⟩:=r3
          exact⟨_,_,_,_,_,_,rfl⟩
      obtain⟨x',y',z',tx',ty',tz',rfl⟩:=pk
      have np:∀{b:Addr} {u:HO},H b=some u->u≠PenO p->b≠p:=fun{b u} h n z=>by rw [z,hp] at h;cases h;exact n rfl
      have hpen:∀{b:Addr},b≠p->upd H' p (PenO p) b=H' b:=fun h=>upd_ne h
      refine⟨.int i,upd H' p (PenO p),os,bare,⟨fun b o h n'=>un.keep b o h (by rw [upd_ne (nn b n')];exact n'),fun b o h n'=>un.slot b o h (by rw [upd_ne (nn b n')];exact n'),fun b o h n' hx=>?_,un.there,fun b xs h=>?_,fun b o u h=>?_,fun b ps h=>?_⟩,?_,rv,kk (.int i) _ (.val (.int i)) (fun b o h=>?_) (show Rep K _ (.int i) (.int i) from .int) (q i h1 h2)⟩
      ·rw [hpen (nn b n')]
       exact un.free b o h (by rw [upd_ne (nn b n')];exact n') hx
      ·have nb:=np h (by unfold PenO;intro z;cases z)
       rw [hpen nb]
       exact un.tups b xs (by rw [upd_ne nb];exact h)
      ·have nb:=np h (by unfold PenO;intro z;cases z)
       rw [hpen nb]
       exact un.frzs b o u (by rw [upd_ne nb];exact h)
      ·have nb:=np h (by unfold PenO;intro z;cases z)
       obtain⟨more,e2⟩:=un.tbls b ps (by rw [upd_ne nb];exact h)
       exact⟨more,by rw [hpen nb];exact e2⟩
      ·exact hok'.write (h':=s'.heap) (by rw [hp'];exact trivial) (.inl rfl) (fun b u _ q=>q) ⟨_,e'⟩ (penO_ok e')
      ·by_cases hb:b=p
       ·subst hb
        rw [hp] at h
        cases h
        exact upd_same
       ·rw [upd_ne hb]
        exact bt b o hb (by rw [upd_ne hb];exact h)
     | next=>exact z
     | brk=>exact z
     | cont=>exact z
section
variable {prog:Program}{w:World}{A:Around}{E:Value->Shared->Prop}{s:Shared}
theorem draw_list{it t:Addr}{items:Array Value}(hne:t≠it):∀(n i:Nat) (s:Shared) (Q:List Value->Shared->Prop),s.heap.IsListIter it t i->s.heap.IsList t items->i+n<=items.size ->
  (∀ h',h'.IsListIter it t (i+n)->Heap.SameBut it s.heap h'->Q ((items.toList.drop i).take n) { s with heap:=h' })->wpAny (model prog w) A (draw (.ref it) n) Q E s
 | 0,i,s,Q,hit,_,_,hQ=>by
  show wpAny _ _ (pure []) Q E s
  exact wpAny_pure (by simpa using hQ s.heap hit (Heap.SameBut.refl ..))
 | n+1,i,s,Q,hit,ht,hle,hQ=>by
  have hlt:i<items.size:=by omega
  show wpAny _ _ (pyNext (.ref it) >>= _) Q E s
  refine wpAny_bind (wpAny_pyNext_list_item hit ht (x:=items[i]) (by simp [hlt]) fun h₁ hit₁ hs₁=>?_)
  have ht1:h₁.IsList t items:=by obtain⟨o,e,r⟩:=ht;exact⟨o,(hs₁.2 t hne).trans e,r⟩
  refine wpAny_bind (wpAny_holding (draw_list hne n (i+1) _ _ hit₁ ht1 (by omega) fun h₂ hit₂ hs₂=>wpAny_pure ?_))
  have hd:items.toList.drop i=items[i]::items.toList.drop (i+1):=by simp [List.drop_eq_getElem_cons,hlt]
  have:=hQ h₂ (by rw [show i+(n+1)=i+1+n by omega];exact hit₂) (hs₁.trans hs₂)
  rw [hd,List.take_succ_cons] at this
  exact this
theorem unpackItems_list{t:Addr}{items:Array Value}{Q:List Value->Shared->Prop}(hh:A.handled=none)(ht:s.heap.IsList t items)
  (hQ:∀ h',Heap.ExtBut s.heap.objs.size s.heap h'->Q items.toList { s with heap:=h' }):wpAny (model prog w) A (unpackItems (.ref t) items.size none) Q E s:=by
 have hlt:t≠s.heap.objs.size:=by obtain⟨o,ho,_⟩:=ht;exact Nat.ne_of_lt (Heap.lt_size ho)
 have push:∀ o:Obj,(s.heap.push o).IsList t items:=fun o=>by obtain⟨o',e,r⟩:=ht;exact⟨o',Heap.get?_push_of_some _ e,r⟩
 unfold unpackItems
 refine wpAny_bind ?_
 ·unfold notIterableAtAll
  refine wpAny_bind (wpAny_specialOf ht.typeIs slot_list_iter.lookup ?_)
  refine wpAny_pure ?_
  simp only [Bool.false_eq_true,if_false]
  refine wpAny_bind (wpAny_holding (wpAny_pyIter_list ht ?_))
  refine wpAny_bind (wpAny_holding (draw_list hlt items.size 0 _ _ ⟨_,Heap.get?_push_size _ rfl,rfl,rfl⟩ (push _) (by omega) fun h₁ hit₁ hs₁=>?_))
  have hall:List.take items.size (List.drop 0 items.toList)=items.toList:=by
   rw [List.drop_zero];exact List.take_of_length_le (by simp)
  rw [hall]
  rw [if_neg (by simp)]
  have ht₁:h₁.IsList t items:=by obtain⟨o',e,r⟩:=push { cls:=.type "list_iterator",data:=.fields #[.ref t,.int 0 0] };exact⟨o',(hs₁.2 t hlt).trans e,r⟩
  refine wpAny_bind (wpAny_holding (wpAny_pyNext_list_end hh hit₁ ht₁ (by simp) fun h₂ he₂=>?_))
  simp only [Option.isSome_none,Bool.false_eq_true,if_false]
  refine wpAny_pure (hQ h₂ fun b o hb e=>he₂ b o hb (hs₁.extBut b o hb (Heap.get?_push_of_some _ e)))
theorem assign_Tuple_list{env:Env}{elts:List Expr}{x1}{pos:Pos}{t:Addr}{items:Array Value}{Q:Unit->Shared->Prop}(hh:A.handled=none)(ht:s.heap.IsList t items)
  (hn:(assignEach elts env).length=items.size) (hstar:(assignEach elts env).findIdx? (·.1)=none)
  (h:∀ h',Heap.ExtBut s.heap.objs.size s.heap h'->wpAny (model prog w) A (assignInOrder ((assignEach elts env).map (·.2)) items.toList) Q E { s with heap:=h' }) :
  wpAny (model prog w) A (assign (.Tuple elts x1 pos) env (.ref t)) Q E s:=by
 rw [assign_Tuple]
 refine wpAny_bind (wpAny_standAt ?_)
 unfold unpack
 rw [hn,hstar]
 exact wpAny_bind (wpAny_holding (unpackItems_list hh ht h))
end
section
variable {X:Cx}{tg iter e:Expr}{es:List Expr}{te:DTE}{tf:DTF}{p pos:Pos}
def dgSeq(n:Nat)(gs:DTGs):DTG:=fun d σ Q=>match d with
 | .tuple xs=>xs.length=n/\gs xs σ Q
 | .list xs=>xs.length=n/\gs xs σ Q
 | _=>False
theorem dg_seq{k:Nat}{is:List Nat}{gs:DTGs}{n:Nat}(hc:X.calm=true)(h:DGs X es is gs)(hn:(assignEach es X.env).length=n:=by rfl)(hst:(assignEach es X.env).findIdx? (·.1)=none:=by rfl):DG X (.Tuple es k pos) is (dgSeq n gs):=⟨fun pins s σ H H₀ σD v u d Q I ok r rp q=>by
 cases d with
 | tuple xs=>exact(dg_tup (k:=k) (pos:=pos) hc h hn hst).run pins s σ H H₀ σD v u _ Q I ok r rp q
 | list xs =>
  obtain⟨hl,q⟩:=q
  cases rp with
  | lst hq rr =>
   cases r
   obtain⟨its,rv,ht,hz⟩:=I.list (.inl (.inr ⟨_,hq⟩))
   refine assign_Tuple_list (I.ok.hd hc) ht.isList (by simp [hn,<-hl,<-rv.length,rr.length]) hst fun h' hx=>?_
   have I1:Inv X pins σ H { s with heap:=h' }:=I.kept (t':=s.toks) fun b o e=>hx b o (Nat.ne_of_lt (Heap.lt_size e)) e
   exact h.run pins _ σ H H₀ σD _ _ xs Q I1 ok (by simpa using rv) rr q
 | _=>exact q.elim⟩
variable {elt:Expr}{ifs:List Expr}{scope:Scope}{cl:List (Str×Addr)}{N' capt:List Str}{k:Nat}{js is:List Nat}{ti:DTF}{g:DTG}{tt:DTT}
inductive RepRs(K:PySem.W.Frag):Hp->Hp->List Ret->List V->Prop
 | nil {H H':Hp} (s:Same H H'):RepRs K H H' [] []
 | val {H H1 H':Hp} {d:D} {v:V} {rs:List Ret} {vs:List V} (s:Same H H1) (r:Rep K H1 d v) (t:RepRs K H1 H' rs vs):RepRs K H H' (.val d::rs) (v::vs)
 | new {H H1 H':Hp} {xs:List D} {a:Addr} {ws:List V} {rs:List Ret} {vs:List V} (s:Same H H1) (n:H a=none) (e:H1 a=some (.lst ws)) (r:Reps K H1 xs ws) (t:RepRs K H1 H' rs vs):RepRs K H H' (.new xs::rs) (.ref a::vs)
theorem RepRs.more{K:PySem.W.Frag}{H H':Hp}{rs:List Ret}{vs:List V}(h:RepRs K H H' rs vs){H2:Hp}(s2:Same H' H2):RepRs K H H2 rs vs:=by
 induction h with
 | nil s=>exact .nil (s.trans s2)
 | val s r _ ih=>exact .val s r (ih s2)
 | new s n e r _ ih=>exact .new s n e r (ih s2)
theorem RepRs.length{K:PySem.W.Frag}{H H':Hp}{rs:List Ret}{vs:List V}(h:RepRs K H H' rs vs):rs.length=vs.length:=by
 induction h with
 | nil s=>rfl
 | val s _ _ ih=>simp [ih]
 | new s _ _ _ _ ih=>simp [ih]
def Ret.w:Ret->W
 | .val d=>.val d
 | .new xs=>.own (.lst xs)
def setVs:List Nat->List V->St->St
 | i::is,v::vs,σ=>setVs is vs (σ.set i (some v))
 | _,_,σ=>σ
abbrev DTM:=DSt->(List Ret->Prop)->Prop
structure DM(X:Cx)(es:List Expr)(t:DTM):Prop where
 run:∀(pos:Pos) (pins:List (Addr×Obj)) (s:Shared) (σ:St) (H H₀:Hp) (σD:DSt) (Q:List Ret->Prop),Inv X pins σ H s->DOk X.K H₀ H σD σ->t σD Q ->
  wpAny (model X.prog X.w) X.A (spliced (backTo pos (starEach es X.env))) (fun us s'=>∃ vs H' rs,Inv X pins σ H' s'/\Vals vs us/\RepRs X.K H H' rs vs/\Q rs) X.xe s
structure DGN(X:Cx)(es:List Expr)(is:List Nat):Prop where
 pgs:PGs X es (fun vs σ H Q=>vs.length=is.length/\Q (setVs is vs σ) H)
section
variable {pins:List (Addr×Obj)}{σ:St}{H:Hp}{s:Shared}
mutual
theorem RepN.reads(I:Inv X pins σ H s):∀{d:D} {v:V} {u:Value},RepN X.K H d v->RelV v u->∃ as,Reads s.heap u d as
 | _,_,_,.non,r=>by cases r;exact⟨_,.none⟩
 | _,_,_,.bl,r=>by cases r;exact⟨_,.bool _⟩
 | _,_,_,.int,r=>by obtain⟨t,rfl⟩:=r;exact⟨_,.int _ _⟩
 | _,_,_,.str,r=>by obtain⟨t,rfl⟩:=r;exact⟨_,.str _ _⟩
 | _,_,_,.tup h q,r=>by
  cases r
  obtain⟨its,rv,⟨o,e1,e2,n,e3⟩,_⟩:=I.tuple h
  obtain⟨as,ra⟩:=RepNs.reads I q rv
  exact⟨_,.tuple e1 e2 e3 (by simpa using ra)⟩
 | _,_,_,.lst h q,r=>by
  cases r
  obtain⟨z,its,n,rv,e⟩:=h.ok I.hok
  obtain⟨as,ra⟩:=RepNs.reads I q rv
  exact⟨_,.list e rfl rfl (by simpa using ra)⟩
theorem RepNs.reads(I:Inv X pins σ H s):∀{ds:List D} {vs:List V} {us:List Value},RepNs X.K H ds vs->Vals vs us->∃ as,ReadsAll s.heap us ds as
 | _,_,_,.nil,r=>by cases r;exact⟨_,.nil⟩
 | _,_,_,.cons q t,r=>by
  cases r with
  | cons r1 r2 =>
   obtain⟨as,ra⟩:=RepN.reads I q r1
   obtain⟨bs,rb⟩:=RepNs.reads I t r2
   exact⟨_,.cons ra rb⟩
end
end
def DEndN(X:Cx)(pins:List (Addr×Obj))(σ:St)(H:Hp)(Q:D->Prop)(u:Value)(s':Shared):Prop:=∃ v H' d,Inv X pins σ H' s'/\RelV v u/\Same H H'/\RepN X.K H' d v/\Q d
structure DN(X:Cx)(e:Expr)(t:DTE):Prop where
 run:∀(pins:List (Addr×Obj)) (s:Shared) (σ:St) (H H₀:Hp) (σD:DSt) (Q:D->Prop),Inv X pins σ H s->DOk X.K H₀ H σD σ->t σD Q->wpAny (model X.prog X.w) X.A (eval e X.env) (DEndN X pins σ H Q) X.xe s
structure DAn(X:Cx)(es:List Expr)(t:DTF):Prop where
 run:∀(pos:Pos) (pins:List (Addr×Obj)) (s:Shared) (σ:St) (H H₀:Hp) (σD:DSt) (Q:List D->Prop),Inv X pins σ H s->DOk X.K H₀ H σD σ->t σD Q ->
  wpAny (model X.prog X.w) X.A (spliced (backTo pos (starEach es X.env))) (fun us s'=>∃ vs H' ds,Inv X pins σ H' s'/\Vals vs us/\Same H H'/\RepNs X.K H' ds vs/\Q ds) X.xe s
def cnN(K:PySem.W.Frag)(t:DTE):TE:=fun σ H Q=>∃ H₀ σD QD,DOk K H₀ H σD σ/\t σD QD/\∀ v H' d,Same H H'->RepN K H' d v->QD d->Q v H'
def cnAn(K:PySem.W.Frag)(t:DTF):TA:=fun σ H Q=>∃ H₀ σD QD,DOk K H₀ H σD σ/\t σD QD/\∀ vs H' ds,Same H H'->RepNs K H' ds vs->QD ds->Q vs H'
theorem DN.pe{t:DTE}(h:DN X e t):PE X e (cnN X.K t):=fun pins s σ H Q I ⟨H₀,σD,QD,ok,q,k⟩=>thn (h.run pins s σ H H₀ σD QD I ok q) fun u s' ⟨v,H',d,I',r,sm,rp,qd⟩=>⟨v,H',I',r,k v H' d sm rp qd⟩
theorem DAn.pa{t:DTF}(h:DAn X es t):PA X es (cnAn X.K t):=fun pos pins s σ H Q I ⟨H₀,σD,QD,ok,q,k⟩=>thn (h.run pos pins s σ H H₀ σD QD I ok q) fun us s' ⟨vs,H',ds,I',r,sm,rp,qd⟩=>⟨vs,H',I',r,k vs H' ds sm rp qd⟩
theorem DN.of{t:DTE}{t':TE}(h:PE X e t')(k:∀ σ H H₀ σD QD,DOk X.K H₀ H σD σ->t σD QD->t' σ H (fun v H'=>∃ d,Same H H'/\RepN X.K H' d v/\QD d)):DN X e t :=
 ⟨fun pins s σ H H₀ σD Q I ok q=>thn (h pins s σ H _ I (k σ H H₀ σD Q ok q)) fun u s' ⟨v,H',I',r,d,sm,rp,qd⟩=>⟨v,H',d,I',r,sm,rp,qd⟩⟩
theorem nodict{d:D}(c:d.canLay0=true):∀ kvs,d ≠ .dict kvs:=fun kvs e=>by subst e;simp [PyData.canLay0] at c
def dNowV(i:Nat):DTE:=fun σ Q=>match σ[i]? with
 | some (some (.val d))=>d.canLay0=true/\Q d
 | some (some (.own (.lst xs)))=>PyData.canLayAll0 xs=true/\Q (.list xs)
 | some (some (.vw xs))=>PyData.canLayAll0 xs=true/\Q (.list xs)
 | some (some (.tmp d))=>Q d
 | _=>False
theorem dn_var(i:Nat){x:Str}{pos:Pos}(hN:X.N[i]?=some x:=by rfl)(hv:Vis X.env.scope x:=by first | exact Or.inl rfl | exact Or.inr (Or.inl rfl) | exact Or.inr (Or.inr rfl))(hd:(x == ("__debug__" : Str))=false:=by decide)
  (hcd:(x == ("__classdict__" : Str))=false:=by decide):DN X (.Name x pos) (dNowV i):=by
 refine DN.of (pe_var (i:=i) hN hv hd hcd) fun σ H H₀ σD QD ok q=>?_
 unfold dNowV at q
 split at q
 ·next d e =>
  obtain⟨v,e1,r⟩:=ok.val e
  exact⟨v,e1,d,Same.refl _,r.now (nodict q.1) q.1,q.2⟩
 ·next xs e =>
  obtain⟨a,vs,e1,e2,r,_⟩:=ok.ownL e
  exact⟨.ref a,e1,.list xs,Same.refl _,.lst (.inl e2) (r.now q.1),q.2⟩
 ·next xs e =>
  obtain⟨v,e1,a,vs,rfl,e2,r⟩:=ok.vw e
  exact⟨.ref a,e1,.list xs,Same.refl _,.lst e2 (r.now q.1),q.2⟩
 ·next d e =>
  obtain⟨v,e1,r⟩:=ok.tmp e
  exact⟨v,e1,d,Same.refl _,r,q⟩
 ·exact q.elim
theorem dan_nil:DAn X [] dNil:=⟨fun pos pins s σ H H₀ σD Q I ok q=>thn (pa_nil pos pins s σ H (fun vs H'=>vs = []/\H'=H) I ⟨rfl,rfl⟩) fun us s' ⟨vs,H',I',r,e1,e2⟩=>by subst e1 e2;exact⟨[],H',[],I',r,Same.refl _,.nil,q⟩⟩
theorem dan_cons{t:DTE}{r:DTF}(ha:DN X e t)(hr:DAn X es r)(hs:starEach (e::es) X.env=(false,eval e X.env)::starEach es X.env:=by rfl):DAn X (e::es) (dCons t r):=⟨fun pos pins s σ H H₀ σD Q I ok q=>by
 refine thn (pa_cons ha.pe hr.pa hs pos pins s σ H (fun vs H'=>∃ ds,Same H H'/\RepNs X.K H' ds vs/\Q ds) I ?_) fun us s' ⟨vs,H',I',r,ds,sm,rp,qd⟩=>⟨vs,H',ds,I',r,sm,rp,qd⟩
 exact⟨H₀,σD,_,ok,q,fun v H1 d s1 r1 q1=>⟨H₀,σD,_,ok.after s1,q1,fun vs H2 ds s2 r2 q2=>⟨d::ds,s1.trans s2,.cons (r1.same s2) r2,q2⟩⟩⟩⟩
theorem RepNs.length{K:PySem.W.Frag}{H:Hp}:∀{ds:List D} {vs:List V},RepNs K H ds vs->ds.length=vs.length
 | _,_,.nil=>rfl
 | _,_,.cons _ t=>by simp [t.length]
end
section
variable {X:Cx}{tg iter e:Expr}{es:List Expr}{te:DTE}{tf:DTF}{p pos:Pos}
end
section
variable {prog:Program}{w:World}{A:Around}{E:Value->Shared->Prop}{s:Shared}
theorem zDraws{b:Bool}{it l:Addr}{items:Array Value}(hh:A.handled=none)(hne:l≠it):Draws prog w A it [it,l] items.size (fun i x=>items[i]?=some x) (fun i h=>zIt b h it l i/\zSq b h l items) where
 live:=fun i h st=>by
  obtain⟨o,e,_⟩:=st.1.own
  exact⟨o,e⟩
 frame:=fun i h h' st k=>⟨st.1.at fun o e=>k it (by simp) o e,by
  cases b
  ·obtain⟨o,e,r⟩:=(show h.IsList l items from st.2);exact(show h'.IsList l items from⟨o,k l (by simp) o e,r⟩)
  ·obtain⟨o,e,r⟩:=(show h.IsTuple l items from st.2);exact(show h'.IsTuple l items from⟨o,k l (by simp) o e,r⟩)⟩
 item:=fun i s Q E hi st hQ=>by
  refine znext_item st.1 st.2 (x:=items[i]) (by simp [hi]) fun h' hit' hs'=>?_
  refine hQ _ h' s.toks (by simp [hi]) ⟨hit',?_⟩ hs'
  cases b
  ·obtain⟨o,e,r⟩:=(show s.heap.IsList l items from st.2);exact(show h'.IsList l items from⟨o,(hs'.2 l hne).trans e,r⟩)
  ·obtain⟨o,e,r⟩:=(show s.heap.IsTuple l items from st.2);exact(show h'.IsTuple l items from⟨o,(hs'.2 l hne).trans e,r⟩)
 done:=fun s Q E st hE=>znext_end hh st.1 st.2 (by simp) hE
theorem meets_enumG(b:Bool)(l:Addr)(items:Array Value):
  Meets (Builtin.«enumerate.__new__» ⟨[.type "enumerate",.ref l],[]⟩) (fun _ R s=>zSq b s.heap l items /\
   R (.ok (.ret (.ref (s.heap.push (zOb b l)).objs.size)))
    { s with heap:=(s.heap.push (zOb b l)).push { cls:=.type "enumerate",data:=.fields #[.none,.bool false,.ref s.heap.objs.size,rawInt 0,.none,.none] } }) :=
 .of_wp fun prog w A R s h=>by
  obtain⟨hp,g,d,tk,os⟩:=s;obtain⟨hl,h⟩:=h
  have hsub:=sub_enumerate
  wp_walk
  refine wpAny_stack_any fun st=>wpAny_pure ?_
  split
  ·rename_i c _ _ _ _ _
   cases (c == Value.type "enumerate")
   ·wp_walk using ziter hl
    exact⟨_,rfl,h⟩
   ·wp_walk using ziter hl
    exact⟨_,rfl,h⟩
  ·wp_walk using ziter hl
   exact⟨_,rfl,h⟩
theorem call_enumG{b:Bool}{l:Addr}{items:Array Value}{Q:Value->Shared->Prop}(hL:zSq b s.heap l items)
  (h:∀ h',IsEnum h' (s.heap.objs.size+1) s.heap.objs.size 0 .none->zIt b h' s.heap.objs.size l 0->h'.objs.size=s.heap.objs.size+2 ->
   (∀ b o,s.heap.get? b=some o->h'.get? b=some o)->Q (.ref (s.heap.objs.size+1)) { s with heap:=h' }) :
  wpAny (model prog w) A (call (.type "enumerate") [.ref l]) Q E s:=by
 refine callType_new F.called_enumerate (by decide) (F.typeCall_enumerate_1 _) (F.newCall_enumerate_1 _) (fun obj=>F.args_object_init_2 obj _) F.entry_enumerate_new (meets_enumG b l items) ⟨hL,?_⟩
 have hz:(s.heap.push (zOb b l)).objs.size=s.heap.objs.size+1:=Heap.size_push ..
 show _/\_
 rw [hz]
 have he:IsEnum ((s.heap.push (zOb b l)).push
   { cls:=.type "enumerate",data:=.fields #[.none,.bool false,.ref s.heap.objs.size,rawInt 0,.none,.none] }) (s.heap.objs.size+1) s.heap.objs.size 0 .none:=by
  have:=Heap.get?_push_size (s.heap.push (zOb b l))
   (o:={ cls:=.type "enumerate",data:=.fields #[.none,.bool false,.ref s.heap.objs.size,rawInt 0,.none,.none] }) rfl
  rw [hz] at this;exact this
 have hi:zIt b ((s.heap.push (zOb b l)).push { cls:=.type "enumerate",data:=.fields #[.none,.bool false,.ref s.heap.objs.size,rawInt 0,.none,.none] }) s.heap.objs.size l 0:=by
  have g:((s.heap.push (zOb b l)).push { cls:=.type "enumerate",data:=.fields #[.none,.bool false,.ref s.heap.objs.size,rawInt 0,.none,.none] }).get? s.heap.objs.size=some (zOb b l):=Heap.get?_push_of_some _ (Heap.get?_push_size _ rfl)
  cases b
  ·exact⟨_,g,rfl,rfl⟩
  ·exact⟨_,g,rfl,rfl⟩
 exact⟨⟨_,he,rfl⟩,h _ he hi (by rw [Heap.size_push,hz]) fun b o x=>Heap.get?_push_of_some _ (Heap.get?_push_of_some _ x)⟩
end
def IteG(b:Bool)(K:PySem.W.Frag)(a:Addr):It :=
 ⟨fun i H=>∃ xs x,SqG b K H a xs/\xs[i]?=some x,fun i H v H'=>∃ p x,H p=none/\v=.ref p/\H'=upd H p (.tup [.int i,x])/\∀ xs,SqG b K H a xs->xs[i]?=some x,fun i H=>∃ xs,SqG b K H a xs/\xs.length<=i⟩
theorem turn_enumG{P:Program}{w:World}{K:PySem.W.Frag}{b:Bool}{elts:List Expr}{x1}{tpos:Pos}{l e it:Addr}(hne:e≠it)(hle:l≠it)(hel:e≠l):
  Turn P w K (.Tuple elts x1 tpos) (IteG b K l) [e,it] e (fun i h=>(∃ old,IsEnum h e it i old)/\zIt b h it l i) where
 mem:=by simp
 obj:=fun i h st c hb=>by
  obtain⟨⟨old,he⟩,h1⟩:=st
  simp only [List.mem_cons,List.not_mem_nil,or_false] at hb
  rcases hb with rfl | rfl
  ·exact⟨_,he,fun v q=>by cases (show Data.fields _=Data.cell v from q)⟩
  ·exact h1.own
 keep:=fun i h h' st k=>by
  obtain⟨⟨old,he⟩,h1⟩:=st
  exact⟨⟨old,k _ (by simp) _ he⟩,h1.at fun o e=>k it (by simp) o e⟩
 item:=by
  intro X hP hw hK hc i pins s σ H E I hf st hg
  subst hP hw hK
  obtain⟨xs,x,hq,hx⟩:=hg
  obtain⟨⟨old,he⟩,h1⟩:=st
  obtain⟨its,rv,p,hz⟩:=I.sqG hq
  obtain⟨u,hu,ru⟩:=rv.get hx
  have hlt:i<its.toArray.size:=by have:=(List.getElem?_eq_some_iff.mp hu).1;simpa using this
  refine wpAny_pyNext_enum_itemD (zDraws (b:=b) (A:=X.A.in1) (I.ok.hd hc) hle) he ⟨h1,p⟩ hlt hne (by simp [hne,hel]) fun u' h' tk hu' he' h1' hp' hsz hk=>⟨_,rfl,?_⟩
  have eu:u'=u:=by
   have e1:its.toArray[i]?=some u:=by simpa using hu
   rw [e1] at hu';exact(Option.some.inj hu').symm
  subst eu
  refine wpAny_letOwnedTupleGo_enum he' fun h'' he'' hsb=>?_
  have ne:s.heap.objs.size≠e:=fun q=>by have:=Heap.lt_size he;rw [<-q] at this;exact Nat.lt_irrefl _ this
  have hp2:=(hsb.2 _ ne).trans hp'
  have nb:∀ c o,s.heap.get? c=some o->c≠s.heap.objs.size:=fun c o e=>Nat.ne_of_lt (Heap.lt_size e)
  have I1:Inv X pins σ (upd H s.heap.objs.size (.tup [.int i,x])) { s with heap:=h'',toks:=tk+1 }:=by
   refine I.turnedNew (ch:=[e,it]) hf (Nat.le_refl _) (fun b u hb e=>?_) ⟨by simp [sizeLine_eq],[.int i tk,u'],.cons ⟨_,rfl⟩ (.cons ru .nil),?_⟩
   ·simp only [List.mem_cons,List.not_mem_nil,or_false,not_or] at hb
    exact(hsb.2 b hb.1).trans (hk b u hb.1 hb.2 e)
   ·exact⟨_,hp2,rfl,⟨_,rfl⟩,rfl⟩
  refine⟨.ref s.heap.objs.size,_,I1,rfl,⟨_,x,I.hok.fresh (Nat.le_refl _),rfl,rfl,fun xs' h=>by rw [I.sqG_inj h hq];exact hx⟩,⟨⟨_,he''⟩,?_⟩,fun b hb=>?_⟩
  ·exact h1'.1.at fun o e'=>(hsb.2 _ (Ne.symm hne)).trans e'
  ·rw [upd_ne]
   ·exact(hf b hb).1
   ·intro q
    subst q
    simp only [List.mem_cons,List.not_mem_nil,or_false] at hb
    obtain⟨o1,e1,_⟩:=h1.own
    rcases hb with q | q
    ·exact nb _ _ he q.symm
    ·exact nb _ _ e1 q.symm
 done:=by
  intro X hP hw hK hc i pins s σ H E I hf st hg
  subst hP hw hK
  obtain⟨xs,hq,hl⟩:=hg
  obtain⟨⟨old,he⟩,h1⟩:=st
  obtain⟨its,rv,p,hz⟩:=I.sqG hq
  have e1:=rv.length
  have hT:s.TypeIs (.ref e) "enumerate" :=⟨_,he,rfl⟩
  unfold pyNext
  refine wpAny_bind (wpAny_attempt (wpAny_callSpecial?_slot (name:=Str.ofString "__next__") hT F.slot_enumerate_next
   (wpAny_call_entry F.slot_enumerate_next hT F.entry_enumerate_next ?_ (F.args_enumerate_next_1 _))))
  show wpAny _ _ (field (.ref e) 2 >>= _) _ _ _
  refine wpAny_bind (wpAny_field he rfl (x:=.ref it) rfl ?_)
  refine wpAny_bind (znext_end (b:=b) (A:=X.A.in1) (I.ok.hd hc) h1 p (by simp;omega) fun h' x he' hx'=>?_)
  obtain⟨o,ho,hcc⟩:=hx'
  refine wpAny_bind (wpAny_isInstance (T := "StopIteration") (b:=true) ⟨o,ho,hcc⟩ isSubtype_stop ?_)
  refine wpAny_pure ⟨rfl,?_⟩
  refine I.turnedL (t':=s.toks) (ch:=[e,it]) hf fun b u hb e=>?_
  simp only [List.mem_cons,List.not_mem_nil,or_false,not_or] at hb
  exact he' b u hb.2 e
 self:=fun _ _ _ _ _ st h=>by
  obtain⟨⟨old,he⟩,h1⟩:=st
  exact wpAny_pyIter_enum he h
section
variable {X:Cx}{a:Expr}{t:DTF}{p pos:Pos}
theorem pi_enumX{elts:List Expr}{x1}{tpos:Pos}{ta:TA}(hg:Gl X "enumerate")(hm:X.mg "enumerate" = none)(ha:PA X [a] ta)(hs:starEach [a] X.env = [(false,eval a X.env)]:=by rfl):
  PI X (.Tuple elts x1 tpos) (.Call (.Name "enumerate" p) [a] [] pos) (fun σ H R=>ta σ H fun vs H1=>∃ b a,vs = [.ref a]/\(∃ xs,SqG b X.K H1 a xs)/\R (IteG b X.K a) H1):=by
 intro pins s σ H R I h
 refine Call_ (ld_blt I hg hm boot_enumerate (PyProof.Rows.callWith_type1 (thn (ha pos pins s σ H _ I h) fun us s1 ⟨vs,H1,I1,r1,q1⟩=>?_) hs rfl))
 obtain⟨b,l,e,⟨xs,hq⟩,q⟩:=q1
 subst e
 obtain⟨v1,rfl,r1'⟩:=r1.one
 cases r1'
 obtain⟨its,rv,p,hz⟩:=I1.sqG hq
 have hlt:=p.lt
 refine call_enumG p fun h' he hi hsz hk=>wpAny_pyIter_enum he ?_
 have I2:Inv X pins σ H1 { s1 with heap:=h' }:=I1.kept (t':=s1.toks) hk
 refine⟨_,[s1.heap.objs.size+1,s1.heap.objs.size],_,_,H1,rfl,I2,turn_enumG (Nat.ne_of_gt (Nat.lt_succ_self _)) (Nat.ne_of_lt hlt) (Nat.ne_of_gt (Nat.lt_succ_of_lt hlt)),⟨⟨_,he⟩,hi⟩,fun b hb=>?_,q⟩
 have hb':s1.heap.objs.size<=b:=by
  simp only [List.mem_cons,List.not_mem_nil,or_false] at hb
  rcases hb with rfl | rfl <;> omega
 exact I1.fpOk hb' (I1.hok.fresh hb')
theorem iteG_ok{K:PySem.W.Frag}{Kp:Hp->Hp->Prop}{H1:Hp}{b:Bool}{a:Addr}{xs:List D}{vs:List V}(kp:∀ H,Kp H1 H->SqG b K H a vs/\Reps K H xs vs):ItOk K Kp (IteG b K a) H1 (enumD 0 xs) where
 go:=fun H i d k e=>by
  obtain⟨hs,r⟩:=kp H k
  obtain⟨y,e1,rfl⟩:=enumD_get e
  obtain⟨v,e2,r1⟩:=r.get e1
  refine⟨⟨vs,v,hs,e2⟩,fun x H' yl=>?_⟩
  obtain⟨p,w,hp,rfl,rfl,y⟩:=yl
  have:=y vs hs
  rw [e2] at this
  cases this
  refine⟨same_new hp _,.tup (SqT.of upd_same) (.cons ?_ (.cons (r1.same (same_new hp _)) .nil))⟩
  rw [Nat.zero_add]
  exact .int
 stop:=fun H k=>by
  obtain⟨hs,r⟩:=kp H k
  exact⟨vs,hs,by rw [enumD_len,r.length];exact Nat.le_refl _⟩
def dEnumX(t:DTF):DTF:=fun σ Q=>t σ fun ds=>match ds with
 | [.list xs]=>Q (enumD 0 xs)
 | [.tuple xs]=>Q (enumD 0 xs)
 | _=>False
theorem di_enumX{elts:List Expr}{x1}{tpos:Pos}(hg:Gl X "enumerate")(hm:X.mg "enumerate" = none)(ha:DA X [a] t)(hs:starEach [a] X.env = [(false,eval a X.env)]:=by rfl):
  DI X (.Tuple elts x1 tpos) (.Call (.Name "enumerate" p) [a] [] pos) (dEnumX t) :=
 ⟨fun pins s σ H R I ⟨H₀,σD,QD,ok,q,k⟩=>pi_enumX hg hm ha.pa hs pins s σ H R I ⟨H₀,σD,_,ok,q,fun vs H1 ds s1 r1 q1=>by
  have key:∀ d xs,ds = [d]->(d=.list xs\/d=.tuple xs)->QD (enumD 0 xs)->∃ b a,vs = [.ref a]/\(∃ xs,SqG b X.K H1 a xs)/\R (IteG b X.K a) H1:=fun d xs e1 e2 q2=>by
   subst e1
   cases r1 with
   | cons r t =>
    cases t
    obtain⟨b,l,ws,rfl,kk⟩:=r.seqP e2
    exact⟨b,l,rfl,⟨ws,(kk _ (Pers.refl _)).1⟩,k _ _ _ s1 (iteG_ok fun H' pr=>kk H' pr) q2⟩
  split at q1
  ·exact key _ _ rfl (.inl rfl) q1
  ·exact key _ _ rfl (.inr rfl) q1
  ·exact q1.elim⟩⟩
end
theorem lcD_fm{f:D->(Option D->Prop)->Prop}(F:D->Option D):∀{ds:List D} {Q:List D->Prop},(∀ d∈ds,∀ k:Option D->Prop,k (F d)->f d k)->Q (ds.filterMap F)->lcD f ds Q
 | [],Q,_,q=>q
 | d::ds,Q,h,q=>h d List.mem_cons_self _ (lcD_fm F (fun e he=>h e (List.mem_cons_of_mem _ he)) (by
   rw [List.filterMap_cons] at q
   cases e:F d with
   | none=>rw [e] at q;exact q
   | some y=>rw [e] at q;exact q))
theorem lcD_map{f:D->(Option D->Prop)->Prop}(F:D->D){ds:List D}{Q:List D->Prop}(h:∀ d∈ds,∀ k:Option D->Prop,k (some (F d))->f d k)(q:Q (ds.map F)):lcD f ds Q :=
 lcD_fm (fun d=>some (F d)) h (by rw [List.filterMap_eq_map'];exact q)
theorem lcD_all{f:D->(Option D->Prop)->Prop}(Pv:D->D->Prop):∀{ds:List D} {Q:List D->Prop},(∀ d∈ds,∀ k:Option D->Prop,(∀ y,Pv d y->k (some y))->f d k)->(∀ ys,Paired Pv ds ys->Q ys)->lcD f ds Q
 | [],Q,_,q=>q [] .nil
 | d::ds,Q,h,q=>h d List.mem_cons_self _ fun y hy=>lcD_all Pv (fun e he=>h e (List.mem_cons_of_mem _ he)) fun ys hys=>q (y::ys) (.cons hy hys)
theorem lcD_fmT{α:Type}{f:D->(Option D->Prop)->Prop}(enc:α->D)(F:α->Option D){as:List α}{Q:List D->Prop}(h:∀ a∈as,∀ k:Option D->Prop,k (F a)->f (enc a) k)(q:Q (as.filterMap F)):lcD f (as.map enc) Q:=by
 induction as generalizing Q with
 | nil=>exact q
 | cons a as ih =>
  refine h a List.mem_cons_self _ (ih (fun e he=>h e (List.mem_cons_of_mem _ he)) ?_)
  rw [List.filterMap_cons] at q
  cases e:F a with
  | none=>rw [e] at q;exact q
  | some y=>rw [e] at q;exact q
theorem lcD_mapT{α:Type}{f:D->(Option D->Prop)->Prop}(enc:α->D)(F:α->D){as:List α}{Q:List D->Prop}(h:∀ a∈as,∀ k:Option D->Prop,k (some (F a))->f (enc a) k)(q:Q (as.map F)):lcD f (as.map enc) Q :=
 lcD_fmT enc (fun a=>some (F a)) h (by rw [List.filterMap_eq_map'];exact q)
theorem lcD_rangeA{f:D->(Option D->Prop)->Prop}{lo:Int}{n:Nat}{Q:List D->Prop}(Pv:D->Prop)(h:∀ d,∀ k:Option D->Prop,(∀ y,Pv y->k (some y))->f d k)(q:∀ ys:List D,ys.length=n->(∀ y∈ys,Pv y)->Q ys):lcD f (rangeD lo n) Q:=by
 refine lcD_all (fun _ y=>Pv y) (fun d _ k hk=>h d k hk) fun ys hys=>q ys ?_ ?_
 ·have:=Paired.length hys
  rw [<-this]
  simp [rangeD]
 ·clear q h
  generalize rangeD lo n=ds at hys
  induction hys with
  | nil=>intro y hy;cases hy
  | cons r t ih=>intro y hy;rcases List.mem_cons.mp hy with rfl | hy;exact r;exact ih y hy
theorem mem_enc{α:Type}{Pv:α->Prop}{enc:α->D}:∀{ys:List D},(∀ y∈ys,∃ a,y=enc a/\Pv a)->∃ as:List α,ys=as.map enc/\∀ a∈as,Pv a
 | [],_=>⟨[],rfl,fun a ha=>by cases ha⟩
 | y::ys,h=>by
  obtain⟨a,rfl,pa⟩:=h y List.mem_cons_self
  obtain⟨as,rfl,pas⟩:=mem_enc fun z hz=>h z (List.mem_cons_of_mem _ hz)
  exact⟨a::as,rfl,fun b hb=>by rcases List.mem_cons.mp hb with rfl | hb;exact pa;exact pas b hb⟩
theorem atI_ok{α:Type}{xs:List α}{k:Int}(h0:0<=k)(h1:k<xs.length):∃ v,atI xs k=some v/\v∈xs:=atI_ex h0 h1
theorem atI_zero{α:Type}(x:α)(xs:List α):atI (x::xs) 0=some x:=by
 have:=atI_nat (xs:=x::xs) (j:=0) (v:=x) rfl
 simpa using this
theorem atI_one{α:Type}(x y:α)(xs:List α):atI (x::y::xs) 1=some y:=by
 have:=atI_nat (xs:=x::y::xs) (j:=1) (v:=y) rfl
 simpa using this
theorem pickD{xs:List D}{k:Int}{Q:D->Prop}(h0:0<=k)(h1:k<xs.length)(h:∀ x∈xs,Q x):∃ d,atI xs k=some d/\Q d:=by
 obtain⟨v,e,m⟩:=atI_ex h0 h1
 exact⟨v,e,h v m⟩
theorem pickI{ns:List Int}{k lo hi:Int}{Q:D->Prop}(h0:0<=k)(h1:k<ns.length)(hb:∀ n∈ns,lo<=n/\n<=hi)(h:∀ n:Int,lo<=n->n<=hi->Q (.int n)):∃ d,atI (ns.map PyData.int) k=some d/\Q d :=
 pickD h0 (by simpa using h1) fun x hx=>by
  obtain⟨n,hn,rfl⟩:=List.mem_map.mp hx
  exact h n (hb n hn).1 (hb n hn).2
theorem sliceD_map{α:Type}(enc:α->D)(xs:List α)(lo hi:Option Int):∃ ys:List α,sliceD (xs.map enc) lo hi=ys.map enc/\(∀ y∈ys,y∈xs)/\ys.length<=xs.length:=by
 refine⟨(xs.drop (HT.sIx xs.length 0 lo)).take (HT.sIx xs.length xs.length hi-HT.sIx xs.length 0 lo),?_,fun y hy=>List.mem_of_mem_drop (List.mem_of_mem_take hy),?_⟩
 ·unfold sliceD
  rw [List.length_map,List.map_take,List.map_drop]
 ·rw [List.length_take,List.length_drop];omega
structure Sh(d:D)(n k:Nat):Prop where
 can:d.canLay0=true
 sho:d.showable=true
 dep:d.depth<=k
 len:d.shown.length<=n
theorem Sh.mono{d:D}{n k n' k':Nat}(h:Sh d n k)(h1:n<=n')(h2:k<=k'):Sh d n' k':=⟨h.can,h.sho,Nat.le_trans h.dep h2,Nat.le_trans h.len h1⟩
theorem Sh.none:Sh .none 4 0:=⟨rfl,rfl,Nat.le_refl _,Nat.le_of_ble_eq_true rfl⟩
theorem Sh.bool{b:Bool}:Sh (.bool b) 5 0:=⟨rfl,rfl,Nat.le_refl _,by cases b <;> exact Nat.le_of_ble_eq_true rfl⟩
theorem log_lt{i:Int}(h:i.natAbs<10 ^ 40):i.natAbs.log2<1920:=by
 by_cases h0:i.natAbs=0
 ·rw [h0];decide
 ·exact(Nat.log2_lt h0).mpr (Nat.lt_of_lt_of_le h (Nat.le_trans (by decide:10 ^ 40<=2 ^ 200) (Nat.pow_le_pow_right (by decide) (by decide))))
theorem Sh.int{i:Int}(h:i.natAbs<10 ^ 40):Sh (.int i) 41 0 :=
 ⟨rfl,by simp only [PyData.showable];exact decide_eq_true (log_lt h),Nat.le_refl _,by
  have:=int_text_length_le10 (a:=i) (k:=40) (by decide) h
  simp only [PyData.shown]
  show(Str.ofString (toString i)).length<=41
  rw [PySem.ofString_length]
  exact this⟩
theorem Sh.intB{i:Int}(h1 : -1000000000000000000000000000000000000000<=i)(h2:i<=1000000000000000000000000000000000000000):Sh (.int i) 41 0:=Sh.int (by omega)
theorem shAll_can:∀{xs:List D} {n k:Nat},(∀ x∈xs,Sh x n k)->PyData.canLayAll0 xs=true
 | [],_,_,_=>rfl
 | x::xs,n,k,h=>by simp only [PyData.canLayAll0,(h x List.mem_cons_self).can,shAll_can fun y hy=>h y (List.mem_cons_of_mem _ hy),Bool.and_self]
theorem shAll_sho:∀{xs:List D} {n k:Nat},(∀ x∈xs,Sh x n k)->PyData.showableAll xs=true
 | [],_,_,_=>rfl
 | x::xs,n,k,h=>by simp only [PyData.showableAll,(h x List.mem_cons_self).sho,shAll_sho fun y hy=>h y (List.mem_cons_of_mem _ hy),Bool.and_self]
theorem shAll_dep:∀{xs:List D} {n k:Nat},(∀ x∈xs,Sh x n k)->PyData.depthAll xs<=k
 | [],_,_,_=>Nat.zero_le _
 | x::xs,n,k,h=>by
  simp only [PyData.depthAll]
  exact Nat.max_le.mpr ⟨(h x List.mem_cons_self).dep,shAll_dep fun y hy=>h y (List.mem_cons_of_mem _ hy)⟩
theorem shAll_len:∀{xs:List D} {n k:Nat},(∀ x∈xs,Sh x n k)->((PyData.shownAll xs).map (·.length)).sum<=xs.length * n
 | [],_,_,_=>by simp [PyData.shownAll]
 | x::xs,n,k,h=>by
  simp only [PyData.shownAll,List.map_cons,List.sum_cons,List.length_cons]
  have h1:=(h x List.mem_cons_self).len
  have h2:=shAll_len fun y hy=>h y (List.mem_cons_of_mem _ hy)
  rw [Nat.succ_mul]
  omega
theorem shownAll_length:∀ xs:List D,(PyData.shownAll xs).length=xs.length
 | []=>rfl
 | x::xs=>by simp only [PyData.shownAll,List.length_cons,shownAll_length xs]
theorem Sh.lst{xs:List D}{n k m:Nat}(h:∀ x∈xs,Sh x n k)(hl:xs.length<=m):Sh (.list xs) (m * (n+2)+3) (k+1) where
 can:=by simpa [PyData.canLay0] using shAll_can h
 sho:=by simpa [PyData.showable] using shAll_sho h
 dep:=by simp only [PyData.depth];have:=shAll_dep h;omega
 len:=by
  simp only [PyData.shown]
  have h1:=listText_len_le (PyData.shownAll xs)
  have h2:=shAll_len h
  rw [shownAll_length] at h1
  have h3:xs.length * (n+2)<=m * (n+2):=Nat.mul_le_mul_right _ hl
  rw [Nat.mul_add] at h3
  omega
theorem Sh.tup{xs:List D}{n k m:Nat}(h:∀ x∈xs,Sh x n k)(hl:xs.length<=m):Sh (.tuple xs) (m * (n+2)+3) (k+1) where
 can:=by simpa [PyData.canLay0] using shAll_can h
 sho:=by simpa [PyData.showable] using shAll_sho h
 dep:=by simp only [PyData.depth];have:=shAll_dep h;omega
 len:=by
  simp only [PyData.shown]
  have h1:=tupleText_len_le (PyData.shownAll xs)
  have h2:=shAll_len h
  rw [shownAll_length] at h1
  have h3:xs.length * (n+2)<=m * (n+2):=Nat.mul_le_mul_right _ hl
  rw [Nat.mul_add] at h3
  omega
theorem Sh.lay{d:D}{n k:Nat}(h:Sh d n k)(hk:k<=64):Lay d:=by
 unfold Lay SeqAt.shaped
 rw [Bool.and_eq_true]
 exact⟨h.can,decide_eq_true (Nat.le_trans h.dep hk)⟩
theorem Sh.all{d:D}{n k:Nat}(h:Sh d n k)(hk:k<=64)(hn:n<=16777216):Lay d/\d.showable=true/\d.shown.length<=sizeLine:=⟨h.lay hk,h.sho,Nat.le_trans h.len (by rw [sizeLine_eq];exact hn)⟩
theorem Lay.int(i:Int):Lay (.int i):=rfl
theorem Lay.none:Lay .none:=rfl
theorem Lay.bool(b:Bool):Lay (.bool b):=rfl
theorem eqv_int(i j:Int):PyData.eqv (.int i) (.int j)=decide (i=j):=by
 have:PyData.eqv (.int i) (.int j)=(i == j):=by simp only [PyData.eqv]
 rw [this]
 by_cases h:i=j
 ·subst h;simp
 ·rw [decide_eq_false h];exact beq_eq_false_iff_ne.mpr h
theorem lay_ints(ns:List Int):Lay (.list (ns.map PyData.int)):=by
 have h:∀ ns:List Int,PyData.canLayAll0 (ns.map PyData.int)=true/\PyData.depthAll (ns.map PyData.int)=0:=fun ns=>by
  induction ns with
  | nil=>exact⟨rfl,rfl⟩
  | cons n ns ih=>simp [PyData.canLayAll0,PyData.depthAll,PyData.canLay0,PyData.depth,ih.1,ih.2]
 unfold Lay SeqAt.shaped
 simp [PyData.canLay0,PyData.depth,(h ns).1,(h ns).2]
theorem drawI{m:Int}{Q:Ret->Prop}(h1:0<m)(h2:m<10000000000000000000000000000000000000000000000000000000000000)(q:∀ v:Int,0<=v->v<m->Q (.val (.int v))):sp__law_draw [.pen,.val (.int m)] Q:=⟨m,rfl,h1,h2,q⟩
theorem mem_two{α:Type}{p:α->Prop}{a:α}{l:List α}(h:p a)(t:∀ y∈l,p y):∀ y∈a::l,p y:=fun y hy=>(List.mem_cons.mp hy).elim (fun e=>by rw [e];exact h) (t y)
section
variable {X:Cx}
end
section
variable {X:Cx}
def dAugM(i:Nat)(te:DTE):DTS:=fun Dn σ=>match σ[i]? with
 | some (some (.val (.int a)))=>te σ fun d=>match d with
  | .int b=>CMul a b/\Dn.nx (σ.set i (some (.val (.int (a * b)))))
  | _=>False
 | _=>False
theorem ds_augM{i:Nat}{x:Str}{e:Expr}{te:DTE}{pos pos':Pos}(hN:X.N.Nodup)(hi:X.N[i]?=some x)(hx:Loc X.env.scope x)(he:DE X e te)(hf:X.fn x=true\/X.env.scope.names.lookup x=some .local:=by first | exact .inl rfl | exact .inr rfl | assumption):
  DS X (.AugAssign (.Name x pos') .Mult e pos) (dAugM i te) :=
 DS.of (ps_aug (ti:=rI CMul fun i j=>.int (i * j)) hN hi hx he.pe (fun pins s σ H x y v u Q I r1 r2 h=>iop_mul pins s σ H x y v u Q I r1 r2 h) hf) fun σ H H₀ σD Dn ok q=>by
  unfold dAugM at q
  split at q
  ·next a e =>
   obtain⟨v,e1,r⟩:=ok.val e
   cases r
   refine⟨_,e1,H₀,σD,_,ok,q,fun w H1 d s1 r1 q1=>?_⟩
   cases d with
   | int b=>cases r1;exact⟨a,b,rfl,rfl,q1.1,_,(ok.after s1).setV .int i,s1.pers,q1.2⟩
   | _=>exact q1.elim
  ·exact q.elim
end
end L2
set_option maxHeartbeats 4000000
namespace PySem
section
variable {prog:Program}{w:World}{A:Around}{R:Result->Shared->Prop}{I:Addr}{fp wr:List Addr}{n:Nat}{P:Nat->Value->Prop}{St:Nat->Heap->Prop}
end
section
variable {prog:Program}{w:World}{A:Around}{E:Value->Shared->Prop}{s:Shared}{l:Addr}{its:Array Value}{d:Value}
end
section
variable {prog:Program}{w:World}{A:Around}{R:Result->Shared->Prop}{I:Addr}{fp wr:List Addr}{n:Nat}{P:Nat->Value->Prop}{St:Nat->Heap->Prop}
end
section
variable {prog:Program}{w:World}{A:Around}{E:Value->Shared->Prop}{s:Shared}{l:Addr}{its:Array Value}{d:Value}
end
end PySem
namespace L2
open PySem PySem.Spec PyProof.Rows
section
variable {X:Cx}{a d e:Expr}{ta:DTF}{td te:DTE}{p pos kp:Pos}
end
theorem atI_end{α:Type}(xs:List α)(x:α):atI (xs ++ [x]) (-1)=some x:=atI_last xs x
theorem sliceD_from(xs:List D){n:Int}(h:0<=n):sliceD xs (some n) none=xs.drop n.toNat:=by
 obtain⟨k,rfl⟩:∃ k:Nat,n=k:=⟨n.toNat,by omega⟩
 unfold sliceD
 rw [HT.sIx_none,HT.sIx_nat,Int.toNat_natCast]
 by_cases c:k<=xs.length
 ·rw [Nat.min_eq_left c,List.take_of_length_le (by rw [List.length_drop];omega)]
 ·rw [Nat.min_eq_right (by omega),List.drop_eq_nil_of_le (by omega:xs.length<=k),List.drop_eq_nil_of_le (Nat.le_refl _),List.take_nil]
theorem zipD_map2{α β:Type}(f:α->D)(g:β->D):∀(xs:List α) (ys:List β),zipD (xs.map f) (ys.map g)=(xs.zip ys).map fun p=>PyData.tuple [f p.1,g p.2]
 | [],_=>by simp [zipD]
 | _::_,[]=>by simp [zipD]
 | x::xs,y::ys=>by
  have:=zipD_map2 f g xs ys
  simp only [zipD] at this
  simp [zipD,this]
theorem zipD_ints(xs ys:List Int):zipD (xs.map PyData.int) (ys.map PyData.int)=(xs.zip ys).map fun p=>PyData.tuple [.int p.1,.int p.2]:=zipD_map2 _ _ xs ys
theorem rangeD_len(lo:Int)(n:Nat):(rangeD lo n).length=n:=by simp [rangeD]
theorem lay_tints(ns:List Int):Lay (.tuple (ns.map PyData.int)):=by
 have:=lay_ints ns
 unfold Lay SeqAt.shaped at this ⊢
 simpa [PyData.canLay0,PyData.depth] using this
theorem Lay.list{xs:List D}(h:∀ x∈xs,Lay x/\x.depth<=63):Lay (.list xs):=by
 unfold Lay SeqAt.shaped
 rw [Bool.and_eq_true]
 have h1:PyData.canLayAll0 xs=true:=by
  induction xs with
  | nil=>rfl
  | cons x xs ih =>
   simp only [PyData.canLayAll0,Bool.and_eq_true]
   exact⟨(h x List.mem_cons_self).1.can,ih fun y hy=>h y (List.mem_cons_of_mem _ hy)⟩
 have h2:PyData.depthAll xs<=63:=by
  clear h1
  induction xs with
  | nil=>simp [PyData.depthAll]
  | cons x xs ih =>
   simp only [PyData.depthAll]
   have:=(h x List.mem_cons_self).2
   have:=ih fun y hy=>h y (List.mem_cons_of_mem _ hy)
   omega
 refine⟨by simpa [PyData.canLay0] using h1,decide_eq_true ?_⟩
 simp only [PyData.depth]
 omega
def gReprA:D->(D->Prop)->Prop
 | .bool b,Q=>Q (.str (if b=true then "True" else "False"))
 | d,Q=>Lay d/\d.showable=true/\d.shown.length<=sizeLine/\Q (.str d.shown)
def dReprA(t:DTF):DTE:=fun σ Q=>t σ fun ds=>match ds with
 | [d]=>gReprA d Q
 | _=>False
section
variable {X:Cx}{e:Expr}{p pos:Pos}
theorem de_reprA{k:Nat}{t:DTF}(hr:Room k X.A)(hg:Gl X "repr")(hm:X.mg "repr" = none)(hv:bootBuiltins "repr" = some (.builtin "repr"))(ha:DAn X [e] t)(he:starEach [e] X.env=(false,eval e X.env)::starEach [] X.env:=by rfl):DE X (.Call (.Name "repr" p) [e] [] pos) (dReprA t):=by
 have hc:CallR X (.builtin "repr") (fun vs H Q=>∃ d v,vs = [v]/\RepN X.K H d v/\gReprA d fun r=>∃ x,r=.str x/\∀ H',H'=H->Q (.str x) H'):=fun pins s σ H xs us Q I rv ⟨d,v,e,r,q⟩=>by
  subst e
  obtain⟨u,rfl,r1⟩:=rv.one
  have gen:Lay d->d.showable=true->d.shown.length<=sizeLine->Q (.str d.shown) H->(∃ a,u=.ref a)->wpAny (model X.prog X.w) X.A (call (.builtin "repr") [u]) (EP X pins σ Q) X.xe s:=fun h1 h2 h3 h4 ⟨a,ea⟩=>by
   subst ea
   obtain⟨as,rd⟩:=r.reads I r1
   have hu:=hr.un
   have hd:=h1.deep
   refine repr_of_reads' rd h2 (PyData.noDict_hsm ?_) hr.gd (by omega) (fun _ _ e=>e) (fun h' u tk hk=>⟨.str d.shown,H,I.kept hk,⟨_,rfl⟩,h4⟩) h3
   exact PyData.hasDict_of_canLay _ h1.can
  cases r with
  | bl =>
   cases r1
   obtain⟨x,e,q⟩:=q
   cases e
   exact PySem.P.repr_of_bool ⟨.str _,H,I.tok _,⟨_,rfl⟩,q H rfl⟩
  | non =>
   cases r1
   obtain⟨_,_,_,x,e,q⟩:=q
   cases e
   exact PySem.P.repr_of_none ⟨.str _,H,I.tok _,⟨_,rfl⟩,q H rfl⟩
  | int =>
   obtain⟨t,rfl⟩:=r1
   obtain⟨_,h2,_,x,e,q⟩:=q
   cases e
   exact PySem.P.repr_of_int (of_decide_eq_true (by simpa [PyData.showable] using h2)) ⟨.str _,H,I.tok _,⟨_,rfl⟩,q H rfl⟩
  | str =>
   obtain⟨t,rfl⟩:=r1
   obtain⟨_,_,h3,x,e,q⟩:=q
   cases e
   exact PySem.P.repr_of_str ⟨.str _,H,I.tok _,⟨_,rfl⟩,q H rfl⟩ h3
  | tup h r =>
   obtain⟨h1,h2,h3,x,e,q⟩:=q
   cases e
   exact gen h1 h2 h3 (q H rfl) ⟨_,by cases r1;rfl⟩
  | lst h r =>
   obtain⟨h1,h2,h3,x,e,q⟩:=q
   cases e
   exact gen h1 h2 h3 (q H rfl) ⟨_,by cases r1;rfl⟩
 refine DE.of (pe_callB hc hg hm hv ha.pa (by decide) (by decide) he rfl) fun σ H H₀ σD QD ok q=>⟨H₀,σD,_,ok,q,fun vs H1 ds s1 r1 q1=>?_⟩
 match ds,r1,q1 with
 | [d],r1,q1 =>
  cases r1 with
  | cons r t =>
   cases t
   refine⟨d,_,rfl,r,?_⟩
   cases d with
   | bool b=>exact⟨_,rfl,fun H' e=>⟨_,by subst e;exact s1,.str,q1⟩⟩
   | _=>exact⟨q1.1,q1.2.1,q1.2.2.1,_,rfl,fun H' e=>⟨_,by subst e;exact s1,.str,q1.2.2.2⟩⟩
end
theorem Sh.rep{d:D}{n k:Nat}{Q:D->Prop}(h:Sh d n k)(hk:k<=64)(hn:n<=16777216)(hb:∀ b,d ≠ .bool b)(q:Q (.str d.shown)):gReprA d Q:=by
 obtain⟨h1,h2,h3⟩:=h.all hk hn
 cases d with
 | bool b=>exact absurd rfl (hb b)
 | _=>exact⟨h1,h2,h3,q⟩
end L2
namespace SQ
open PySem PyProof.Rows
set_option autoImplicit false
section
variable (prog:Program)(w:World)(A:Around)(s:Shared)(κ:KeyKind)(kd:SortKind)
def LtOk:Prop:=∀(E:Value->Shared->Prop) (x y:Value) (a b:κ.α) (Q:Bool->Shared->Prop),κ.keyOf x=some a->κ.keyOf y=some b->Q (κ.blt a b) s->wpAny (model prog w) A (keyLt' kd x y) Q E s
end
structure SG(kd:SortKind)(a₀:Array Keyed)(st:SortSt):Prop where
 perm:(arrOf st).Perm a₀
 kind:kindOf st=kd
 fail:failedOf st=none
theorem SG.sz{kd:SortKind}{a₀:Array Keyed}{st:SortSt}(g:SG kd a₀ st):(arrOf st).size=a₀.size:=g.perm.size_eq
theorem SG.arr{kd:SortKind}{a₀:Array Keyed}{st:SortSt}(g:SG kd a₀ st){xs:Array Keyed}(p:xs.Perm (arrOf st)):SG kd a₀ (setArr st xs):=⟨p.trans g.perm,g.kind,g.fail⟩
structure Mv(lo hi:Nat)(st st':SortSt):Prop where
 out:∀ k,(k<lo\/hi<=k)->(arrOf st')[k]?=(arrOf st)[k]?
 pend:pendingOf st'=pendingOf st
theorem Mv.refl(lo hi:Nat)(st:SortSt):Mv lo hi st st:=⟨fun _ _=>rfl,rfl⟩
theorem Mv.trans{lo hi:Nat}{a b c:SortSt}(h1:Mv lo hi a b)(h2:Mv lo hi b c):Mv lo hi a c:=⟨fun k hk=>(h2.out k hk).trans (h1.out k hk),h2.pend.trans h1.pend⟩
theorem Mv.mono{lo hi lo' hi':Nat}{a b:SortSt}(h:Mv lo hi a b)(h1:lo'<=lo)(h2:hi<=hi'):Mv lo' hi' a b:=⟨fun k hk=>h.out k (by omega),h.pend⟩
abbrev Up(κ:KeyKind)(xs:Array Keyed)(lo n:Nat):Prop:=∀ i j,lo<=i->i<=j->j<lo+n->κ.kle (KK κ xs i) (KK κ xs j)
abbrev Dn(κ:KeyKind)(xs:Array Keyed)(lo n:Nat):Prop:=∀ i j,lo<=i->i<=j->j<lo+n->κ.kle (KK κ xs j) (KK κ xs i)
theorem mv_mirror{st:SortSt}{i j lo hi:Nat}(hj:j<=(arrOf st).size)(h1:lo<=i)(h2:j<=hi):Mv lo hi st (setArr st (mirror (arrOf st) i j ((j-i) / 2))) :=
 ⟨fun k hk=>by
  show(mirror (arrOf st) i j ((j-i) / 2))[k]?=_
  rw [getElem?_mirror_all hj,if_neg (by omega)],rfl⟩
section
variable {prog:Program}{w:World}{A:Around}{E:Value->Shared->Prop}{s:Shared}{κ:KeyKind}{kd:SortKind}{a₀:Array Keyed}
theorem SG.key{st:SortSt}(g:SG kd a₀ st)(h0:KeysOf κ a₀){i:Nat}(hi:i<a₀.size):∃ x p,(arrOf st)[i]?=some (x,p)/\κ.keyOf x=some (KK κ (arrOf st) i):=by
 have l:i<(arrOf st).size:=by rw [g.sz];exact hi
 obtain⟨a,ha⟩:=h0 ((arrOf st)[i]) ((Array.perm_iff_toList_perm.mp g.perm).mem_iff.mp (by simp))
 have e:(arrOf st)[i]?=some (arrOf st)[i]:=getElem?_pos _ i l
 refine⟨(arrOf st)[i].1,(arrOf st)[i].2,e,?_⟩
 rw [ha]
 unfold KK
 rw [e]
 simp [ha]
theorem q_lt{st:SortSt}{x y:Keyed}{a b:κ.α}{Q:Option Bool->SortSt->Prop}(L:LtOk prog w A s κ kd)(hk:kindOf st=kd)(ha:κ.keyOf x.1=some a)(hb:κ.keyOf y.1=some b)(q:Q (some (κ.blt a b)) st):
  wpS (model prog w) A E s (lt' x y) Q st:=by
 rw [lt'_eq]
 refine wpS_bind (wpS_get ?_)
 rw [hk]
 exact wpS_bind (wpS_lift (wpAny_attempt (L _ x.1 y.1 a b _ ha hb ⟨rfl,wpS_pure q⟩)))
theorem q_elem{st:SortSt}{xs:Array Keyed}{i:Nat}{p:Keyed}{Q:Keyed->SortSt->Prop}(e:xs[i]?=some p)(q:Q p st):wpS (model prog w) A E s (elem' xs i) Q st:=by
 rw [elem'_eq,e]
 exact wpS_pure q
theorem q_ltAt{st:SortSt}{i j:Nat}{Q:Option Bool->SortSt->Prop}(L:LtOk prog w A s κ kd)(g:SG kd a₀ st)(h0:KeysOf κ a₀)(hi:i<a₀.size)(hj:j<a₀.size)
  (q:Q (some (κ.blt (KK κ (arrOf st) i) (KK κ (arrOf st) j))) st):wpS (model prog w) A E s (ltAt' i j) Q st:=by
 obtain⟨x,p,e1,k1⟩:=g.key h0 hi
 obtain⟨y,r,e2,k2⟩:=g.key h0 hj
 rw [ltAt'_eq]
 refine wpS_bind (wpS_get ?_)
 exact wpS_bind (q_elem e1 (wpS_bind (q_elem e2 (q_lt L g.kind k1 k2 q))))
theorem q_rev{st:SortSt}{i j:Nat}{Q:Unit->SortSt->Prop}(q:Q () (setArr st (mirror (arrOf st) i j ((j-i) / 2)))):wpS (model prog w) A E s (reverseSlice' i j) Q st:=by
 rw [reverseSlice'_eq];exact wpS_modify q
def upLoop(lo a m:Nat):StateT SortSt Sem (Option (Option Nat)×Nat) :=
 forIn [a:m] ((none,a):Option (Option Nat)×Nat) fun _ c=>do
  let o <-ltAt' (lo+c.snd) (lo+c.snd-1)
  match o with
  | some less=>if less=true then pure (ForInStep.done (none,c.snd)) else pure (ForInStep.yield (none,c.snd+1))
  | _=>pure (ForInStep.done (some none,c.snd))
def endRun(lo n m:Nat):StateT SortSt Sem (Option Nat):=do
 reverseSlice' lo (lo+n)
 let c <-upLoop lo n m
 match c.fst with
 | some r=>pure r
 | none=>pure (some c.snd)
def dnLoop(lo n m:Nat):StateT SortSt Sem (Option (Option Nat)×Nat×Nat) :=
 forIn [n:m] ((none,n,0):Option (Option Nat)×Nat×Nat) fun _ c=>do
  let o <-ltAt' (lo+c.snd.fst) (lo+c.snd.fst-1)
  match o with
  | some less =>
   if less=true then
    if c.snd.snd > 0 then do
     reverseSlice' (lo+c.snd.fst-(c.snd.snd+1)) (lo+c.snd.fst)
     pure (ForInStep.yield (none,c.snd.fst+1,0))
    else pure (ForInStep.yield (none,c.snd.fst+1,0))
   else do
    let o <-ltAt' (lo+c.snd.fst-1) (lo+c.snd.fst)
    match o with
    | some more =>
     if more=true then pure (ForInStep.done (none,c.snd.fst,c.snd.snd))
     else pure (ForInStep.yield (none,c.snd.fst+1,c.snd.snd+1))
    | _=>pure (ForInStep.done (some none,c.snd.fst,c.snd.snd))
  | _=>pure (ForInStep.done (some none,c.snd.fst,c.snd.snd))
def dnRun(lo n m:Nat):StateT SortSt Sem (Option Nat):=do
 liftM (rule "list.sort.descending-run")
 let c <-dnLoop lo (n+1) m
 match c.fst with
 | some r=>pure r
 | none =>
  if c.snd.snd > 0 then do
   reverseSlice' (lo+c.snd.fst-(c.snd.snd+1)) (lo+c.snd.fst)
   endRun lo c.snd.fst m
  else endRun lo c.snd.fst m
theorem countRun_pieces(lo m:Nat):countRun' lo m=(do
  let c <-upLoop lo 1 m
  match c.fst with
  | some r=>pure r
  | none =>
   if (c.snd == m)=true then pure (some c.snd)
   else if c.snd > 1 then do
    let o <-ltAt' lo (lo+c.snd-1)
    match o with
    | some rose=>if rose=true then pure (some c.snd) else do
      reverseSlice' lo (lo+c.snd)
      dnRun lo c.snd m
    | _=>pure none
   else dnRun lo c.snd m):=by
 rw [countRun'_eq]
 unfold dnRun endRun dnLoop upLoop
 dsimp only
 congr 1
 funext c
 obtain⟨r,n⟩:=c
 cases r with
 | some r=>rfl
 | none =>
  dsimp only
  split
  ·rfl
  ·split
   ·congr 1
    funext x
    cases x with
    | none=>rfl
    | some rose =>
     dsimp only
     split
     ·rfl
     ·congr 1
      funext _
      congr 1;funext _;congr 1;congr 1;funext c2;obtain⟨r2,n2,q2⟩:=c2;cases r2 with
      | some r2=>rfl
      | none =>
       dsimp only
       split
       ·congr 1;funext _;congr 1;funext _;congr 1;funext c3;obtain⟨r3,n3⟩:=c3;cases r3 <;> rfl
       ·congr 1;funext _;congr 1;funext c3;obtain⟨r3,n3⟩:=c3;cases r3 <;> rfl
   ·congr 1;funext _;congr 1;congr 1;funext c2;obtain⟨r2,n2,q2⟩:=c2;cases r2 with
    | some r2=>rfl
    | none =>
     dsimp only
     split
     ·congr 1;funext _;congr 1;funext _;congr 1;funext c3;obtain⟨r3,n3⟩:=c3;cases r3 <;> rfl
     ·congr 1;funext _;congr 1;funext c3;obtain⟨r3,n3⟩:=c3;cases r3 <;> rfl
end
end SQ
namespace SQ
open PySem PyProof.Rows
set_option autoImplicit false
section
variable {prog:Program}{w:World}{A:Around}{E:Value->Shared->Prop}{s:Shared}{κ:KeyKind}{kd:SortKind}{a₀:Array Keyed}
theorem Up.next{xs:Array Keyed}{lo n:Nat}(h:Up κ xs lo n)(h1:1<=n)(c:κ.blt (KK κ xs (lo+n)) (KK κ xs (lo+n-1))=false):Up κ xs lo (n+1):=fun i j a b d=>by
 by_cases e:j<lo+n
 ·exact h i j a b e
 ·have ej:j=lo+n:=by omega
  subst ej
  by_cases e2:i=lo+n
  ·subst e2;exact KeyOrd.kle_refl _
  ·exact KeyOrd.kle_trans (h i (lo+n-1) a (by omega) (by omega)) c
theorem q_up{st:SortSt}{lo a m:Nat}{Q:Option (Option Nat)×Nat->SortSt->Prop}(L:LtOk prog w A s κ kd)(h0:KeysOf κ a₀)(g:SG kd a₀ st)(hm:lo+m<=a₀.size)(ha:1<=a)(hu:Up κ (arrOf st) lo a)(ham:a<=m)
  (q:∀ n,a<=n->n<=m->Up κ (arrOf st) lo n->(n=m\/κ.klt (KK κ (arrOf st) (lo+n)) (KK κ (arrOf st) (lo+n-1)))->Q (none,n) st):wpS (model prog w) A E s (upLoop lo a m) Q st:=by
 unfold upLoop
 refine wpS_forRange (I:=fun x c st'=>st'=st/\c=(none,x)/\Up κ (arrOf st) lo x) (fun x c st' hx1 hx2 h=>?_) (fun c st' h=>?_) ⟨rfl,rfl,hu⟩
 ·obtain⟨rfl,rfl,hx⟩:=h
  dsimp only
  refine wpS_bind (q_ltAt L g h0 (by omega) (by omega) ?_)
  cases cb:κ.blt (KK κ (arrOf st') (lo+x)) (KK κ (arrOf st') (lo+x-1)) with
  | true=>exact wpS_pure (q x hx1 (by omega) hx (.inr cb))
  | false=>exact wpS_pure ⟨rfl,rfl,hx.next (by omega) cb⟩
 ·obtain⟨rfl,rfl,hx⟩:=h
  rw [show max a m=m by omega] at hx ⊢
  exact q m ham (Nat.le_refl _) hx (.inl rfl)
theorem q_end{st st0:SortSt}{lo n m:Nat}{Q:Option Nat->SortSt->Prop}(L:LtOk prog w A s κ kd)(h0:KeysOf κ a₀)(g:SG kd a₀ st)(hm:lo+m<=a₀.size)(h1:1<=n)(hnm:n<=m)(hd:Dn κ (arrOf st) lo n)(mv:Mv lo (lo+m) st0 st)
  (q:∀ k st',SG kd a₀ st'->Mv lo (lo+m) st0 st'->1<=k->k<=m->Up κ (arrOf st') lo k->Q (some k) st'):wpS (model prog w) A E s (endRun lo n m) Q st:=by
 unfold endRun
 have sz:lo+n<=(arrOf st).size:=by rw [g.sz];omega
 refine wpS_bind (q_rev ?_)
 have g':=g.arr (mirror_perm (arrOf st) lo (lo+n) ((lo+n-lo) / 2))
 refine wpS_bind (q_up L h0 g' hm h1 (fun i j a b c=>?_) hnm fun k k1 k2 hk _=>wpS_pure (q k _ g' (mv.trans (mv_mirror sz (Nat.le_refl _) (by omega))) (by omega) k2 hk))
 show κ.kle (KK κ (mirror (arrOf st) lo (lo+n) ((lo+n-lo) / 2)) i) (KK κ (mirror (arrOf st) lo (lo+n) ((lo+n-lo) / 2)) j)
 rw [KK_mirror sz,KK_mirror sz,if_pos (by omega),if_pos (by omega)]
 exact hd _ _ (by omega) (by omega) (by omega)
theorem Dn.next{xs:Array Keyed}{lo n:Nat}(h:Dn κ xs lo n)(h1:1<=n)(c:κ.kle (KK κ xs (lo+n)) (KK κ xs (lo+n-1))):Dn κ xs lo (n+1):=fun i j a b d=>by
 by_cases e:j<lo+n
 ·exact h i j a b e
 ·have ej:j=lo+n:=by omega
  subst ej
  by_cases e2:i=lo+n
  ·subst e2;exact KeyOrd.kle_refl _
  ·exact KeyOrd.kle_trans c (h i (lo+n-1) a (by omega) (by omega))
theorem KK_flat{xs:Array Keyed}{i j:Nat}(hj:j<=xs.size)(he:∀ k,i<=k->k<j->KK κ xs k=KK κ xs (j-1))(k:Nat):KK κ (mirror xs i j ((j-i) / 2)) k=KK κ xs k:=KK_mirror_equal hj he k
theorem q_dn{st:SortSt}{lo n m:Nat}{Q:Option (Option Nat)×Nat×Nat->SortSt->Prop}(L:LtOk prog w A s κ kd)(h0:KeysOf κ a₀)(g:SG kd a₀ st)(hm:lo+m<=a₀.size)(h1:1<=n)(hnm:n<=m)(hd:Dn κ (arrOf st) lo n)
  (q:∀ k e st',SG kd a₀ st'->Mv lo (lo+m) st st'->n<=k->k<=m->Dn κ (arrOf st') lo k->e+1<=k->(∀ i,lo+k-(e+1)<=i->i<lo+k->KK κ (arrOf st') i=KK κ (arrOf st') (lo+k-1))->Q (none,k,e) st'):wpS (model prog w) A E s (dnLoop lo n m) Q st:=by
 unfold dnLoop
 refine wpS_forRange (I:=fun x c st'=>∃ e,c=(none,x,e)/\SG kd a₀ st'/\Mv lo (lo+m) st st'/\Dn κ (arrOf st') lo x/\e+1<=x/\(∀ i,lo+x-(e+1)<=i->i<lo+x->KK κ (arrOf st') i=KK κ (arrOf st') (lo+x-1))) (fun x c st' hx1 hx2 h=>?_) (fun c st' h=>?_) ⟨0,rfl,g,Mv.refl _ _ _,hd,by omega,fun i a b=>by rw [show i=lo+n-1 by omega]⟩
 ·obtain⟨e,rfl,g',mv,hx,he,heq⟩:=h
  dsimp only
  refine wpS_bind (q_ltAt L g' h0 (by omega) (by omega) ?_)
  cases cb:κ.blt (KK κ (arrOf st') (lo+x)) (KK κ (arrOf st') (lo+x-1)) with
  | true =>
   dsimp only
   rw [if_pos rfl]
   by_cases ce:e > 0
   ·rw [if_pos ce]
    refine wpS_bind (q_rev (wpS_pure ?_))
    have sz:lo+x<=(arrOf st').size:=by rw [g'.sz];omega
    have kf:=KK_flat (κ:=κ) (xs:=arrOf st') (i:=lo+x-(e+1)) (j:=lo+x) sz heq
    refine⟨0,rfl,g'.arr (mirror_perm _ _ _ _),mv.trans (mv_mirror sz (by omega) (by omega)),?_,by omega,fun i a b=>by rw [show i=lo+(x+1)-1 by omega]⟩
    refine Dn.next (fun i j a b d=>?_) (by omega) ?_
    ·show κ.kle (KK κ (mirror _ _ _ _) j) (KK κ (mirror _ _ _ _) i)
     rw [kf,kf]
     exact hx i j a b d
    ·show κ.kle (KK κ (mirror _ _ _ _) _) (KK κ (mirror _ _ _ _) _)
     rw [kf,kf]
     exact KeyOrd.kle_of_klt cb
   ·rw [if_neg ce]
    exact wpS_pure ⟨0,rfl,g',mv,hx.next (by omega) (KeyOrd.kle_of_klt cb),by omega,fun i a b=>by rw [show i=lo+(x+1)-1 by omega]⟩
  | false =>
   dsimp only
   rw [if_neg (by decide)]
   refine wpS_bind (q_ltAt L g' h0 (by omega) (by omega) ?_)
   cases cc:κ.blt (KK κ (arrOf st') (lo+x-1)) (KK κ (arrOf st') (lo+x)) with
   | true=>exact wpS_pure (q x e st' g' mv hx1 (by omega) hx he heq)
   | false =>
    have same:KK κ (arrOf st') (lo+x)=KK κ (arrOf st') (lo+x-1):=KeyOrd.kle_antisymm cc cb
    refine wpS_pure ⟨e+1,rfl,g',mv,hx.next (by omega) cc,by omega,fun i a b=>?_⟩
    rw [show lo+(x+1)-1=lo+x by omega]
    by_cases ei:i=lo+x
    ·rw [ei]
    ·rw [heq i (by omega) (by omega),same]
 ·obtain⟨e,rfl,g',mv,hx,he,heq⟩:=h
  rw [show max n m=m by omega] at *
  exact q m e st' g' mv hnm (Nat.le_refl _) hx he heq
theorem q_dnRun{st st0:SortSt}{lo n m:Nat}{Q:Option Nat->SortSt->Prop}(L:LtOk prog w A s κ kd)(h0:KeysOf κ a₀)(g:SG kd a₀ st)(hm:lo+m<=a₀.size)(h1:1<=n)(hnm:n+1<=m)(hd:Dn κ (arrOf st) lo (n+1))(mv:Mv lo (lo+m) st0 st)
  (q:∀ k st',SG kd a₀ st'->Mv lo (lo+m) st0 st'->1<=k->k<=m->Up κ (arrOf st') lo k->Q (some k) st'):wpS (model prog w) A E s (dnRun lo n m) Q st:=by
 unfold dnRun
 refine wpS_bind (wpS_lift (wpAny_rule ⟨rfl,?_⟩))
 refine wpS_bind (q_dn L h0 g hm (by omega) hnm hd fun k e st' g' mv' k1 k2 hk he heq=>?_)
 dsimp only
 by_cases ce:e > 0
 ·rw [if_pos ce]
  have sz:lo+k<=(arrOf st').size:=by rw [g'.sz];omega
  have kf:=KK_flat (κ:=κ) (xs:=arrOf st') (i:=lo+k-(e+1)) (j:=lo+k) sz heq
  refine wpS_bind (q_rev (q_end L h0 (g'.arr (mirror_perm _ _ _ _)) hm (by omega) k2 (fun i j a b d=>?_) ((mv.trans mv').trans (mv_mirror sz (by omega) (by omega))) q))
  show κ.kle (KK κ (mirror _ _ _ _) j) (KK κ (mirror _ _ _ _) i)
  rw [kf,kf]
  exact hk i j a b d
 ·rw [if_neg ce]
  exact q_end L h0 g' hm (by omega) k2 hk (mv.trans mv') q
theorem q_countRun{st:SortSt}{lo m:Nat}{Q:Option Nat->SortSt->Prop}(L:LtOk prog w A s κ kd)(h0:KeysOf κ a₀)(g:SG kd a₀ st)(hm:lo+m<=a₀.size)(h1:1<=m)
  (q:∀ k st',SG kd a₀ st'->Mv lo (lo+m) st st'->1<=k->k<=m->Up κ (arrOf st') lo k->Q (some k) st'):wpS (model prog w) A E s (countRun' lo m) Q st:=by
 rw [countRun_pieces]
 refine wpS_bind (q_up L h0 g hm (Nat.le_refl _) (fun i j a b c=>by rw [show i=j by omega];exact KeyOrd.kle_refl _) h1 fun n n1 n2 hn hz=>?_)
 dsimp only
 by_cases e:n=m
 ·rw [if_pos (by simpa using e)]
  exact wpS_pure (q n st g (Mv.refl _ _ _) n1 n2 hn)
 ·rw [if_neg (by simpa using e)]
  have down:=hz.resolve_left e
  by_cases e1:n > 1
  ·rw [if_pos e1]
   refine wpS_bind (q_ltAt L g h0 (by omega) (by omega) ?_)
   cases cb:κ.blt (KK κ (arrOf st) lo) (KK κ (arrOf st) (lo+n-1)) with
   | true=>exact wpS_pure (q n st g (Mv.refl _ _ _) n1 n2 hn)
   | false =>
    dsimp only
    rw [if_neg (by decide)]
    have all:∀ k,lo<=k->k<lo+n->KK κ (arrOf st) k=KK κ (arrOf st) (lo+n-1):=fun k a b =>
     KeyOrd.kle_antisymm (hn k (lo+n-1) a (by omega) (by omega)) (KeyOrd.kle_trans cb (hn lo k (Nat.le_refl _) a b))
    have sz:lo+n<=(arrOf st).size:=by rw [g.sz];omega
    have kf:=KK_flat (κ:=κ) (xs:=arrOf st) (i:=lo) (j:=lo+n) sz all
    refine wpS_bind (q_rev (q_dnRun L h0 (g.arr (mirror_perm _ _ _ _)) hm n1 (by omega) (Dn.next (fun i j a b d=>?_) n1 ?_) (mv_mirror sz (Nat.le_refl _) (by omega)) q))
    ·show κ.kle (KK κ (mirror _ _ _ _) j) (KK κ (mirror _ _ _ _) i)
     rw [kf,kf,all j (by omega) d,all i a (by omega)]
     exact KeyOrd.kle_refl _
    ·show κ.kle (KK κ (mirror _ _ _ _) _) (KK κ (mirror _ _ _ _) _)
     rw [kf,kf]
     exact KeyOrd.kle_of_klt down
  ·rw [if_neg e1]
   refine q_dnRun L h0 g hm n1 (by omega) (Dn.next (fun i j a b d=>by rw [show i=j by omega];exact KeyOrd.kle_refl _) n1 (KeyOrd.kle_of_klt down)) (Mv.refl _ _ _) q
theorem q_insert{st:SortSt}{lo n ok:Nat}{Q:Bool->SortSt->Prop}(L:LtOk prog w A s κ kd)(h0:KeysOf κ a₀)(g:SG kd a₀ st)(hn:lo+n<=a₀.size)(hok:ok<=n)(hu:Up κ (arrOf st) lo ok)
  (q:∀ st',SG kd a₀ st'->Mv lo (lo+n) st st'->Up κ (arrOf st') lo n->Q true st'):wpS (model prog w) A E s (binarySort' lo n ok) Q st:=by
 rw [binarySort'_eq]
 refine wpS_bind (wpS_mono (wpS_forRange (I:=fun k c st'=>c=(none,())/\SG kd a₀ st'/\Mv lo (lo+n) st st'/\Up κ (arrOf st') lo (min k n))
  (Q:=fun c st'=>c=(none,())/\SG kd a₀ st'/\Mv lo (lo+n) st st'/\Up κ (arrOf st') lo n) (fun k c st' hk1 hk2 h=>?_) (fun c st' h=>?_) ⟨rfl,g,Mv.refl _ _ _,fun i j a b d=>?_⟩) (fun c st' h=>?_))
 ·obtain⟨rfl,g',mv,hs⟩:=h
  rw [show min k n=k by omega] at hs
  refine wpS_bind (wpS_mono (wpS_forRange (I:=fun x c z=>z=st'/\∃ l r,c=(none,l,r)/\l<=r/\r<=k/\r-l<=k-x/\(∀ i,lo<=i->i<lo+l->κ.kle (KK κ (arrOf st') i) (KK κ (arrOf st') (lo+k)))/\(∀ i,lo+r<=i->i<lo+k->κ.klt (KK κ (arrOf st') (lo+k)) (KK κ (arrOf st') i)))
   (Q:=fun c z=>z=st'/\∃ l r,c=(none,l,r)/\l<=k/\(∀ i,lo<=i->i<lo+l->κ.kle (KK κ (arrOf st') i) (KK κ (arrOf st') (lo+k)))/\(∀ i,lo+l<=i->i<lo+k->κ.klt (KK κ (arrOf st') (lo+k)) (KK κ (arrOf st') i)))
   (fun x c z hx1 hx2 h=>?_) (fun c z h=>?_) ⟨rfl,0,k,rfl,by omega,by omega,by omega,fun i a b=>by omega,fun i a b=>by omega⟩) (fun c z h=>?_))
  ·obtain⟨rfl,l,r,rfl,p1,p2,p3,p4,p5⟩:=h
   dsimp only
   by_cases e:l ≥ r
   ·rw [if_pos e]
    have:l=r:=by omega
    subst this
    exact wpS_pure ⟨rfl,l,l,rfl,p2,p4,p5⟩
   ·rw [if_neg e]
    refine wpS_bind (q_ltAt L g' h0 (by omega) (by omega) ?_)
    cases cb:κ.blt (KK κ (arrOf z) (lo+k)) (KK κ (arrOf z) (lo+(l+r) / 2)) with
    | true=>exact wpS_pure ⟨rfl,l,(l+r) / 2,rfl,by omega,by omega,by omega,p4,fun i a b=>KeyOrd.klt_of_klt_of_kle cb (hs _ _ (by omega) a (by omega))⟩
    | false=>exact wpS_pure ⟨rfl,(l+r) / 2+1,r,rfl,by omega,by omega,by omega,fun i a b=>KeyOrd.kle_trans (hs i (lo+(l+r) / 2) a (by omega) (by omega)) cb,p5⟩
  ·obtain⟨rfl,l,r,rfl,p1,p2,p3,p4,p5⟩:=h
   have:l=r:=by omega
   subst this
   exact⟨rfl,l,l,rfl,p2,p4,p5⟩
  ·obtain⟨rfl,l,r,rfl,p2,p4,p5⟩:=h
   show wpS _ _ _ _ (do moveDown' (lo+k) (lo+l);pure (ForInStep.yield (none,()))) _ _
   rw [moveDown'_eq]
   have sz:lo+k<(arrOf z).size:=by rw [g'.sz];omega
   refine wpS_bind (wpS_modify (wpS_pure ⟨rfl,g'.arr (bubble_perm _ _ _),mv.trans ⟨fun i hi=>?_,rfl⟩,?_⟩))
   ·show(bubble (arrOf z) (lo+k) (lo+k-(lo+l)))[i]?=_
    rw [getElem?_bubble sz _ (by omega),if_neg (by omega),if_neg (by omega)]
   ·rw [show min (k+1) n=k+1 by omega]
    intro i j a b d
    show κ.kle (KK κ (bubble (arrOf z) (lo+k) (lo+k-(lo+l))) i) (KK κ (bubble (arrOf z) (lo+k) (lo+k-(lo+l))) j)
    rw [KK_bubble sz (by omega),KK_bubble sz (by omega),show lo+k-(lo+k-(lo+l))=lo+l by omega]
    repeat' split
    all_goals first
     | (exfalso;omega)
     | exact KeyOrd.kle_refl _
     | exact p4 _ (by omega) (by omega)
     | exact KeyOrd.kle_of_klt (p5 _ (by omega) (by omega))
     | exact hs _ _ (by omega) (by omega) (by omega)
 ·obtain⟨h1,h2,h3,h4⟩:=h
  rw [show min (max (max ok 1) n) n=n by omega] at h4
  exact⟨h1,h2,h3,h4⟩
 ·by_cases e:ok=0
  ·rw [show i=j by omega];exact KeyOrd.kle_refl _
  ·exact hu i j a b (by omega)
 ·obtain⟨rfl,h2,h3,h4⟩:=h
  exact wpS_pure (q st' h2 h3 h4)
end
end SQ
namespace SQ
open PySem PyProof.Rows
set_option autoImplicit false
section
variable {prog:Program}{w:World}{A:Around}{E:Value->Shared->Prop}{s:Shared}{κ:KeyKind}{kd:SortKind}
end
end SQ
namespace SQ
open PySem PyProof.Rows
set_option autoImplicit false
def kk(κ:KeyKind)(p:Keyed):κ.α:=(κ.keyOf p.1).getD κ.dflt
def le(κ:KeyKind)(x y:Keyed):Prop:=κ.kle (kk κ x) (kk κ y)
theorem le_refl{κ:KeyKind}(x:Keyed):le κ x x:=KeyOrd.kle_refl _
theorem le_trans{κ:KeyKind}{x y z:Keyed}(a:le κ x y)(b:le κ y z):le κ x z:=KeyOrd.kle_trans a b
def AllK(κ:KeyKind)(xs:Array Keyed):Prop:=∀ p∈xs.toList,κ.keyOf p.1=some (kk κ p)
abbrev Srt(κ:KeyKind)(xs:Array Keyed):Prop:=xs.toList.Pairwise (le κ)
theorem Srt.at{κ:KeyKind}{xs:Array Keyed}(h:Srt κ xs){i j:Nat}{p r:Keyed}(hij:i<=j)(e1:xs[i]?=some p)(e2:xs[j]?=some r):le κ p r:=by
 obtain⟨l1,rfl⟩:=Array.getElem?_eq_some_iff.mp e1
 obtain⟨l2,rfl⟩:=Array.getElem?_eq_some_iff.mp e2
 by_cases c:i=j
 ·subst c;exact le_refl _
 ·have:=List.pairwise_iff_getElem.mp h i j (by simpa using l1) (by simpa using l2) (by omega)
  simpa using this
structure MI(κ:KeyKind)(a b out:Array Keyed)(ia ib:Nat):Prop where
 perm:out.toList.Perm (a.toList.take ia++b.toList.take ib)
 sort:out.toList.Pairwise (le κ)
 la:∀ x∈out.toList,∀ y∈a.toList.drop ia,le κ x y
 lb:∀ x∈out.toList,∀ y∈b.toList.drop ib,le κ x y
theorem drop_next{α:Type}{xs:List α}{i:Nat}{p:α}(e:xs[i]?=some p):xs.drop i=p::xs.drop (i+1):=by
 obtain⟨l,rfl⟩:=List.getElem?_eq_some_iff.mp e
 exact List.drop_eq_getElem_cons l
section
variable {κ:KeyKind}{a b out:Array Keyed}{ia ib:Nat}
theorem tl_at{xs:Array Keyed}{i:Nat}{p:Keyed}(e:xs[i]?=some p):xs.toList[i]?=some p:=by simpa using e
theorem Srt.rest{xs:Array Keyed}(h:Srt κ xs){i:Nat}{p:Keyed}(e:xs[i]?=some p):∀ y∈xs.toList.drop i,le κ p y:=by
 have h2:=h.drop (i:=i)
 rw [drop_next (tl_at e)] at h2 ⊢
 intro y hy
 rcases List.mem_cons.mp hy with rfl | hy
 ·exact le_refl _
 ·exact(List.pairwise_cons.mp h2).1 y hy
def Mg(κ:KeyKind)(a b r:Array Keyed):Prop:=r.toList.Perm (a.toList++b.toList)/\r.toList.Pairwise (le κ)
end
structure Gm(st st':SortSt):Prop where
 k:kindOf st'=kindOf st
 a:arrOf st'=arrOf st
 p:pendingOf st'=pendingOf st
 f:failedOf st'=failedOf st
theorem Gm.trans{x y z:SortSt}(h:Gm x y)(g:Gm y z):Gm x z:=⟨g.k.trans h.k,g.a.trans h.a,g.p.trans h.p,g.f.trans h.f⟩
section
variable {prog:Program}{w:World}{A:Around}{E:Value->Shared->Prop}{s:Shared}{κ:KeyKind}{kd:SortKind}
end
end SQ
namespace SQ
open PySem PyProof.Rows
set_option autoImplicit false
section
variable {prog:Program}{w:World}{A:Around}{E:Value->Shared->Prop}{s:Shared}{κ:KeyKind}{kd:SortKind}
theorem wps_ite{α:Type}{c:Prop}[Decidable c]{x y:StateT SortSt Sem α}{Q:α->SortSt->Prop}{st:SortSt}{M:Model}(h1:c->wpS M A E s x Q st)(h2:¬ c->wpS M A E s y Q st):wpS M A E s (if c then x else y) Q st:=by
 by_cases h:c
 ·rw [if_pos h];exact h1 h
 ·rw [if_neg h];exact h2 h
end
end SQ
namespace SQ
open PySem PyProof.Rows
set_option autoImplicit false
structure MH(κ:KeyKind)(a b out:Array Keyed)(na nb:Nat):Prop where
 perm:out.toList.reverse.Perm (a.toList.drop na++b.toList.drop nb)
 sort:out.toList.reverse.Pairwise (le κ)
 la:∀ x∈a.toList.take na,∀ y∈out.toList.reverse,le κ x y
 lb:∀ x∈b.toList.take nb,∀ y∈out.toList.reverse,le κ x y
section
variable {κ:KeyKind}{a b out:Array Keyed}{na nb:Nat}
theorem ext_take(xs:Array Keyed)(n:Nat):(xs.extract 0 n).toList=xs.toList.take n:=by
 rw [Array.toList_extract,List.extract_eq_take_drop,List.drop_zero,Nat.sub_zero]
theorem perm_lo{α:Type}{o x y u v:List α}(h:o.Perm (x++y)):(u++v++o).Perm ((u++x)++(v++y)):=by
 refine(List.Perm.append_left _ h).trans ?_
 rw [List.append_assoc,List.append_assoc u x]
 refine List.Perm.append_left u ?_
 rw [<-List.append_assoc,<-List.append_assoc]
 exact List.Perm.append_right y List.perm_append_comm
theorem MH.first(m:MH κ a b out na nb)(sa:Srt κ a)(sb:Srt κ b)(h:∀ x∈b.toList.take nb,∀ y∈a.toList,le κ x y):Mg κ a b (b.extract 0 nb++a.extract 0 na++out.reverse):=by
 refine⟨?_,?_⟩
 ·rw [Array.toList_append,Array.toList_append,ext_take,ext_take,Array.toList_reverse]
  have:=perm_lo (u:=b.toList.take nb) (v:=a.toList.take na) (m.perm.trans List.perm_append_comm)
  rw [List.take_append_drop,List.take_append_drop] at this
  exact this.trans List.perm_append_comm
 ·rw [Array.toList_append,Array.toList_append,ext_take,ext_take,Array.toList_reverse]
  refine List.pairwise_append.mpr ⟨List.pairwise_append.mpr ⟨sb.take,sa.take,fun x hx y hy=>h x hx y (List.mem_of_mem_take hy)⟩,m.sort,fun x hx y hy=>?_⟩
  rcases List.mem_append.mp hx with hx | hx
  ·exact m.lb x hx y hy
  ·exact m.la x hx y hy
end
section
variable {prog:Program}{w:World}{A:Around}{E:Value->Shared->Prop}{s:Shared}{κ:KeyKind}{kd:SortKind}
end
end SQ
namespace SQ
open PySem PyProof.Rows
set_option autoImplicit false
section
variable {prog:Program}{w:World}{A:Around}{E:Value->Shared->Prop}{s:Shared}{κ:KeyKind}{kd:SortKind}{a₀:Array Keyed}
theorem AllK.of{xs:Array Keyed}(h:∀ p∈xs.toList,∃ a,κ.keyOf p.1=some a):AllK κ xs:=fun p hp=>by
 obtain⟨a,e⟩:=h p hp
 unfold kk
 rw [e]
 rfl
end
end SQ
namespace SQ
open PySem PyProof.Rows
set_option autoImplicit false
section
variable {prog:Program}{w:World}{A:Around}{E:Value->Shared->Prop}{s:Shared}{κ:KeyKind}{kd:SortKind}{a₀:Array Keyed}
end
end SQ
namespace SQ
open PySem PyProof.Rows
set_option autoImplicit false
def Cov(κ:KeyKind)(xs:Array Keyed):Nat->List (Nat×Nat×Nat)->Nat->Prop
 | at_,[],hi=>at_=hi
 | at_,(b,n,_)::r,hi=>b=at_/\1<=n/\Up κ xs at_ n/\Cov κ xs (at_+n) r hi
section
variable {κ:KeyKind}
theorem Cov.le{xs:Array Keyed}:∀{l:List (Nat×Nat×Nat)} {at_ hi:Nat},Cov κ xs at_ l hi->at_+l.length<=hi
 | [],at_,hi,h=>by have:at_=hi:=h;simp;omega
 | (b,n,p)::r,at_,hi,h=>by
  obtain⟨_,h1,_,h2⟩:=h
  have:=h2.le
  simp only [List.length_cons];omega
theorem Cov.push{xs:Array Keyed}{n pw:Nat}:∀{l:List (Nat×Nat×Nat)} {at_ hi:Nat},Cov κ xs at_ l hi->1<=n->Up κ xs hi n->Cov κ xs at_ (l ++ [(hi,n,pw)]) (hi+n)
 | [],at_,hi,h,hn,u=>by
  have e:at_=hi:=h
  subst e
  exact⟨rfl,hn,u,rfl⟩
 | (b,m,p)::r,at_,hi,h,hn,u=>⟨h.1,h.2.1,h.2.2.1,h.2.2.2.push hn u⟩
end
section
variable {prog:Program}{w:World}{A:Around}{E:Value->Shared->Prop}{s:Shared}{κ:KeyKind}{kd:SortKind}{a₀:Array Keyed}
end
end SQ
namespace SQ
open PySem PyProof.Rows
set_option autoImplicit false
section
variable {prog:Program}{w:World}{A:Around}{E:Value->Shared->Prop}{s:Shared}
theorem q_collect{Q:List Value->Shared->Prop}{l:Addr}{T:String}{o:Obj}{xs:Array Value}{n:Nat}(hT:T = "list" \/ T = "tuple")(ho:s.heap.get? l=some o)(hc:o.cls=.type T)(hd:o.data=.seq xs n)(hz:xs.size<=sizeLine)
  (q:Q xs.toList { s with heap:=(s.heap.push (seqObj "list" #[] 0)).update s.heap.objs.size (Obj.mapSeq (·++xs)) }):wpAny (model prog w) A (collect (.ref l)) Q E s:=by
 unfold collect
 refine wpAny_bind (wpAny_runValue (codeAny_builtin PySem.F.entry_proto_collect ?_))
 rw [Around.under_plainId PySem.F.plain_proto_collect _]
 show wpAny _ A.in1 (newList [] >>= fun z=>again (.builtin "list.__iadd__" ⟨[z,.ref l],[]⟩)) _ _ s
 refine wpAny_bind (wpAny_newObj_type ?_)
 refine wpAny_pure ⟨plainId_quiet PySem.F.plain_list_iadd _,codeAny_builtin PySem.F.entry_list_iadd ?_⟩
 rw [Around.under_plainId PySem.F.plain_list_iadd _]
 show wpAny _ A.in1 (Builtin.List.listExtendWith (.ref s.heap.objs.size) (.ref l) (.ref s.heap.objs.size)) _ _ _
 have g1:(s.heap.push { cls:=.type "list",data:=.seq ([]:List Value).toArray }).get? s.heap.objs.size=some { cls:=.type "list",data:=.seq #[] 0 }:=Heap.get?_push_size _ rfl
 have g2:=Heap.get?_update_self (Obj.mapSeq (·++xs)) g1 rfl
 have fin:wpAny (model prog w) A (match Value.ref s.heap.objs.size with
   | Value.ref z=>do
    match (<-load z).data with
     | Data.seq ys _=>pure ys.toList
     | _=>unsupported "internal:collect"
   | _=>unsupported "internal:collect") Q E { s with heap:=(s.heap.push { cls:=.type "list",data:=.seq ([]:List Value).toArray }).update s.heap.objs.size (Obj.mapSeq (·++xs)) }:=by
  show wpAny _ A (load s.heap.objs.size >>= _) _ _ _
  refine wpAny_bind (wpAny_load g2 (wpAny_pure ?_))
  show Q ((#[]:Array Value)++xs).toList _
  rw [show((#[]:Array Value)++xs).toList=xs.toList by simp]
  exact q
 refine wpAny_mono (wpAny_extend_seq (hsz:=hz) (A:=A) (R:=fun r s'=>r=.ok (.ret (.ref s.heap.objs.size))/\s' = { s with heap:=(s.heap.push { cls:=.type "list",data:=.seq ([]:List Value).toArray }).update s.heap.objs.size (Obj.mapSeq (·++xs)) })
  (s:={ s with heap:=s.heap.push { cls:=.type "list",data:=.seq ([]:List Value).toArray } }) _ l _ 0 hT g1 (Heap.get?_push_of_some _ ho) hc hd ⟨rfl,rfl⟩) (fun f s' z=>?_) (fun e s' z=>absurd z.1 (by simp))
 cases f with
 | done f =>
  obtain⟨e,rfl⟩:=z
  cases e
  exact fin
 | again c'=>exact⟨z.1,codeAny_mono z.2 fun r s2 y=>by obtain⟨rfl,rfl⟩:=y;exact fin⟩
end
end SQ
namespace SQ
open PySem PyProof.Rows
set_option autoImplicit false
@[reducible] def intK:KeyKind where
 α:=Int
 blt a b:=decide (a<b)
 irrefl a:=by simp
 trans a b c h1 h2:=by simp only [decide_eq_true_eq] at *;omega
 negTrans a b c h:=by simp only [decide_eq_true_eq] at *;omega
 total a b h1 h2:=by simp only [decide_eq_false_iff_not] at *;omega
 keyOf v:=match v with | .int i _=>some i | _=>none
 dflt:=0
def RefIs(h:Heap)(v:Value)(is:List Int):Prop:=∃ a its,v=.ref a/\IsTup h a its/\IntsAre its.toList is
theorem IntsAre.same{vs:List Value}{ns ms:List Int}(h:IntsAre vs ns)(h':IntsAre vs ms):ns=ms:=by rw [<-h.nums,<-h'.nums]
theorem RefIs.uniq{h:Heap}{v:Value}{is js:List Int}(x:RefIs h v is)(y:RefIs h v js):is=js:=by
 obtain⟨a,its,rfl,⟨o,e,_,n,d⟩,i1⟩:=x
 obtain⟨a',its',e',⟨o',e2,_,n',d'⟩,i2⟩:=y
 cases e'
 rw [e] at e2
 cases e2
 rw [d] at d'
 cases d'
 exact IntsAre.same i1 i2
theorem RefIs.keep{h h':Heap}{v:Value}{is:List Int}(k:∀ b o,h.get? b=some o->h'.get? b=some o)(x:RefIs h v is):RefIs h' v is:=by
 obtain⟨a,its,e,t,i⟩:=x
 exact⟨a,its,e,t.keeps k,i⟩
open Classical in
noncomputable def refKey (h:Heap) (v:Value):Option (List Int):=if x:∃ is,RefIs h v is then some x.choose else none
@[reducible] noncomputable def tupK (h:Heap):KeyKind where
 α:=List Int
 blt a b:=decide (a<b)
 irrefl a:=by simpa using List.lt_irrefl a
 trans a b c h1 h2:=by simp only [decide_eq_true_eq] at *;exact List.lt_trans h1 h2
 negTrans a b c h:=by
  simp only [decide_eq_true_eq] at *
  by_cases c:a<b
  ·exact .inl c
  ·exact .inr (List.lt_of_le_of_lt (List.not_lt.mp c) h)
 total a b h1 h2:=by simp only [decide_eq_false_iff_not] at *;exact List.le_antisymm (List.not_lt.mp h2) (List.not_lt.mp h1)
 keyOf v:=refKey h v
 dflt:=[]
section
variable {prog:Program}{w:World}{A:Around}{E:Value->Shared->Prop}{s:Shared}
theorem oneLt_intF{a b:Int}{t u:Tok}{f:Bool}{Q:Bool->Shared->Prop}(h:Q (decide (a<b)) s):wpAny (model prog w) A (oneLt' f (.int a t) (.int b u)) Q E s:=by
 cases f with
 | true=>exact oneLt_int h
 | false =>
  rw [oneLt'_eq]
  rw [if_neg (by decide)]
  have:=CmpOf.ints_lt (prog:=prog) (w:=w) (A:=A) (P:=fun i v=>(i=0/\v=.int a t)\/(i=1/\v=.int b u)) (fun i=>if i=0 then a else b) (fun i v hv=>by
   rcases hv with⟨rfl,rfl⟩ | ⟨rfl,rfl⟩
   ·exact⟨t,rfl⟩
   ·exact⟨u,rfl⟩)
  exact wpAny_bind (this 0 1 _ _ s _ E (.inl ⟨rfl,rfl⟩) (.inr ⟨rfl,rfl⟩) (wpAny_truthy_bool h))
end
end SQ
namespace SQ
open PySem PyProof.Rows
set_option autoImplicit false
inductive All2{α β:Type}(R:α->β->Prop):List α->List β->Prop
 | nil:All2 R [] []
 | cons {a:α} {b:β} {as:List α} {bs:List β} (h:R a b) (t:All2 R as bs):All2 R (a::as) (b::bs)
theorem All2.len{α β:Type}{R:α->β->Prop}{as:List α}{bs:List β}(h:All2 R as bs):as.length=bs.length:=by
 induction h with
 | nil=>rfl
 | cons _ _ ih=>simp [ih]
theorem All2.mem{α β:Type}{R:α->β->Prop}{as:List α}{bs:List β}(h:All2 R as bs){a:α}(ha:a∈as):∃ b∈bs,R a b:=by
 induction h with
 | nil=>cases ha
 | cons h _ ih =>
  rcases List.mem_cons.mp ha with rfl | ha
  ·exact⟨_,List.mem_cons_self,h⟩
  ·obtain⟨b,hb,r⟩:=ih ha
   exact⟨b,List.mem_cons_of_mem _ hb,r⟩
section
variable {prog:Program}{w:World}{A:Around}{E:Value->Shared->Prop}{s:Shared}
end
end SQ
namespace L2
open PySem PySem.Spec PyProof.Rows SQ
def tD(is:List Int):D:=.tuple (is.map PyData.int)
section
variable {X:Cx}
theorem refs_of{pins:List (Addr×Obj)}{σ:St}{H:Hp}{s:Shared}(I:Inv X pins σ H s):∀{tss:List (List Int)} {vs:List V} {us:List Value},Reps X.K H (tss.map tD) vs->Vals vs us->All2 (RefIs s.heap) us tss
 | [],_,_,.nil,.nil=>.nil
 | t::tss,_,_,.cons r rs,.cons q qs=>by
  refine .cons ?_ (refs_of I rs qs)
  cases r with
  | tup h r =>
   cases q
   have:=Reps.of_ints r
   subst this
   obtain⟨its,rv,ht,_⟩:=I.tuple h
   exact⟨_,its.toArray,rfl,ht,by simpa using intsAre_of rv⟩
theorem perm_map{α:Type}{f:α->D}(g:D->α)(hg:∀ a,g (f a)=a){ds:List D}{as:List α}(p:ds.Perm (as.map f)):∃ bs:List α,ds=bs.map f/\bs.Perm as:=by
 have:∀ d∈ds,∃ a,d=f a/\True:=fun d hd=>by
  obtain⟨a,_,e⟩:=List.mem_map.mp (p.mem_iff.mp hd)
  exact⟨a,e.symm,trivial⟩
 obtain⟨bs,e,_⟩:=mem_enc this
 subst e
 refine⟨bs,rfl,?_⟩
 have z:∀ l:List α,(l.map f).map g=l:=fun l=>by rw [List.map_map];exact(List.map_congr_left fun a _=>hg a).trans (List.map_id _)
 have:=p.map g
 rwa [z,z] at this
def deI:D->Int
 | .int i=>i
 | _=>0
def deT:D->List Int
 | .tuple xs=>xs.map deI
 | _=>[]
theorem deT_tD(is:List Int):deT (tD is)=is:=by
 show(is.map PyData.int).map deI=is
 rw [List.map_map]
 exact(List.map_congr_left fun a _=>rfl).trans (List.map_id _)
end
end L2
namespace L2
open PySem PySem.Spec PyProof.Rows
namespace RV
theorem own1:Manifest.owners.lookup (String.ofList ['d','e','s','r','e','v','e','r'].reverse)=some Manifest.sig_reversed:=by kernel_rfl
theorem sNext:Slot "reversed" "__next__" "reversed.__next__" := .of (owner := "reversed") (n := "__next__") (by rw [typeLookup_type,builtinLookup_eq_fast];kernel_rfl) (by decide +kernel) (by decide +kernel) (by decide +kernel) (by first | exact .inl (by decide +kernel) | exact .inr (by decide +kernel)) (by rw [isSubtype_type];kernel_rfl)
theorem sIter:Slot "reversed" "__iter__" "reversed.__iter__" := .of (owner := "reversed") (n := "__iter__") (by rw [typeLookup_type,builtinLookup_eq_fast];kernel_rfl) (by decide +kernel) (by decide +kernel) (by decide +kernel) (by first | exact .inl (by decide +kernel) | exact .inr (by decide +kernel)) (by rw [isSubtype_type];kernel_rfl)
theorem aIter(a:Value):argsOk "reversed.__iter__" ⟨[a],[]⟩:=by
 unfold argsOk;rw [signature?_of (id := "reversed.__iter__") (n:=['_','_','r','e','t','i','_','_']) (o:=['d','e','s','r','e','v','e','r']) (by kernel_rfl) own1];kernel_rfl
theorem eIter:entryFor table "reversed.__iter__" = some Builtin.«dict_keyiterator.__iter__»:=entryFor_alias (id' := "dict_keyiterator.__iter__") (by kernel_rfl) (by first | rfl | decide +kernel | (unfold String.splitOn;simp +decide [String.splitOnAux])) (by decide +kernel) (by kernel_rfl)
end RV
namespace RV
def ob(l:Addr)(i:Int):Obj:={ cls:=.type "reversed",data:=.fields #[.ref l,rawInt i] }
def Is(h:Heap)(a l:Addr)(i:Int):Prop:=∃ o,h.get? a=some o/\o.cls=.type "reversed" /\ o.data=.fields #[.ref l,rawInt i]
theorem Is.typeIs{s:Shared}{a l:Addr}{i:Int}(x:Is s.heap a l i):s.TypeIs (.ref a) "reversed" := let ⟨o,ho,hc,_⟩:=x;⟨o,ho,hc⟩
theorem Is.at{h h':Heap}{a l:Addr}{i:Int}(x:Is h a l i)(e:∀ o,h.get? a=some o->h'.get? a=some o):Is h' a l i:=let ⟨o,ho,r⟩:=x;⟨o,e _ ho,r⟩
section
variable {prog:Program}{w:World}{A:Around}{E:Value->Shared->Prop}{s:Shared}
theorem iter{it l:Addr}{i:Int}{Q:Value->Shared->Prop}(hit:Is s.heap it l i)(h:Q (.ref it) s):wpAny (model prog w) A (pyIter (.ref it)) Q E s:=by
 refine wpAny_pyIter_slot hit.typeIs sIter (wpAny_call_entry sIter hit.typeIs eIter ?_ (aIter _))
 show wpAny _ _ (ret (.ref it)) _ _ s
 exact wpAny_pure ⟨_,rfl, "reversed",_,hit.typeIs,sNext.lookup,h⟩
end
end RV
section
variable {X:Cx}{tg a:Expr}{t:DTF}{p pos:Pos}
end
section
variable {X:Cx}{a:Expr}{p pos p2 pos2:Pos}
end
def zObj(TI TO:Addr)(old fl:Value):Obj:={ cls:=.type "zip",dict:=none,data:=.fields #[old,fl,.bool false,.ref TI,.ref TO],slots:=#[] }
def IsZ(h:Heap)(z TI TO:Addr)(old fl:Value):Prop:=h.get? z=some (zObj TI TO old fl)
def OldZ(old:Value):Prop:=old=.none\/∃ p:Addr,old=rawInt p
section
variable {prog:Program}{w:World}{A:Around}{E:Value->Shared->Prop}{s:Shared}
end
def ZSt(b1 b2:Bool)(z TI TO i1 i2 l1 l2:Addr)(k:Nat)(h:Heap):Prop:=∃ old fl a b,IsZ h z TI TO old fl/\OldZ old/\IsPair h TI (.ref i1) (.ref i2)/\IsPair h TO a b/\zIt b1 h i1 l1 k/\zIt b2 h i2 l2 k
theorem ZSt.keep{b1 b2:Bool}{z TI TO i1 i2 l1 l2:Addr}{k:Nat}{h h':Heap}(st:ZSt b1 b2 z TI TO i1 i2 l1 l2 k h)(kp:∀ b ∈ [z,TI,TO,i1,i2],∀ o,h.get? b=some o->h'.get? b=some o):ZSt b1 b2 z TI TO i1 i2 l1 l2 k h':=by
 obtain⟨old,fl,a,b,hz,ho,hI,hO,h1,h2⟩:=st
 exact⟨old,fl,a,b,kp _ (by simp) _ hz,ho,kp _ (by simp) _ hI,kp _ (by simp) _ hO,h1.at fun o e=>kp i1 (by simp) o e,h2.at fun o e=>kp i2 (by simp) o e⟩
section
variable {prog:Program}{w:World}{A:Around}{E:Value->Shared->Prop}{s:Shared}
end
section
variable {prog:Program}{w:World}{A:Around}{E:Value->Shared->Prop}{s:Shared}
end
section
variable {X:Cx}{a b:Expr}{p pos p2 pos2:Pos}{elts:List Expr}{tpos:Pos}
end
section
variable {X:Cx}
variable {o e:Expr}{to te:DTE}{apos cpos:Pos}
end
section
variable {X:Cx}{e:Expr}{tf:DTF}{pos:Pos}
def dExt(i:Nat)(tf:DTF):DTS:=fun Dn σ=>match σ[i]? with
 | some (some (.own (.lst xs)))=>tf σ fun ys=>xs.length+ys.length<=sizeLine/\Dn.nx (clr (σ.set i (some (.own (.lst (xs++ys))))))
 | _=>False
theorem ds_extend(i:Nat){x:Str}{p1 apos cpos:Pos}(he:DF X e tf)(hN:X.N[i]?=some x:=by rfl)(hv:Vis X.env.scope x:=by first | exact Or.inl rfl | exact Or.inr (Or.inl rfl) | exact Or.inr (Or.inr rfl))(hd:(x == ("__debug__" : Str))=false:=by decide)
  (hcd:(x == ("__classdict__" : Str))=false:=by decide)
  (hbase:attributeBase (.Name x p1) "extend" X.env (eval (.Name x p1) X.env)=eval (.Name x p1) X.env:=by rfl)
  (hfew:((backTo cpos (starEach (e :: []) X.env)).all (fun x=>!x.1) && (backToKw cpos (keywordEach [] X.env)).all (fun x=>x.1.isSome)
   && decide ((e :: []).length+([]:List Keyword).length+(if ([]:List Keyword).isEmpty then 0 else 1)<30))=true:=by rfl)
  (hline:(apos.endLine == cpos.line)=true:=by rfl) (hst:starEach (e :: []) X.env=(false,eval e X.env)::starEach [] X.env:=by rfl) (hplain:(backTo cpos (starEach [] X.env)).any (·.1)=false:=by rfl)
  (hs:swapsWith (.Call (.Attribute (.Name x p1) "extend" apos) [e] [] cpos) none pos.line X.env=pure false:=by rfl):DS X (.Expr (.Call (.Attribute (.Name x p1) "extend" apos) [e] [] cpos) pos) (dExt i tf) :=
 DS.of (ps_expr (pe_bm PySem.F.plainAttrs_list PySem.F.slot_list_extend PySem.F.type_list_extend mt_extend (pe_var (i:=i) hN hv hd hcd) (pa_cons he.pe pa_nil hst) hbase hfew hline hst hplain) hs) fun σ H H₀ σD Dn ok q=>by
  unfold dExt at q
  split at q
  ·next xs eo =>
   obtain⟨a,vs,e1,e2,r,n⟩:=ok.ownL eo
   refine⟨.ref a,e1,.inl ⟨rfl,vs,SqL.of e2⟩,H₀,σD,_,ok,q,fun b H1 zs ys s1 n1 eb r1 q1=>?_⟩
   refine⟨a,b,vs,zs,rfl,rfl,s1 _ _ e2,eb,by rw [<-r.length,<-r1.length];exact q1.1,_,(ok.after s1).write eo e1 (s1 _ _ e2) ((r.same s1).append r1),s1.pers.trans (upd_pers (s1 _ _ e2) rfl),q1.2⟩
  ·exact q.elim
end
section
variable (P:Program)(w:World)
end
section
variable {P:Program}{w:World}{H H':Hp}{h h':Heap}{a:Addr}{o:HO}
end
section
variable {P:Program}{w:World}{H:Hp}{h h':Heap}{x e:Addr}{o':HO}
end
section
variable {fs fs' ex ex':List Addr}{H H1 H2:Hp}{h h1 h2 h':Heap}{a x e:Addr}{o:HO}
end
section
variable {X:Cx}{pins:List (Addr×Obj)}{σ:List (Option V)}{H H':Hp}{s:Shared}{h':Heap}
end
section
variable {X:Cx}
variable {a b:Expr}{ta tb:TE}{pos:Pos}
variable {tA tB':TT}{rest:List Expr}
end
section
variable {X:Cx}{pins:List (Addr×Obj)}{σ:St}{H:Hp}{s:Shared}{a:Addr}{xs ys:List V}
end
section
variable {X:Cx}{pins:List (Addr×Obj)}{σ:St}{H:Hp}{s:Shared}{E:Value->Shared->Prop}
end
section
variable {X:Cx}{st:Stmt}{rest:List Stmt}{t u:TS}{e:Expr}{te:TE}{pos:Pos}
end
section
variable {X:Cx}{pos:Pos}
end
section
variable {X:Cx}{pos:Pos}
end
section
variable {X:Cx}{tg:Expr}
end
section
variable {X:Cx}{a b c:Expr}{ta tb tc:TE}{pos:Pos}
end
section
variable {X:Cx}{a b c:Expr}{ta tb tc:TE}{pos:Pos}
end
section
variable {prog:Program}{w:World}{A:Around}{E:Value->Shared->Prop}{s:Shared}{K:PySem.W.Frag}{x dx C f:Addr}{mA:Str->Option Value}{name:Str}{v:Value}
end
section
variable {P:Program}{w:World}{H H':Hp}{h h':Heap}{a C dx:Addr}{fs fs':List (Str×V)}
end
section
variable {X:Cx}{pins:List (Addr×Obj)}{σ:St}{H:Hp}{s:Shared}{a C dx:Addr}{fs:List (Str×V)}{f:Str}{v:V}{A:Around}{E:Value->Shared->Prop}
end
section
variable {X:Cx}{o e value:Expr}{f:Str}{pos pos' tpos:Pos}{ta tv:TE}
end
section
variable {X:Cx}{pins:List (Addr×Obj)}{σ:St}{H:Hp}{s:Shared}{A:Around}{E:Value->Shared->Prop}{Q:Value->Shared->Prop}{c:Value}{b:Bool}
end
section
variable {X:Cx}{e:Expr}{es:List Expr}{te:TE}{t:TA}{pos:Pos}
end
section
variable {X:Cx}{pins:List (Addr×Obj)}{σ:St}{H:Hp}{s s':Shared}
end
section
variable {X:Cx}{CX:CXT}{k:Nat}{f C:Addr}{fd:FuncData}{ps:List Str}{sp:Sp}{dvs:List V}{ds:List Value}{E:XK}{x m:Str}{p pos apos:Pos}{e o:Expr}{es:List Expr}{ta:TE}{t:TA}
end
section
variable {X:Cx}{CX:CXT}{k:Nat}{f C:Addr}{fd:FuncData}{ps ks:List Str}{sp:Sp}{E:XK}{x m:Str}{p pos apos kpos:Pos}{e o:Expr}{es:List Expr}{kws:List Keyword}{te ta:TE}{t tk:TA}{nm:Option Str}
variable {g:List Value->List Value->List Value}{gV:List V->List V->List V}
end
section
variable {X:Cx}{x:Str}{p pos:Pos}{e:Expr}{es:List Expr}{t:TA}{id T:String}{r:List V->Hp->VK->Prop}
end
section
variable {κ:Type}[DecidableEq κ]
def valV(kvs:List (κ×V))(k:κ):Option V:=(kvs.find? fun kv=>decide (kv.1=k)).map (·.2)
def putK(kvs:List (κ×V))(k:κ)(v:V):List (κ×V) :=
 if (kvs.any fun kv=>decide (kv.1=k))=true then kvs.map (fun kv=>if kv.1=k then (kv.1,v) else kv) else kvs ++ [(k,v)]
def dropK(kvs:List (κ×V))(k:κ):List (κ×V):=kvs.filter fun kv=>decide (kv.1≠k)
theorem valV_pos{p:κ×V}{r:List (κ×V)}{k:κ}(e:p.1=k):valV (p::r) k=some p.2:=by simp [valV,List.find?_cons,e]
theorem valV_neg{p:κ×V}{r:List (κ×V)}{k:κ}(e:¬ p.1=k):valV (p::r) k=valV r k:=by simp [valV,List.find?_cons,e]
theorem RelO.getD{o:Option V}{u:Option Value}{d:V}{d':Value}(r:RelO o u)(rd:RelV d d'):RelV (o.getD d) (u.getD d'):=by
 cases o with
 | none=>cases u with
  | none=>exact rd
  | some _=>exact(show False from r).elim
 | some _=>cases u with
  | none=>exact(show False from r).elim
  | some _=>exact r
theorem KV.val{kvs:List (κ×V)}{vs:List (κ×Value)}(r:KV kvs vs)(k:κ):RelO (valV kvs k) (valueAt vs k):=by
 unfold KV at r
 induction r with
 | nil=>exact True.intro
 | @cons p q ps qs h t ih =>
  obtain⟨h1,h2⟩:=h
  by_cases e:p.1=k
  ·have e':q.1=k:=h1.symm.trans e
   have b:valueAt (q::qs) k=some q.2:=by simp [valueAt,List.find?_cons,e']
   rw [valV_pos e,b];exact h2
  ·have e':¬ q.1=k:=fun z=>e (h1.trans z)
   have b:valueAt (q::qs) k=valueAt qs k:=by simp [valueAt,List.find?_cons,e']
   rw [valV_neg e,b];exact ih
theorem KV.any{kvs:List (κ×V)}{vs:List (κ×Value)}(r:KV kvs vs)(k:κ):(kvs.any fun kv=>decide (kv.1=k))=vs.any fun kv=>decide (kv.1=k):=by
 unfold KV at r
 induction r with
 | nil=>rfl
 | cons h t ih=>rw [List.any_cons,List.any_cons,ih,h.1]
theorem KV.drop{kvs:List (κ×V)}{vs:List (κ×Value)}(r:KV kvs vs)(k:κ):KV (dropK kvs k) (without vs k):=by
 unfold KV at r ⊢
 unfold dropK without
 induction r with
 | nil=>exact .nil
 | @cons p q ps qs h t ih =>
  obtain⟨h1,h2⟩:=h
  rw [List.filter_cons,List.filter_cons]
  by_cases e:p.1=k
  ·have a:¬ decide (p.1≠k)=true:=by simp [e]
   have b:¬ decide (q.1≠k)=true:=by simp [h1.symm.trans e]
   rw [if_neg a,if_neg b];exact ih
  ·have e':¬ q.1=k:=fun z=>e (h1.trans z)
   have a:decide (p.1≠k)=true:=by simp [e]
   have b:decide (q.1≠k)=true:=by simp [e']
   rw [if_pos a,if_pos b];exact .cons ⟨h1,h2⟩ ih
theorem KV.length{kvs:List (κ×V)}{vs:List (κ×Value)}(r:KV kvs vs):kvs.length=vs.length:=Paired.length r
end
abbrev KT(H:Hp):List (List Key×V)->List (List Key×Addr×Value)->Prop:=Paired fun p q=>p.1=q.1/\H q.2.1=some (.tup (p.1.map kV))/\RelV p.2 q.2.2
theorem KT.val{H:Hp}{kvs:List (List Key×V)}{xs:List (List Key×Addr×Value)}(r:KT H kvs xs)(k:List Key):RelO (valV kvs k) ((atKey xs k).map (·.2)):=by
 induction r with
 | nil=>exact True.intro
 | @cons p q ps qs h t ih =>
  obtain⟨h1,_,h2⟩:=h
  by_cases e:p.1=k
  ·have e':q.1=k:=h1.symm.trans e
   have b:atKey (q::qs) k=some q.2:=by simp [atKey,List.find?_cons,e']
   rw [valV_pos e,b];exact h2
  ·have e':¬ q.1=k:=fun z=>e (h1.trans z)
   have b:atKey (q::qs) k=atKey qs k:=by simp [atKey,List.find?_cons,e']
   rw [valV_neg e,b];exact ih
theorem KT.keeps{H H':Hp}{kvs:List (List Key×V)}{xs:List (List Key×Addr×Value)}(r:KT H kvs xs)(ht:∀ b ys,H b=some (.tup ys)->H' b=some (.tup ys)):KT H' kvs xs :=
 Paired.mapP r fun _ _ z=>⟨z.1,ht _ _ z.2.1,z.2.2⟩
section
variable {P:Program}{w:World}{H:Hp}{h:Heap}{a:Addr}
end
def DGet(H:Hp)(a:Addr)(y:V)(r:Option V):Prop :=
 (∃ kvs k,Rd H a (.dK kvs)/\y=kV k/\r=valV kvs k)\/∃ kvs k b,Rd H a (.dT kvs)/\y=.ref b/\H b=some (.tup (k.map kV))/\r=valV kvs k
def DPut(H:Hp)(a:Addr)(y v:V)(H':Hp):Prop :=
 (∃ kvs k,H a=some (.dK kvs)/\y=kV k/\kvs.length<sizeLine/\H'=upd H a (.dK (putK kvs k v))) \/
 ∃ kvs k b,H a=some (.dT kvs)/\y=.ref b/\H b=some (.tup (k.map kV))/\kvs.length<sizeLine/\H'=upd H a (.dT (putK kvs k v))
theorem DGet.k{H:Hp}{a:Addr}{kvs:List (Key×V)}{k:Key}(e:H a=some (.dK kvs)):DGet H a (kV k) (valV kvs k):=.inl ⟨kvs,k,.inl e,rfl,rfl⟩
theorem DGet.t{H:Hp}{a b:Addr}{kvs:List (List Key×V)}{k:List Key}(e:H a=some (.dT kvs))(eb:H b=some (.tup (k.map kV))):DGet H a (.ref b) (valV kvs k):=.inr ⟨kvs,k,b,.inl e,rfl,eb,rfl⟩
theorem DPut.k{H:Hp}{a:Addr}{kvs:List (Key×V)}{k:Key}{v:V}(e:H a=some (.dK kvs))(hl:kvs.length<sizeLine):DPut H a (kV k) v (upd H a (.dK (putK kvs k v))):=.inl ⟨kvs,k,e,rfl,hl,rfl⟩
theorem DPut.t{H:Hp}{a b:Addr}{kvs:List (List Key×V)}{k:List Key}{v:V}(e:H a=some (.dT kvs))(eb:H b=some (.tup (k.map kV)))(hl:kvs.length<sizeLine):
  DPut H a (.ref b) v (upd H a (.dT (putK kvs k v))):=.inr ⟨kvs,k,b,e,rfl,eb,hl,rfl⟩
section
variable {X:Cx}{pins:List (Addr×Obj)}{σ:St}{H:Hp}{s:Shared}{a:Addr}{y v:V}{u r:Value}{o:Option V}{A:Around}{E:Value->Shared->Prop}
end
section
variable {X:Cx}{pins:List (Addr×Obj)}{σ:St}{H:Hp}{s:Shared}{a:Addr}{kvs:List (Key×V)}{k:Key}{u:Value}{A:Around}{E:Value->Shared->Prop}
end
section
variable {X:Cx}{o i e value:Expr}{pos pos' tpos:Pos}{td ty tv:TE}
end
section
variable {X:Cx}{pos:Pos}
end
structure M1(X:Cx)(o:Expr)(m:Str)(apos:Pos)(e:Expr)(cpos:Pos):Prop where
 base:attributeBase o m X.env (eval o X.env)=eval o X.env
 few:((backTo cpos (starEach [e] X.env)).all (fun x=>!x.1) && (backToKw cpos (keywordEach [] X.env)).all (fun x=>x.1.isSome)
  && decide (([e]:List Expr).length+([]:List Keyword).length+(if ([]:List Keyword).isEmpty then 0 else 1)<30))=true
 line:(apos.endLine == cpos.line)=true
 trees:backTo cpos (starEach [e] X.env) = [(false,eval e X.env)]
structure M2(X:Cx)(o:Expr)(m:Str)(apos:Pos)(e f:Expr)(cpos:Pos):Prop where
 base:attributeBase o m X.env (eval o X.env)=eval o X.env
 few:((backTo cpos (starEach [e,f] X.env)).all (fun x=>!x.1) && (backToKw cpos (keywordEach [] X.env)).all (fun x=>x.1.isSome)
  && decide (([e,f]:List Expr).length+([]:List Keyword).length+(if ([]:List Keyword).isEmpty then 0 else 1)<30))=true
 line:(apos.endLine == cpos.line)=true
 trees:backTo cpos (starEach [e,f] X.env) = [(false,eval e X.env),(false,eval f X.env)]
section
variable {X:Cx}{pins:List (Addr×Obj)}{σ:St}{H:Hp}{s:Shared}{a:Addr}{y d:V}{u r:Value}{o:Option V}{A:Around}{E:Value->Shared->Prop}
end
section
variable {X:Cx}{o e f:Expr}{apos cpos:Pos}{td ty tx:TE}
end
section
variable {X:Cx}{pins:List (Addr×Obj)}{σ:St}{H:Hp}{s:Shared}{a:Addr}{kvs:List (Key×V)}{A:Around}{E:Value->Shared->Prop}
end
section
variable {X:Cx}{pins:List (Addr×Obj)}{σ:St}{H:Hp}{s:Shared}{a:Addr}{y:V}{u:Value}{A:Around}{E:Value->Shared->Prop}
end
end L2
namespace Att
open PySem PySem.W PySem.Calls PyProof.Rows
section
variable {prog:Program}{w:World}{A:Around}{E:Value->Shared->Prop}{s:Shared}{K:Frag}
end
end Att
namespace L2
open PySem PySem.Spec PyProof.Rows
section
variable {P:Program}{w:World}{K:PySem.W.Frag}{mg:Str->Option Value}{base:Heap}
end
section
variable {X:Cx}
end
section
variable {κ:Type}[DecidableEq κ]
end
section
variable {K:PySem.W.Frag}{H H':Hp}
theorem RepKV.split{ks:List (Key×D)}{vs:List (Key×V)}{p:Key×D}(h:RepKV K H (p::ks) vs):∃ v vs',vs=(p.1,v)::vs'/\Rep K H p.2 v/\RepKV K H ks vs':=by
 obtain⟨h1,h2⟩:=h
 cases vs with
 | nil=>cases h1
 | cons q vs =>
  obtain⟨k,v⟩:=q
  rw [List.map_cons,List.map_cons,List.cons.injEq] at h1
  rw [List.map_cons,List.map_cons] at h2
  cases h2 with
  | cons r t =>
   obtain⟨e,e2⟩:=h1
   have e':p.1=k:=e
   subst e'
   exact⟨v,vs,rfl,r,e2,t⟩
theorem RepKV.cons{ks:List (Key×D)}{vs:List (Key×V)}{k:Key}{d:D}{v:V}(r:Rep K H d v)(h:RepKV K H ks vs):RepKV K H ((k,d)::ks) ((k,v)::vs):=⟨by simp [h.1],.cons r h.2⟩
theorem RepKV.nil':RepKV K H [] []:=⟨rfl,.nil⟩
theorem RepKV.len{ks:List (Key×D)}{vs:List (Key×V)}(h:RepKV K H ks vs):ks.length=vs.length:=by
 have:=congrArg List.length h.1
 simpa using this
theorem RepKV.any:∀{ks:List (Key×D)} {vs:List (Key×V)} (k:Key),RepKV K H ks vs->(ks.any fun kv=>decide (kv.1=k))=vs.any fun kv=>decide (kv.1=k)
 | [],vs,k,h=>by
  cases vs with
  | nil=>rfl
  | cons q vs=>cases h.1
 | p::ks,vs,k,h=>by
  obtain⟨v,vs',rfl,r,t⟩:=h.split
  rw [List.any_cons,List.any_cons,RepKV.any k t]
theorem RepKV.map:∀{ks:List (Key×D)} {vs:List (Key×V)} {k:Key} {d:D} {v:V},RepKV K H ks vs->Rep K H d v->RepKV K H (ks.map fun kv=>if kv.1=k then (kv.1,d) else kv) (vs.map fun kv=>if kv.1=k then (kv.1,v) else kv)
 | [],vs,k,d,v,h,_=>by
  cases vs with
  | nil=>exact RepKV.nil'
  | cons q vs=>cases h.1
 | p::ks,vs,k,d,v,h,rd=>by
  obtain⟨v',vs',rfl,r,t⟩:=h.split
  rw [List.map_cons,List.map_cons]
  have ih:=RepKV.map (k:=k) t rd
  obtain⟨pk,pd⟩:=p
  by_cases c:pk=k
  ·simp only [c,if_true]
   exact RepKV.cons rd ih
  ·simp only [c,if_false]
   exact RepKV.cons r ih
end
section
variable {K:PySem.W.Frag}{H₀ H H':Hp}{σD:DSt}{σ:St}
end
section
variable {X:Cx}{e:Expr}{te tk tv:DTE}{pos:Pos}
end
section
variable {X:Cx}
variable {o e:Expr}{to te:DTE}{apos cpos:Pos}
end
end L2
namespace SQ
open PySem PyProof.Rows
set_option autoImplicit false
section
variable {κ:KeyKind}
variable {prog:Program}{w:World}{A:Around}{E:Value->Shared->Prop}{s:Shared}{κ:KeyKind}{kd:SortKind}{a₀:Array Keyed}
theorem q_sortRunsS{st:SortSt}{Q:Unit->SortSt->Prop}(L:LtOk prog w A s κ kd)(h0:KeysOf κ a₀)(g:SG kd a₀ st)(hp:pendingOf st = #[])(h2:2<=a₀.size)(h64:a₀.size<64)(q:∀ st',SG kd a₀ st'->SortedToK κ (arrOf st') a₀.size->Q () st'):wpS (model prog w) A E s sortRuns' Q st:=by
 rw [sortRuns'_eq]
 refine wpS_bind (wpS_get ?_)
 dsimp only
 simp only [g.sz]
 have emr:minRun' a₀.size a₀.size 0=a₀.size:=by
  obtain⟨m,hm⟩:∃ m,a₀.size=m+1:=⟨a₀.size-1,by omega⟩
  conv=>lhs;arg 1;rw [hm]
  rw [minRun'_succ,if_pos h64,Nat.add_zero]
 rw [emr]
 refine wpS_bind (wpS_mono (wpS_forRange (I:=fun x c z=>∃ lo,c=(none,lo)/\SG kd a₀ z/\Cov κ (arrOf z) 0 (pendingOf z).toList lo/\lo<=a₀.size/\x<=lo/\((lo=0/\pendingOf z = #[])\/(lo=a₀.size/\(pendingOf z).size<=1)))
  (Q:=fun c z=>c=(none,a₀.size)/\SG kd a₀ z/\Cov κ (arrOf z) 0 (pendingOf z).toList a₀.size/\(pendingOf z).size<=1) (fun x c z hx1 hx2 h=>?_) (fun c z h=>?_) ⟨0,rfl,g,by rw [hp];rfl,by omega,by omega,.inl ⟨rfl,hp⟩⟩) (fun c z h=>?_))
 ·obtain⟨lo,rfl,gz,cv,l1,l2,l3⟩:=h
  dsimp only
  refine wps_ite (fun c=>?_) (fun c=>?_)
  ·have e9:lo=a₀.size:=by omega
   subst e9
   refine wpS_pure ⟨rfl,gz,cv,?_⟩
   rcases l3 with⟨z,_⟩ | ⟨_,z⟩
   ·omega
   ·exact z
  obtain⟨rfl,hpz⟩:lo=0/\pendingOf z = #[]:=by
   rcases l3 with z | ⟨z,_⟩
   ·exact z
   ·omega
  refine wpS_bind (q_countRun L h0 gz (by omega) (by omega) fun k z1 g1 mv k1 k2 u=>?_)
  have hp1:pendingOf z1 = #[]:=by rw [mv.pend];exact hpz
  have cv1:Cov κ (arrOf z1) 0 (pendingOf z1).toList 0:=by rw [hp1];rfl
  dsimp only
  refine wps_ite (fun cm=>?_) (fun cm=>?_)
  ·refine wpS_bind (wpS_lift (wpAny_rule ⟨rfl,?_⟩))
   refine wpS_bind (q_insert L h0 g1 (by omega) (by omega) u fun z2 g2 mv2 u2=>?_)
   rw [if_neg (by decide)]
   have hp2:pendingOf z2 = #[]:=by rw [mv2.pend];exact hp1
   have cv2:Cov κ (arrOf z2) 0 (pendingOf z2).toList 0:=by rw [hp2];rfl
   refine wpS_bind (wpS_get ?_)
   cases hb:(pendingOf z2).back? with
   | none =>
    dsimp only
    refine wpS_bind (wpS_modify (wpS_pure ⟨0+(min (a₀.size-0) a₀.size),rfl,⟨g2.perm,g2.kind,g2.fail⟩,?_,by omega,by omega,.inr ⟨by omega,?_⟩⟩))
    ·show Cov κ (arrOf z2) 0 ((pendingOf z2).push (0,min (a₀.size-0) a₀.size,0)).toList (0+(min (a₀.size-0) a₀.size))
     rw [Array.toList_push]
     exact cv2.push (by omega) u2
    ·show((pendingOf z2).push (0,min (a₀.size-0) a₀.size,0)).size<=1
     rw [hp2]
     exact Nat.le_refl 1
   | some t=>rw [hp2] at hb;cases hb
  ·refine wpS_bind (wpS_get ?_)
   cases hb:(pendingOf z1).back? with
   | none =>
    dsimp only
    refine wpS_bind (wpS_modify (wpS_pure ⟨0+(k),rfl,⟨g1.perm,g1.kind,g1.fail⟩,?_,by omega,by omega,.inr ⟨by omega,?_⟩⟩))
    ·show Cov κ (arrOf z1) 0 ((pendingOf z1).push (0,k,0)).toList (0+(k))
     rw [Array.toList_push]
     exact cv1.push k1 u
    ·show((pendingOf z1).push (0,k,0)).size<=1
     rw [hp1]
     exact Nat.le_refl 1
   | some t=>rw [hp1] at hb;cases hb
 ·obtain⟨lo,rfl,gz,cv,l1,l2,l3⟩:=h
  have e9:lo=a₀.size:=by omega
  subst e9
  refine⟨rfl,gz,cv,?_⟩
  rcases l3 with⟨z,_⟩ | ⟨_,z⟩
  ·omega
  ·exact z
 ·obtain⟨rfl,gz,cv,hz1⟩:=h
  dsimp only
  refine wpS_bind (wpS_mono (wpS_forRange (I:=fun x c z=>c=(none,())/\SG kd a₀ z/\Cov κ (arrOf z) 0 (pendingOf z).toList a₀.size/\(pendingOf z).size<=1)
   (Q:=fun c z=>c=(none,())/\SG kd a₀ z/\Cov κ (arrOf z) 0 (pendingOf z).toList a₀.size/\(pendingOf z).size<=1) (fun x c z hx1 hx2 h=>?_) (fun c z h=>h) ⟨rfl,gz,cv,hz1⟩) (fun c z h=>?_))
  ·obtain⟨rfl,gz,cv,hz⟩:=h
   refine wpS_bind (wpS_get ?_)
   exact wps_ite (fun c=>wpS_pure ⟨rfl,gz,cv,c⟩) (fun c=>absurd hz c)
  ·obtain⟨rfl,gz,cv,hz⟩:=h
   refine wpS_pure (q z gz fun i j a b=>?_)
   have:∀ l:List (Nat×Nat×Nat),l.length<=1->Cov κ (arrOf z) 0 l a₀.size->Up κ (arrOf z) 0 a₀.size:=by
    intro l hl c
    match l,hl,c with
    | [],_,c=>have:0=a₀.size:=c;omega
    | [(b,n,p)],_,c =>
     obtain⟨_,_,u,e⟩:=c
     have e':0+n=a₀.size:=e
     rw [Nat.zero_add] at e'
     rw [<-e']
     exact u
   exact this _ (by simpa using hz) cv i j (Nat.zero_le _) a (by omega)
end
section
variable {prog:Program}{w:World}{A:Around}{E:Value->Shared->Prop}{s:Shared}
end
end SQ
namespace L2
open PySem PySem.Spec PyProof.Rows SQ
section
variable {X:Cx}
end
end L2
namespace L2
open PySem PySem.Spec PyProof.Rows
end L2
namespace L2
open PySem PySem.Spec PyProof.Rows PySem.Builtin PySem.Builtin.Str
def tx(x:Str):List Nat:=x.cps.toList
def Dl(r:List Nat):Prop:=∀ c t,r=c::t->c=44\/c=41\/c=93
theorem Dl.c{c:Nat}{r:List Nat}(h:c=44\/c=41\/c=93):Dl (c::r):=fun a t e=>by
 rw [<-(List.cons.inj e).1];exact h
end L2
namespace L2
open PySem PySem.Spec PyProof.Rows
section
variable {X:Cx}{e:Expr}{p pos:Pos}
end
section
variable {K:PySem.W.Frag}{H₀ H H':Hp}{σD:DSt}{σ:St}
theorem Nst.upd{b:Addr}{vs:List V}{ys:List D}(p:Pers H (upd H b (.lst vs)))(r:Reps K H ys vs):∀{xss:List (List D)} {as:List Addr} {k:Nat},as.Nodup->Nst K H xss as->as[k]?=some b->Nst K (upd H b (.lst vs)) (xss.set k ys) as
 | [],[],k,_,_,e=>by simp at e
 | xs::xss,c::as,0,nd,h,e=>by
  simp at e
  subst e
  rw [List.nodup_cons] at nd
  exact⟨⟨vs,upd_same,r.mono p⟩,h.2.keep p fun a ha u hu=>by rw [upd_ne (fun z=>nd.1 (by rw [<-z];exact ha))];exact hu⟩
 | xs::xss,c::as,k+1,nd,h,e=>by
  rw [List.nodup_cons] at nd
  have e':as[k]?=some b:=by simpa using e
  obtain⟨⟨ws,e1,r1⟩,t⟩:=h
  exact⟨⟨ws,by rw [upd_ne (fun z=>nd.1 (by rw [z];exact List.mem_of_getElem? e'))];exact e1,r1.mono p⟩,Nst.upd p r nd.2 t e'⟩
end
section
variable {X:Cx}{e e1 e2 e3:Expr}{pos:Pos}{te t3:DTE}{t1 t2:DTF}
theorem Nst.at:∀{K:PySem.W.Frag} {H:Hp} {xss:List (List D)} {as:List Addr} {k:Nat} {xs:List D},Nst K H xss as->xss[k]?=some xs->∃ b vs,as[k]?=some b/\H b=some (.lst vs)/\Reps K H xs vs
 | _,_,_::_,b::_,0,_,h,e=>by
  simp at e
  subst e
  obtain⟨vs,e1,r⟩:=h.1
  exact⟨b,vs,rfl,e1,r⟩
 | _,_,_::_,_::_,k+1,_,h,e=>by
  obtain⟨b,vs,h1,h2⟩:=Nst.at h.2 (k:=k) (by simpa using e)
  exact⟨b,vs,by simpa using h1,h2⟩
 | _,_,[],[],_,_,_,e=>by simp at e
variable {o:Expr}{to:DTE}{apos cpos:Pos}
end
structure Sl(fs:List Addr)(e:Addr)(h h':Heap):Prop where
 keep:∀ b o,h.get? b=some o->b≠e->b∉fs->h'.get? b=some o
 slot:∀ b o,h.get? b=some o->b≠e->∃ sl,h'.get? b=some { o with slots:=sl }
section
variable {M:Model}{A:Around}{E:Value->Shared->Prop}{s:Shared}{base:Heap}{env:Env}{outer:List Env}{L e:Addr}{Q:Unit->Shared->Prop}
end
section
variable {fs fs':List Addr}{H H1:Hp}{h h1 h2:Heap}{a:Addr}{P:Program}{w:World}
theorem Un.sl(u:Un fs [] H H1 h h1)(S:Sl fs' a h1 h2)(hf:∀ b o,b∈fs'->h.get? b=some o->b∈fs)(ha:h.get? a=none):Un fs [] H H1 h h2 where
 keep:=fun b o e n hb hx=>S.keep b o (u.keep b o e n hb hx) (fun z=>by rw [z,ha] at e;cases e) fun z=>hb (hf b o z e)
 slot:=fun b o e n hb hx=>by
  obtain⟨sl,e1⟩:=u.slot b o e n hb hx
  obtain⟨sl',e2⟩:=S.slot b _ e1 fun z=>by rw [z,ha] at e;cases e
  exact⟨sl',e2⟩
 free:=u.free
 there:=fun b o e hx=>by
  obtain⟨o',e1⟩:=u.there b o e hx
  obtain⟨sl,e2⟩:=S.slot b _ e1 fun z=>by rw [z,ha] at e;cases e
  exact⟨_,e2⟩
 tups:=u.tups
 frzs:=u.frzs
 tbls:=u.tbls
theorem HOk.sl(hok:HOk P w H1 h1)(S:Sl fs' a h1 h2)(hf:∀ b∈fs',H1 b=none)(ha:H1 a=none):HOk P w H1 h2:=fun b o e=>by
 have ne:∀ c u,H1 c=some u->c≠a/\c∉fs':=fun c u q=>⟨fun z=>(by rw [z,ha] at q;cases q),fun z=>by rw [hf c z] at q;cases q⟩
 refine(hok b o e).stay (fun c u hc q=>?_) (fun _ q=>q) fun _ _ q=>q
 rcases hc with rfl | hc
 ·exact S.keep c u q (ne c o e).1 (ne c o e).2
 ·exact S.keep c u q (ne c _ hc).1 (ne c _ hc).2
end
theorem ObjOk.ex{P:Program}{w:World}{H:Hp}{h:Heap}{a:Addr}{o:HO}(x:ObjOk P w H h a o):∃ u,h.get? a=some u:=by
 cases o with
 | lst xs=>obtain⟨_,_,_,_,e⟩:=x;exact⟨_,e⟩
 | tup xs=>obtain⟨_,_,_,o,e,_⟩:=x;exact⟨_,e⟩
 | dK kvs=>obtain⟨_,_,_,_,o,_,_,e,_⟩:=x;exact⟨_,e⟩
 | dT kvs=>obtain⟨_,_,_,_,o,_,_,e,_⟩:=x;exact⟨_,e⟩
 | set S n=>obtain⟨o,_,_,_,e,_⟩:=x;exact⟨_,e⟩
 | ins C dx fs=>obtain⟨_,_,_,e,_⟩:=x;exact⟨_,e⟩
 | own y=>exact x
 | xd fs=>obtain⟨_,⟨_,_,_,e,_⟩,_⟩:=x;exact⟨_,e⟩
 | rng lo hi=>obtain⟨_,_,_,e⟩:=x;exact⟨_,e⟩
 | frz ob u=>exact⟨_,x.1⟩
 | tbl ps=>obtain⟨_,_,_,_,e,_⟩:=x;exact⟨_,e⟩
 | met f y=>exact⟨_,x⟩
 | ext φ=>exact x.2.1
structure Room0(k:Nat)(A:Around):Prop where
 dp:A.depth+3 * k+5<recursionLimit
 un:A.units+16 * k+200<cLine
 gd:A.guards=some []
theorem Room0.mono{j k:Nat}{A:Around}(r:Room0 k A)(h:j<=k):Room0 j A:=⟨by have:=r.dp;omega,by have:=r.un;omega,r.gd⟩
section
variable {X:Cx}{pins:List (Addr×Obj)}{σ:St}{H:Hp}{s:Shared}{e:Value}
end
structure FnH(P:Program)(w:World)(K:PySem.W.Frag)(mg:Str->Option Value)(base:Heap)(k:Nat)(f:Addr)(fd:FuncData)(ps:List Str)(sp:Sp):Prop where
 len:∀ vs H Q E,sp vs H Q E->vs.length=ps.length
 run:∀(A:Around) (outer:List Env) (s:Shared) (H:Hp) (args:Args) (us:List Value) (vs:List V) (Q:VK) (E:XK),Room0 k A->Env0 P w K mg base A outer s H->BindsTo s fd args (ps.zip us)->Vals vs us->sp vs H Q E ->
  codeAny (model P w) A (.call (.ref f) args) (CR CX0 outer P w H s Q E) s
section
variable {P:Program}{w:World}{K:PySem.W.Frag}{mg:Str->Option Value}{base:Heap}
end
structure DSX(X:Cx)(st:Stmt)(t:DTS):Prop where
 run:∀(pins:List (Addr×Obj)) (s:Shared) (σ:St) (H:Hp) (σD:DSt) (Dn:DEnds),Inv X pins σ H s->DOk X.K X.H₀ H σD σ->t Dn σD->wpAny (model X.prog X.w) X.A (exec st X.env) (DSP X pins X.H₀ H Dn) X.xe s
structure DSXs(X:Cx)(st:List Stmt)(t:DTS):Prop where
 run:∀(pins:List (Addr×Obj)) (s:Shared) (σ:St) (H:Hp) (σD:DSt) (Dn:DEnds),Inv X pins σ H s->DOk X.K X.H₀ H σD σ->t Dn σD->wpAny (model X.prog X.w) X.A (execs st X.env) (DSP X pins X.H₀ H Dn) X.xe s
section
variable {X:Cx}{st:Stmt}{sts rest:List Stmt}{t u:DTS}{pos:Pos}
end
section
variable {P:Program}{w:World}{K:PySem.W.Frag}{mg:Str->Option Value}{base:Heap}{N:List Str}{qual:Str}{scope:Scope}{f:Addr}{cd:Value}{A:Around}{outer:List Env}{s:Shared}{H:Hp}{E:XK}
end
section
variable {P:Program}{w:World}{K:PySem.W.Frag}{mg:Str->Option Value}{base:Heap}
end
structure XCls(K:PySem.W.Frag)(CK C:Addr):Prop where
 sub:PySem.W.kitCls K (.ref C) (.ref CK)=some true
 bas:PySem.W.subIn K (.ref CK) (.type "BaseException")=some true
section
variable {X:Cx}{pins:List (Addr×Obj)}{σ:St}{H H₀:Hp}{s s':Shared}{E:XK}{e:Value}
end
section
variable {X:Cx}
end
end L2
namespace L2
open PySem PySem.Spec PyProof.Rows PySem.W
section
variable {prog:Program}{w:World}{A:Around}{E:Value->Shared->Prop}{s:Shared}{K:Frag}{x C:Addr}{ox:Obj}{od:Option Obj}
end
structure XIs(K:Frag)(C:Addr):Prop where
 ga:findIn K (.ref C) "__getattribute__" = some (some (.builtin "BaseException.__getattribute__"))
 hk:findIn K (.ref C) "__getattr__" = some none
 bas:mroIn K C (.type "BaseException")=some true
 dct:hasDictIn K C=true
 fnd:findIn K (.ref C) "__class__" = some (some (.builtin "object.__class__"))
 spc:specialIn K (.builtin "object.__class__") "__get__" = some (some (.builtin "getset_descriptor.__get__"))
 tks:takesIn K (.builtin "object.__class__")=some true
 mro:mroIn K C (.type "object")=some true
section
variable {X:Cx}{pins:List (Addr×Obj)}{σ:St}{H:Hp}{s:Shared}
def XDc(H:Hp)(od:Option Addr):Prop:=od=none\/∃ d fs,od=some d/\H d=some (.xd fs)
theorem XDc.of{K:Frag}{x:Str×List (Str×Int)}{od:Option Addr}(h:(x.2 = []/\od=none)\/∃ d,od=some d/\H d=some (.xd (x.2.map fun p=>(p.1,V.int p.2)))):XDc H od:=by
 rcases h with h | ⟨d,e,h⟩
 ·exact .inl h.2
 ·exact .inr ⟨d,_,e,h⟩
variable {e:Expr}{pos p:Pos}
variable {o:Expr}{to te:DTE}{apos cpos:Pos}
end
end L2
namespace L2
open PySem PySem.Spec PyProof.Rows PySem.W
section
variable {K:Frag}{C D:Addr}{t:Value}{b:Bool}
end
theorem dseq_by{t R:DTS}{Dn:DEnds}{σ:DSt}(P:DSt->Prop)(h:∀ N:DSt->Prop,(∀ σ',P σ'->N σ')->t { Dn with nx:=N } σ)(k:∀ σ',P σ'->R Dn σ'):dSeq t R Dn σ:=h _ k
section
variable {X:Cx}
end
end L2
namespace L2
open PySem PySem.Spec PyProof.Rows
section
variable {X:Cx}
end
section
variable {K:PySem.W.Frag}{H₀ H:Hp}{σD:DSt}{σ:St}
def O.with:O->O->O
 | .anc a o,o'=>.anc a (o.with o')
 | _,o'=>o'
theorem RepO.ref{o:O}{v:V}{f:List Addr}(h:RepO K H o v f):∃ a,v=.ref a:=by
 induction o with
 | anc a o ih=>exact⟨a,h.1⟩
 | lst xs=>obtain⟨a,_,e,_⟩:=h;exact⟨a,e⟩
 | dct xs=>obtain⟨a,_,e,_⟩:=h;exact⟨a,e⟩
 | nst xs ds=>obtain⟨a,_,_,e,_⟩:=h;exact⟨a,e⟩
 | ins c fs=>obtain⟨a,_,_,_,e,_⟩:=h;exact⟨a,e⟩
 | mix ms=>obtain⟨a,_,_,e,_⟩:=h;exact⟨a,e⟩
theorem RepO.with{H':Hp}{o o':O}{v:V}{f f':List Addr}(h:RepO K H o v f)(h':RepO K H' o' v f'):RepO K H' (o.with o') v f':=by
 induction o with
 | anc a o ih=>exact⟨h.1,ih h.2⟩
 | _=>exact h'
end
def W.plain:W->Bool
 | .val _=>true
 | .pen=>true
 | _=>false
theorem RepWs.mono{K:PySem.W.Frag}{H H':Hp}(p:Pers H H'):∀{ws:List W} {vs:List V},(∀ w∈ws,w.plain=true)->RepWs K H ws vs->RepWs K H' ws vs
 | [],_,_,.nil=>.nil
 | w::ws,_,h,.cons r t=>by
  refine .cons ?_ (RepWs.mono p (fun x hx=>h x (List.mem_cons_of_mem _ hx)) t)
  have:=h w List.mem_cons_self
  cases w with
  | val d=>exact Rep.mono p r
  | pen=>obtain⟨a,rfl,r⟩:=r;exact⟨a,rfl,p _ _ r rfl⟩
  | _=>cases this
abbrev DSpG:=List W->O->List W->(D->O->Prop)->Prop
structure GEnds where
 nx:DSt->Prop
 rt:D->DSt->Prop
 bk:DSt->Prop:=fun _=>False
 ct:DSt->Prop:=fun _=>False
abbrev GTS:=GEnds->DSt->Prop
def gEnds(K:PySem.W.Frag)(H₀ H:Hp)(Gn:GEnds):Ends where
 nx:=fun σ' H'=>∃ σD',DOk K H₀ H' σD' σ'/\Pers H H'/\Gn.nx σD'
 bk:=fun σ' H'=>∃ σD',DOk K H₀ H' σD' σ'/\Pers H H'/\Gn.bk σD'
 ct:=fun σ' H'=>∃ σD',DOk K H₀ H' σD' σ'/\Pers H H'/\Gn.ct σD'
 rt:=fun v H'=>∃ σ' σD' d,DOk K H₀ H' σD' σ'/\Rep K H' d v/\Gn.rt d σD'
structure DGS(X:Cx)(st:Stmt)(t:GTS):Prop where
 run:∀(pins:List (Addr×Obj)) (s:Shared) (σ:St) (H H₀:Hp) (σD:DSt) (Gn:GEnds),Inv X pins σ H s->DOk X.K H₀ H σD σ->t Gn σD->wpAny (model X.prog X.w) X.A (exec st X.env) (SP X pins (gEnds X.K H₀ H Gn)) X.xe s
structure DGSs(X:Cx)(st:List Stmt)(t:GTS):Prop where
 run:∀(pins:List (Addr×Obj)) (s:Shared) (σ:St) (H H₀:Hp) (σD:DSt) (Gn:GEnds),Inv X pins σ H s->DOk X.K H₀ H σD σ->t Gn σD->wpAny (model X.prog X.w) X.A (execs st X.env) (SP X pins (gEnds X.K H₀ H Gn)) X.xe s
section
variable {X:Cx}{st:Stmt}{sts rest:List Stmt}{t u:GTS}{e:Expr}{te:DTE}{pos:Pos}
theorem DGS.of{t':TS}(h:PS X st t')(k:∀ σ H H₀ σD Gn,DOk X.K H₀ H σD σ->t Gn σD->t' (gEnds X.K H₀ H Gn) σ H):DGS X st t :=
 ⟨fun pins s σ H H₀ σD Gn I ok q=>h pins s σ H _ I (k σ H H₀ σD Gn ok q)⟩
def cnGG(K:PySem.W.Frag)(t:GTS):TS:=fun E σ H=>∃ H₀ σD Gn,DOk K H₀ H σD σ/\t Gn σD/\(∀ σ' H' σD',DOk K H₀ H' σD' σ'->Pers H H'->Gn.nx σD'->E.nx σ' H')/\(∀ v H' σ' σD' d,DOk K H₀ H' σD' σ'->Rep K H' d v->Gn.rt d σD'->E.rt v H') /\
 (∀ σ' H' σD',DOk K H₀ H' σD' σ'->Pers H H'->Gn.bk σD'->E.bk σ' H')/\∀ σ' H' σD',DOk K H₀ H' σD' σ'->Pers H H'->Gn.ct σD'->E.ct σ' H'
theorem DGSs.ps(h:DGSs X sts t):PSs X sts (cnGG X.K t):=fun pins s σ H E I ⟨H₀,σD,Gn,ok,q,k1,k2,k3,k4⟩=>thn (h.run pins s σ H H₀ σD Gn I ok q) fun f s' z=>by
 cases f with
 | next=>obtain⟨a,b,e1,c,e2,e3,e4⟩:=z;exact⟨a,b,e1,k1 a b c e2 e3 e4⟩
 | brk=>obtain⟨a,b,e1,c,e2,e3,e4⟩:=z;exact⟨a,b,e1,k3 a b c e2 e3 e4⟩
 | cont=>obtain⟨a,b,e1,c,e2,e3,e4⟩:=z;exact⟨a,b,e1,k4 a b c e2 e3 e4⟩
 | ret u=>obtain⟨v,a,b,e1,e2,σ',σD',d,e3,e4,e5⟩:=z;exact⟨v,a,b,e1,e2,k2 v b σ' σD' d e3 e4 e5⟩
end
abbrev DTPG:=DSt->(List W->List W->Prop)->Prop
structure DPG(X:Cx)(i:Nat)(es:List Expr)(t:DTPG):Prop where
 run:∀(pos:Pos) (pins:List (Addr×Obj)) (s:Shared) (σ:St) (H H₀:Hp) (σD:DSt) (Q:List W->List W->Prop),Inv X pins σ H s->DOk X.K H₀ H σD σ->t σD Q ->
  wpAny (model X.prog X.w) X.A (spliced (backTo pos (starEach es X.env))) (fun us s'=>∃ vp v vq H' wp wq,Inv X pins σ H' s'/\Vals (vp++v::vq) us/\Same H H'/\σ[i]?=some (some v)/\RepWs X.K H' wp vp/\RepWs X.K H' wq vq/\Q wp wq) X.xe s
section
variable {X:Cx}{e:Expr}{es:List Expr}{k k' i j:Nat}{x:Str}{ps:List Str}{sp:DSpG}{t:DTPG}{p pos:Pos}
end
section
variable {P:Program}{w:World}{K:PySem.W.Frag}{mg:Str->Option Value}{base:Heap}
end
section
variable {X:Cx}{e ie:Expr}{pos:Pos}{te ta:DTE}{t1 t2:DTF}
end
section
variable {X:Cx}{a b:Expr}{rest:List Expr}{pos:Pos}
end
section
variable {K:PySem.W.Frag}{H:Hp}
end
section
variable {X:Cx}{e:Expr}{es:List Expr}{te:DTE}{t:DTP}{pos:Pos}{c f m x:Str}{C g:Addr}{i j k k':Nat}{fd:FuncData}{ps:List Str}{sp:DSpG}
end
section
variable {X:Cx}{e:Expr}{pos:Pos}{i j:Nat}{sp:DSpG}{t:DTPG}{a b:List Stmt}{ta tb:DTS}
end
section
variable {X:Cx}{tg e:Expr}{te:DTE}
end
section
variable {X:Cx}{e:Expr}{te:DTE}{pos p2:Pos}{lo hi:Option Expr}{tl th:DTO}
end
section
variable {X:Cx}
variable {o e:Expr}{to te:DTE}{apos cpos:Pos}{name:Str}{id:String}{gV:Str->Str->V}{gD:Str->Str->D}
end
open PySem.Builtin PySem.Builtin.Str
section
variable {X:Cx}
variable {o e:Expr}{to te:DTE}{apos cpos:Pos}
end
end L2
namespace L2
open PySem PySem.Spec PyProof.Rows
open PySem.Builtin PySem.Builtin.Str
section
variable {X:Cx}
end
end L2
namespace L2
open PySem PySem.Spec PyProof.Rows
section
variable {X:Cx}
end
section
variable {X:Cx}{e:Expr}{te:DTE}{pos tpos px py ps:Pos}{k i j:Nat}{x y:Str}
end
end L2
namespace L2
open PySem PySem.Spec PyProof.Rows PySem.NumText
structure NumT(x:Str):Prop where
 dig:∀ c∈x.cps.toList,48<=c/\c<=57
 ne:x.cps.toList ≠ []
 le:x.length<=10
 hd:x=Str.ofString "0" \/ x.cps.toList.head?≠some 48
end L2
namespace L2
open PySem PySem.Spec PyProof.Rows
section
variable {X:Cx}{e:Expr}{es:List Expr}
end
section
variable {X:Cx}{k v e f:Expr}{tk tv te tf:DTE}{apos cpos dpos:Pos}
end
section
variable {X:Cx}{k e f:Expr}{tk te tf:DTE}{p1 pos pos':Pos}
end
def MxAt(K:PySem.W.Frag)(H:Hp)(bs:List Addr)(u:V):Mx->Prop
 | .v d=>Rep K H d u
 | .l xs=>∃ b vs,u=.ref b/\b∈bs/\H b=some (.lst vs)/\Reps K H xs vs
section
variable {K:PySem.W.Frag}{H H':Hp}
theorem MxAt.more{bs cs:List Addr}{u:V}{m:Mx}(h:MxAt K H bs u m)(k:∀ b∈bs,b∈cs):MxAt K H cs u m:=by
 cases m with
 | v d=>exact h
 | l xs=>obtain⟨b,vs,e1,e2,e3⟩:=h;exact⟨b,vs,e1,k b e2,e3⟩
theorem MxR.at:∀{ms:List Mx} {us:List V} {bs:List Addr} {k:Nat} {m:Mx},MxR K H ms us bs->ms[k]?=some m->∃ u,us[k]?=some u/\MxAt K H bs u m
 | [],_,_,k,m,_,e=>by simp at e
 | .v d::ms,u::us,bs,0,m,h,e=>by cases e;exact⟨u,rfl,h.1⟩
 | .v d::ms,u::us,bs,k+1,m,h,e=>by
  obtain⟨w,e1,r⟩:=MxR.at (k:=k) h.2 (by simpa using e)
  exact⟨w,by simpa using e1,r⟩
 | .l xs::ms,u::us,b::bs,0,m,h,e=>by
  cases e
  obtain⟨e0,⟨vs,e1,r⟩,_⟩:=h
  exact⟨u,rfl,b,vs,e0,List.mem_cons_self,e1,r⟩
 | .l xs::ms,u::us,b::bs,k+1,m,h,e=>by
  obtain⟨w,e1,r⟩:=MxR.at (k:=k) h.2.2 (by simpa using e)
  exact⟨w,by simpa using e1,r.more fun c hc=>List.mem_cons_of_mem _ hc⟩
end
section
variable {X:Cx}{e ie:Expr}{te ti:DTE}{tf:DTF}{pos:Pos}
end
section
variable {X:Cx}{tg iter elt:Expr}{ifs:List Expr}{scope:Scope}{cl:List (Str×Addr)}{N' capt:List Str}{k:Nat}{js is:List Nat}{ti:DTF}{g:DTG}{tt:DTT}{tf:DTF}{pos:Pos}
end
end L2
namespace SV
open PySem
structure Bel(xs:Array Nat)(j b:Nat):Prop where
 le:b<=xs.size
 lo:∀ i,i<b->xs.getD i 0<j
 hi:∀ i,b<=i->i<xs.size->j<=xs.getD i 0
def Not(xs:Array Nat)(j:Nat):Prop:=xs[SetTable.below xs j]?≠some j
end SV
namespace SV
open PySem
end SV
namespace PySem
section
variable {prog:Program}{w:World}{K:Type}[DecidableEq K](knd:KeyKind prog w K)
variable {knd}
variable {A:Around}{E:Value->Shared->Prop}{s:Shared}
end
section
open PyProof.Rows
variable {prog:Program}{w:World}{A:Around}{R:Result->Shared->Prop}{I:Addr}{fp wr:List Addr}{G:Array GenState->Array GenState->Prop}{n:Nat}{P:Nat->Value->Prop}{St:Nat->Shared->Prop}
end
section
variable {prog:Program}{w:World}{A:Around}{E:Value->Shared->Prop}{s:Shared}
end
end PySem
namespace PySem
namespace F
end F
section
variable {prog:Program}{w:World}{A:Around}{E:Value->Shared->Prop}{s:Shared}{a:Addr}{o:Obj}{es:Array (Int×Value)}{ep:Nat}{t:SetTable}
end
end PySem
namespace PySem
section
variable {prog:Program}{w:World}{A:Around}{E:Value->Shared->Prop}{s:Shared}{a:Addr}{o:Obj}{es:Array (Int×Value)}{ep:Nat}{t:SetTable}
def IsSI(h:Heap)(I:Addr)(fs:Array Value):Prop:=∃ u,h.get? I=some u/\u.cls=.type "set_iterator" /\ u.data=.fields fs
end
end PySem
namespace SV
open PySem
def sl(t:SetTable)(i:Nat):Nat:=if i=0 then 0 else t.place.getD (i-1) 0+1
end SV
namespace PySem
section
variable {prog:Program}{w:World}{A:Around}{E:Value->Shared->Prop}{s:Shared}{a:Addr}{o:Obj}{es:Array (Int×Value)}{ep:Nat}{t:SetTable}
theorem IsSI.at{h h':Heap}{I:Addr}{fs:Array Value}(x:IsSI h I fs)(e:∀ o,h.get? I=some o->h'.get? I=some o):IsSI h' I fs:=let ⟨u,hu,r⟩:=x;⟨u,e _ hu,r⟩
end
end PySem
namespace SV
open PySem
section
variable {prog:Program}{w:World}{A:Around}{E:Value->Shared->Prop}{s:Shared}{a:Addr}{o:Obj}{es:Array (Int×Value)}{ep:Nat}{t:SetTable}
end
end SV
namespace SQ
open PySem PyProof.Rows
section
variable {prog:Program}{w:World}{A:Around}{E:Value->Shared->Prop}{s:Shared}{a:Addr}{o:Obj}{es:Array (Int×Value)}{ep:Nat}{t:SetTable}
end
end SQ
namespace L2
open PySem PySem.Spec PyProof.Rows SQ
section
variable {X:Cx}{a:Expr}{p pos p2 pos2:Pos}
end
end L2
namespace SQ
open PySem PyProof.Rows
section
variable {prog:Program}{w:World}{A:Around}{E:Value->Shared->Prop}{s:Shared}{a:Addr}{o:Obj}{es:Array (Int×Value)}{ep:Nat}{t:SetTable}
end
end SQ
namespace L2
open PySem PySem.Spec PyProof.Rows SQ
section
variable {X:Cx}{a:Expr}{p pos p2 pos2:Pos}
end
end L2
namespace L2
open PySem PySem.Spec PyProof.Rows
theorem among_snoc{pos:Pos}{a b:Int}{c cv:Value}(l:List Value)(h:TriplesOk l)(e:codeAmong pos (l ++ [rawInt a,rawInt b,c])=some cv):codeAmong pos l=some cv\/cv=c:=by
 fun_induction TriplesOk l with
 | case1 =>
  simp only [List.nil_append,codeAmong,rawInt] at e
  split at e
  ·exact .inr (Option.some.inj e).symm
  ·cases e
 | case2 a' t b' u x rest ih =>
  simp only [List.cons_append,codeAmong] at e ⊢
  split at e
  ·rename_i z;rw [if_pos z];exact .inl e
  ·rename_i z;rw [if_neg z];exact ih h e
 | case3 l h1 h2=>exact h.elim
theorem lab_one{x y:Value}{more:Array Value}(h : #[x]++more = #[y]):x=y:=by
 have:=congrArg Array.toList h
 simp at this
 exact this.1
def BltAt(mg:Str->Option Value)(base:Heap):Prop:=∃ bm o,mg "__builtins__" = some (.ref bm)/\bm≠builtinsNs/\base.get? bm=some o/\o.cls=.type "module" /\ o.dict=some builtinsNs/\o.data=.plain
def TabAt(q:Str)(P:Addr)(H:Hp):Prop:=∃ t more,H P=some (.tbl (#[.str q t]++more))
section
variable {X:Cx}{pins:List (Addr×Obj)}{σ:St}{H:Hp}{s:Shared}{P c:Addr}{q:Str}
theorem Inv.tabAt(I:Inv X pins σ H s)(h:TabAt q P X.H₀):TabAt q P H:=by
 obtain⟨t,m,e⟩:=h
 obtain⟨m2,e2⟩:=I.base.tbls _ _ e
 exact⟨t,m++m2,by rw [e2,Array.append_assoc]⟩
theorem Inv.tabOk(I:Inv X pins σ H s)(h:TabAt q P H):∃ ps:Array Value,s.heap.get? P=some { cls:=.none,data:=.fields ps }/\TriplesOk ps.toList /\
  ∀ pos cv,codeAmong pos ps.toList=some cv->∃ c' oc u,cv=.ref c'/\H c'=some (.frz oc u)/\CodeO oc q:=by
 obtain⟨t,m,e⟩:=h
 obtain⟨ps,q',t',lab,r1,r2,r3⟩:=(show TabOk H s.heap P _ from I.hok P _ e)
 have:=lab_one lab
 cases this
 exact⟨ps,r1,r2,r3⟩
theorem Inv.bltAt(I:Inv X pins σ H s)(hB:BltAt X.mg X.base)(hP:H P≠none):s.heap.BuiltinsAt X.mg P:=by
 obtain⟨bm,o,h1,h2,h3,h4,h5,h6⟩:=hB
 refine⟨bm,o,h1,h2,fun z=>?_,fun z=>?_,(I.bs _ _ h3).1,h4,h5,h6⟩
 ·obtain⟨o',es,ep,e,d,_⟩:=I.mod.glob
  rw [<-z,h3] at e
  cases e
  rw [h6] at d
  cases d
 ·exact hP (z ▸ (I.bs _ _ h3).2)
theorem Inv.globNe(I:Inv X pins σ H s)(hP:H P≠none):mainGlobals≠P:=fun z=>by
 obtain⟨o',es,ep,e,d,_⟩:=I.mod.glob
 exact hP (z ▸ (I.bs _ _ e).2)
theorem lam_make{params:Arguments}{body:Expr}{scope:Scope}{pos:Pos}{fl:Nat}{E:Value->Shared->Prop}{Q:Value->Shared->Prop}(I:Inv X pins σ H s)(hT:TabAt q P H)(C:PySem.W.CodeHd X.base c P)(hcode:X.env.code=.ref c)(hB:BltAt X.mg X.base)
  (hcl:closureFor scope X.env=pure [])
  (h:∀(f c':Addr) (oc:Obj) (u:HO) (ctv:Value) (H':Hp) (s':Shared),Inv X pins σ H' s'->Same H H'->H' c'=some (.frz oc u)->CodeO oc q->s.heap.objs.size<=f->s'.heap.objs.size<=f+1->H' f=none ->
   s'.heap.get? f=some (PySem.W.kla_obj "<lambda>" q params body scope [] ((X.mg "__name__").getD .none) c' ctv)->Q (.ref f) s') :
  wpAny (model X.prog X.w) X.A (makeFunction "<lambda>" q params (.expr body) scope X.env [] [] [] pos fl) Q E s:=by
 obtain⟨ps,gP,tr,ent⟩:=I.tabOk hT
 have hPn:H P≠none:=by obtain⟨t,m,e⟩:=hT;rw [e];simp
 cases hc:codeAmong pos ps.toList with
 | none =>
  refine PySem.W.kla_makeFunction (mg:=X.mg) hcl I.ok.glob (I.mod.glob.keeps I.bk) hcode (C.keeps I.bk) gP tr hc (I.globNe hPn) (I.bltAt hB hPn) fun c' ctv h' tk hx hge hlt hrec htb=>?_
  obtain⟨c2,oc,vs,tq,e2,hoc,hd,hv⟩:=hrec
  cases e2
  have fr:H c'=none:=I.hok.fresh hge
  have pu:∀ b o,h'.get? b=some o->(h'.push (PySem.W.kla_obj "<lambda>" q params body scope [] ((X.mg "__name__").getD .none) c' ctv)).get? b=some o:=fun b o e=>Heap.get?_push_of_some _ e
  have nP:∀ b,H b=none->b≠P:=fun b n z=>hPn (z ▸ n)
  have neC:∀ b o,s.heap.get? b=some o->b≠c':=fun b o e=>Nat.ne_of_lt (Nat.lt_of_lt_of_le (Heap.lt_size e) hge)
  have sH:Same H (upd H c' (.frz oc (.own 0))):=fun b o e=>by rw [upd_ne (ne_of_none e fr)];exact e
  have un:Un X.fs [] H (upd H c' (.frz oc (.own 0))) s.heap (h'.push (PySem.W.kla_obj "<lambda>" q params body scope [] ((X.mg "__name__").getD .none) c' ctv)):=by
   refine⟨fun b o e n _ _=>pu _ _ (hx b o (nP b n) e),fun b o e n _ _=>⟨o.slots,pu _ _ (hx b o (nP b n) e)⟩,fun b o e n _=>by rw [upd_ne (neC b o e)];exact n,fun b o e _=>?_,fun b xs e=>sH b _ e,fun b o u e=>sH b _ e,fun b ls e=>⟨#[],by rw [sH b _ e];simp⟩⟩
   by_cases z:b=P
   ·rw [z];exact⟨_,pu _ _ htb⟩
   ·exact⟨o,pu _ _ (hx b o z e)⟩
  have hk:HOk X.prog X.w (upd H c' (.frz oc (.own 0))) (h'.push (PySem.W.kla_obj "<lambda>" q params body scope [] ((X.mg "__name__").getD .none) c' ctv)):=fun b u e=>by
   by_cases z:b=c'
   ·subst z
    rw [upd_same] at e
    cases e
    exact⟨pu _ _ hoc,_,pu _ _ hoc⟩
   ·rw [upd_ne z] at e
    by_cases zP:b=P
    ·subst zP
     obtain⟨t,m,e'⟩:=hT
     rw [e'] at e
     cases e
     obtain⟨ps',q',t',lab,r1,_,_⟩:=(show TabOk H s.heap b _ from I.hok b _ e')
     have q1:=lab_one lab
     cases q1
     refine⟨_,q,_,lab,pu _ _ htb,by rw [Array.toList_append];exact TriplesOk_snoc _ _ _ _ tr,fun pos' cv y=>?_⟩
     rw [Array.toList_append] at y
     rcases among_snoc _ tr y with y | rfl
     ·obtain⟨c3,o3,u3,r1,r2,r3⟩:=ent _ _ y
      exact⟨c3,o3,u3,r1,sH _ _ r2,r3⟩
     ·exact⟨c',oc,_,rfl,upd_same,vs,tq,hd,hv⟩
    ·refine(I.hok b u e).stay (fun d v hd' g=>pu _ _ (hx d v ?_ g)) (fun d g=>sH _ _ g) (fun d xs g=>sH _ _ g) fun d o u g=>sH _ _ g
     rcases hd' with rfl | hd'
     ·exact zP
     ·rintro rfl
      obtain⟨t,m,e'⟩:=hT
      rw [e'] at hd'
      cases hd'
  refine h _ c' oc (.own 0) ctv _ _ (I.un (t':=tk) un hk) sH upd_same ⟨vs,tq,hd,hv⟩ (Nat.le_trans hge (Nat.le_of_lt hlt)) (Nat.le_of_eq (Heap.size_push ..)) ?_ (Heap.get?_push_size _ rfl)
  rw [upd_ne (Nat.ne_of_gt hlt)]
  exact I.hok.fresh (Nat.le_trans hge (Nat.le_of_lt hlt))
 | some cv =>
  obtain⟨c',oc,u,rfl,e,co⟩:=ent _ _ hc
  refine PySem.W.kla_makeFunctionHit (mg:=X.mg) hcl I.ok.glob (I.mod.glob.keeps I.bk) hcode (C.keeps I.bk) gP tr hc (I.bltAt hB hPn) fun ctv h' tk hk hsz=>?_
  exact h _ c' oc u ctv H _ (I.kept (t':=tk) fun b o g=>Heap.get?_push_of_some _ (hk b o g)) (Same.refl _) e co hsz (Nat.le_of_eq (Heap.size_push ..)) (I.hok.fresh hsz) (Heap.get?_push_size _ rfl)
end
theorem lam_run{P:Program}{w:World}{K:PySem.W.Frag}{mg:Str->Option Value}{base:Heap}{k:Nat}{f c':Addr}{q:Str}{params:Arguments}{body:Expr}{scope:Scope}{pm ctv:Value}{N ps:List Str}{A:Around}{outer:List Env}{s:Shared}{H:Hp}
  {us:List Value} {vs:List V} {Q:VK} {E:XK} {t:TE} (hr:Room (k+1) A) (e0:Env0 P w K mg base A outer s H) (lk:s.heap.get? f=some (PySem.W.kla_obj "<lambda>" q params body scope [] pm c' ctv)) (hcd:s.heap.CodeRec (.ref c') q) (S:FnScope N ps scope)
  (hb:bindArgs (PySem.W.kla_fn "<lambda>" q params body scope [] pm (.ref c') ctv) ⟨us,[]⟩=pure (ps.zip us)) (hl:vs.length=ps.length) (r:Vals vs us)
  (ht:PE (cxOf CX0 P w K mg base N q scope f (.ref c') A outer s H E).nox body t) (hq:t (start N vs) H Q):codeAny (model P w) A (.call (.ref f) ⟨us,[]⟩) (CR CX0 outer P w H s Q E) s:=by
 have lim:s.heap.NoLimit:=e0.mod.nolimit.keeps fun b o e=>(e0.bs b o e).1
 have knd:∀ y∈ps.zip us,scope.names.lookup y.1=some .local\/(scope.names.lookup y.1=some .cell/\((cellsFrom (s.heap.objs.size+1) scope.names []).lookup y.1).isSome=true):=fun⟨n,v⟩ hy=>by
  rcases S.par n (List.of_mem_zip hy).1 with z | z
  ·exact .inl z
  ·exact .inr ⟨z,PySem.W.cellsFrom_some _ _ _ (.inl z)⟩
 refine PySem.W.kla_callFunE hr.depth lk rfl S.co S.gen rfl hcd (wpAny_of_eq hb ?_)
 refine wpAny_newFunctionEnv_cells S.kind knd fun env he s1 x=>?_
 subst he
 refine⟨lim.keeps x.toInCall.keep,PySem.W.kla_codeExpr ?_⟩
 have I:Inv (cxOf CX0 P w K mg base N q scope f (.ref c') A outer s H E) [] (start N vs) H s1:=inv_start S hr.hd e0 hl r x
 exact wpAny_mono (ht.nox [] s1 (start N vs) H _ I hq) (fun u s' ⟨v,H',J,rv,qv⟩=>⟨v,H',J.os,J.bare,J.base,J.hok,rv,qv⟩) fun e s' hs=>hs
section
variable {X:Cx}{pins:List (Addr×Obj)}{σ:St}{H:Hp}{a it S f:Addr}{xs:List V}{kf:Nat->Int}{kwd:List (Str×Value)}{R:Value->Shared->Prop}
structure MkHd(X:Cx)(pins:List (Addr×Obj))(σ:St)(H:Hp)(a it S:Addr)(xs:List V)(kf:Nat->Int)(j i:Nat)(H1:Hp)(s:Shared):Prop where
 I:Inv X pins σ H1 s
 sm:Same H H1
 st:s.heap.IsTupleIter it a j
 f1:FpOk X pins H1 it
 f2:FpOk X pins H1 S
 ne:it≠S
 best:∃ vb tb c x,s.heap.get? S=some (seqObj "list" #[vb,.int (kf i) tb] c)/\xs[i]?=some x/\RelV x vb
 lt:i<j
 mx:∀ j',j' < j->kf j'<=kf i/\(j' < i->kf j' < kf i)
theorem FpOk.at{b:Addr}{H1 H2:Hp}(h:FpOk X pins H1 b)(n:H2 b=none):FpOk X pins H2 b:=⟨n,h.2⟩
theorem FpOk.inv{b:Addr}{H1:Hp}{s:Shared}{h':Heap}{t':Nat}(h:FpOk X pins H1 b)(I:Inv X pins σ H1 s)(k:∀ c o,c≠b->s.heap.get? c=some o->h'.get? c=some o):Inv X pins σ H1 { s with heap:=h',toks:=t' } :=
 I.turned k h.1 h.2.1 h.2.2.2.1 h.2.2.2.2.1 h.2.2.2.2.2
theorem pin2{H1:Hp}{s:Shared}{oi os:Obj}(I:Inv X pins σ H1 s)(h1:FpOk X pins H1 it)(h2:FpOk X pins H1 S)(g1:s.heap.get? it=some oi)(g2:s.heap.get? S=some os)(n1:∀ v,oi.data ≠ .cell v)(n2:∀ v,os.data ≠ .cell v):
  Inv X (pins ++ [(it,oi),(S,os)]) σ H1 s:=I.pins_of fun p hp=>by
 rcases List.mem_append.mp hp with hp | hp
 ·exact I.pin p (List.mem_append_right _ hp)
 ·rcases List.mem_cons.mp hp with rfl | hp
  ·exact⟨g1,h1.1,h1.2.1,h1.2.2.1,n1⟩
  ·rw [List.mem_singleton.mp hp]
   exact⟨g2,h2.1,h2.2.1,h2.2.2.1,n2⟩
end
section
variable {X:Cx}{pins:List (Addr×Obj)}{σ:St}{H:Hp}{a f:Addr}{xs:List V}{kf:Nat->Int}{R:Value->Shared->Prop}{s:Shared}
end
section
variable {X:Cx}{a body:Expr}{ta:DTF}{tb:DTE}{p pos kp kp2 lp cp:Pos}{k:Nat}{P c:Addr}{q y:Str}{params:Arguments}{scope:Scope}{N:List Str}
end
def tabSp(q:Str)(T:Addr)(sp:Sp):Sp:=fun vs H Q E=>TabAt q T H/\sp vs H Q E
section
variable {X:Cx}{e:Expr}{es:List Expr}{k k':Nat}{x q:Str}{T:Addr}{ps:List Str}{sp:DSp}{t:DTP}{p pos:Pos}
theorem pe_callT{sp:Sp}{t:TA}(C:Callee X.prog X.w X.K X.mg X.base k x ps (tabSp q T sp))(hT:TabAt q T X.H₀)(hr:Room k' X.A)(hg:Gl X x)(ha:PA X (e::es) t)(hk:k<=k')
  (hdb:(x == ("__debug__" : Str))=false) (he:starEach (e::es) X.env=(false,eval e X.env)::starEach es X.env) (hpl:(backTo pos (starEach es X.env)).any (·.1)=false):PE X (.Call (.Name x p) (e::es) [] pos) (tCall sp [] E0 t):=fun pins s σ H Q I h=>by
 obtain⟨f,fd,F,b,kp,m⟩:=C
 refine wpAny_Call_Name_kw (ld_glob I hg m ?_ hdb)
 refine PySem.W.callWith_K (h₀:=X.base) I.ok.mod.kin kp (thn (ha pos pins s σ H _ I h) fun us s1 ⟨vs,H1,I1,r,z⟩=>⟨I1.kIn,?_⟩) he hpl
 exact run_fn F (hr.mono hk) b .nil pass0 I1 r ⟨I1.tabAt hT,z⟩
theorem call_outT{pins:List (Addr×Obj)}{σ:St}{H H₀:Hp}{σD:DSt}{s:Shared}{Q:Ret->Prop}(C:Callee X.prog X.w X.K X.mg X.base k x ps (tabSp q T (cnSp X.K sp)))(hT:TabAt q T X.H₀)(hr:Room k' X.A)(hg:Gl X x)(ha:DPs X (e::es) t)(hk:k<=k')
  (hdb:(x == ("__debug__" : Str))=false) (he:starEach (e::es) X.env=(false,eval e X.env)::starEach es X.env) (hpl:(backTo pos (starEach es X.env)).any (·.1)=false) (I:Inv X pins σ H s) (ok:DOk X.K H₀ H σD σ) (z:t σD fun ws=>sp ws Q) :
  wpAny (model X.prog X.w) X.A (eval (.Call (.Name x p) (e::es) [] pos) X.env) (fun u s'=>∃ v H' r,Inv X pins σ H' s'/\RelV v u/\Same H H'/\RepR X.K H H' r v/\Q r) X.xe s:=by
 refine thn (pe_callT C hT hr hg ha.pa hk hdb he hpl pins s σ H (fun v H'=>∃ r,Same H H'/\RepR X.K H H' r v/\Q r) I ?_) fun u s' ⟨v,H',I',r,z,sm,rp,qd⟩=>⟨v,H',z,I',r,sm,rp,qd⟩
 refine⟨H₀,σD,_,ok,z,fun vs H1 ws s1 r1 q1=>⟨ws,Q,by rw [List.append_nil];exact r1,q1,fun v H' r s2 rp qd=>⟨r,s1.trans s2,?_,qd⟩⟩⟩
 cases r with
 | val d=>exact rp
 | new xs=>obtain⟨a,vs,e1,n,e2,r⟩:=rp;exact⟨a,vs,e1,s1.free n,e2,r⟩
theorem de_callT(C:Callee X.prog X.w X.K X.mg X.base k x ps (tabSp q T (cnSp X.K sp)))(hT:TabAt q T X.H₀)(hr:Room k' X.A)(hg:Gl X x)(ha:DPs X (e::es) t)(hk:k<=k':=by decide)(hdb:(x == ("__debug__" : Str))=false:=by decide)
  (he:starEach (e::es) X.env=(false,eval e X.env)::starEach es X.env:=by rfl) (hpl:(backTo pos (starEach es X.env)).any (·.1)=false:=by rfl):DE X (.Call (.Name x p) (e::es) [] pos) (dCall sp t) :=
 ⟨fun pins s σ H H₀ σD Q I ok z=>thn (call_outT C hT hr hg ha hk hdb he hpl I ok z) fun u s' ⟨v,H',r,I',rv,sm,rp,qd⟩=>by
  cases r with
  | val d=>exact⟨v,H',d,I',rv,sm,rp,qd⟩
  | new xs =>
   obtain⟨a,vs,rfl,n,e,r⟩:=rp
   obtain⟨H'',J,sm',r'⟩:=freeze I' sm n e r
   exact⟨.ref a,H'',.list xs,J,rv,sm',r',qd⟩⟩
end
section
variable {P:Program}{w:World}{K:PySem.W.Frag}{mg:Str->Option Value}{base:Heap}
theorem Fun.dokT{x qual q:Str}{T:Addr}{st:Stmt}{f:Addr}{fd:FuncData}{N ps:List Str}{k:Nat}{sp:DSp}(F:Fun K x qual st f fd)(S:FnScope N ps (defScope st))(len:∀ ws Q,sp ws Q->ws.length=ps.length)
  (hbody:∀(A:Around) (outer:List Env) (s:Shared) (H:Hp) (ws:List W) (Q:Ret->Prop) (E:XK),Room k (A.deeper (envOfC qual (defScope st) s.heap.objs.size f fd.code))->TabAt q T H->sp ws Q ->
   ∃ t,DSs (cxOf CX0 P w K mg base N qual (defScope st) f fd.code A outer s H E).nox (defBody st) t/\t { nx:=fun _=>Q (.val .none),rt:=Q } (startF N ws)):FnOk P w K mg base CX0 (k+1) f fd ps (tabSp q T (cnSp K sp)):=by
 obtain⟨oc,od,kV,doc,pm,an,cdv,ct,osl,rfl,lk,hcd⟩:=F.ex
 refine fn_of lk hcd S (fun vs H Q E h=>?_) fun A outer s H vs Q E hr h=>?_
 ·obtain⟨_,ws,QD,r,z,_⟩:=h
  rw [<-r.length]
  exact len ws QD z
 ·obtain⟨hT,ws,QD,r,z,kk⟩:=h
  obtain⟨t,ht,hq⟩:=hbody A outer s H ws QD E hr hT z
  exact⟨_,ht.ps.nox,H,_,_,DOk.begin r N,hq,fun σ' H' σD' ok' p' q'=>kk .non H' (.val .none) ok'.same .non q',fun v H' r' sm rp qr=>kk v H' r' sm rp qr,fun _ _ _ _ _ z=>z.elim,fun _ _ _ _ _ z=>z.elim⟩
end
def noTab(T:Addr)(K:PySem.W.Frag):PySem.W.Frag:=K.filter fun p=>p.1 != T
theorem drop_look{T a:Addr}(h:a≠T):∀ K:PySem.W.Frag,(noTab T K).lookup a=K.lookup a
 | []=>rfl
 | (b,o)::K=>by
  have ih:=drop_look h K
  unfold noTab at ih ⊢
  by_cases z:b=T
  ·subst z
   rw [List.filter_cons_of_neg (by simp),ih,List.lookup_cons,show(a == b)=false by simpa using h]
  ·rw [List.filter_cons_of_pos (by simpa using z),List.lookup_cons,List.lookup_cons,ih]
theorem drop_none{T:Addr}:∀ K:PySem.W.Frag,(noTab T K).lookup T=none
 | []=>rfl
 | (b,o)::K=>by
  have ih:=drop_none (T:=T) K
  unfold noTab at ih ⊢
  by_cases z:b=T
  ·rw [List.filter_cons_of_neg (by simp [z]),ih]
  ·rw [List.filter_cons_of_pos (by simpa using z),List.lookup_cons,show(T == b)=false by simpa using Ne.symm z,ih]
section
variable {T a:Addr}{K:PySem.W.Frag}{h:Heap}
abbrev tab0:Obj:={ cls:=.none,data:=.fields #[] }
theorem drop_in(X:K.In h):(noTab T K).In h:=fun b o e=>by
 by_cases z:b=T
 ·subst z;rw [drop_none] at e;cases e
 ·rw [drop_look z] at e;exact X b o e
theorem drop_at(X:K.In h)(gT:h.get? T=some tab0){o:Obj}(l:K.lookup a=some o)(n:o≠tab0):(noTab T K).lookup a=some o:=by
 rw [drop_look fun z=>n ?_]
 ·exact l
 ·have e:=X _ _ l
  rw [z,gT] at e;exact(Option.some.inj e).symm
theorem drop_ns{ns:Addr}(hg:ns≠T){x:Str}:PySem.W.nsIn (noTab T K) ns x=PySem.W.nsIn K ns x:=by
 unfold PySem.W.nsIn;rw [drop_look hg]
theorem drop_code(X:K.In h)(gT:h.get? T=some tab0){cd:Value}{q:Str}(e:PySem.W.codeIn K cd q=true):PySem.W.codeIn (noTab T K) cd q=true:=by
 obtain⟨c,o,vs,t,rfl,g,d,r⟩:=PySem.W.codeRec_of X e
 have z:c≠T:=fun z=>by
  subst z
  rw [gT] at g
  cases g
  cases d
  cases r
 unfold PySem.W.codeIn at e ⊢
 dsimp only at e ⊢
 rw [drop_look z]
 exact e
theorem drop_keep(X:K.In h)(gT:h.get? T=some tab0){oc:Value}{od:Option Addr}{fd:FuncData}{sl:Array (Option Value)}(l:K.lookup a=some ⟨oc,od,.func fd,sl⟩):PySem.W.keepIn (noTab T K) (.ref a)=true:=by
 unfold PySem.W.keepIn
 dsimp only
 rw [drop_at X gT l (fun z=>by cases z)]
theorem glob_tab{mg:Str->Option Value}(G:h.Ns mainGlobals mg)(gT:h.get? T=some tab0):mainGlobals≠T:=fun z=>by
 obtain⟨o',es,ep,e,d,_⟩:=G
 rw [z,gT] at e
 cases e
 cases d
def HdO(oc:Obj)(T:Addr):Prop:=∃ vs file tf flags tg inF text tt,oc.cls=.type "code" /\ oc.data=.fields vs/\vs[11]?=some (.ref T)/\vs.getD 11 .none=.ref T/\vs.getD 18 .none=.str file tf /\
  vs.getD 7 .none=.int flags tg/\vs.getD 9 .none=.bool inF/\vs.getD 10 .none=.int text tt
theorem HdO.hd{oc:Obj}{c:Addr}(x:HdO oc T)(e:h.get? c=some oc)(n:c≠T):PySem.W.CodeHd h c T :=
 let ⟨vs,file,tf,flags,tg,inF,text,tt,r1,r2,r3,r4,r5,r6,r7,r8⟩:=x;⟨oc,vs,file,tf,flags,tg,inF,text,tt,e,r1,r2,r3,r4,r5,r6,r7,r8,n⟩
end
theorem law_callT{P:Program}{w:World}{K:PySem.W.Frag}{mg mb:Str->Option Value}{k:Nat}{fa a T c:Addr}{oc:Obj}{fd:FuncData}{x q:Str}{sp:Sp}{s₁:Shared}{vs:List Value}{ns:List Int}
  (KX:K.In s₁.heap) (hTK:K.lookup T=none) (gT:s₁.heap.get? T=some tab0) (gc:s₁.heap.get? c=some oc) (hO:HdO oc T) (hcT:c≠T) (hB:BltAt mg s₁.heap) (hns:s₁.heap.Ns mainGlobals mg) (hb:s₁.heap.Ns builtinsNs mb) (hbb:∀ x:Str,x ≠ "__name__" -> mb x=bootBuiltins x) (hlim:s₁.heap.NoLimit) (hg:s₁.gens = #[])
  (ha:s₁.heap.get? a=some { cls:=.type "list",data:=.seq vs.toArray }) (hi:IntsAre vs ns) (hl:ns.length<=sizeLine) (hr:Room k callerA)
  (F:∀ base:Heap,K.In base->base.Ns mainGlobals mg->BltAt mg base->PySem.W.CodeHd base c T->FnOk P w K mg base CX0 k fa fd [x] (tabSp q T sp)) (hbind:∀(s:Shared) (u:Value),BindsTo s fd ⟨[u],[]⟩ [(x,u)])
  (hsp:∀ H:Hp,SqL K H a (ns.map V.int)->sp [.ref a] H (fun v _=>v=.bl true) fun _ _ _=>False) :
  codeAny (model P w) callerA (.call (.ref fa) ⟨[.ref a],[]⟩) (fun r s'=>r=.ok (.ret (.bool true))/\OldK s₁.heap s'.heap/\s'.os=s₁.os/\AllBare s'.gens) s₁:=by
 have rv:=vals_ints hi
 have lenV:=hi.length
 have core:∀ H:Hp,H T=some (.tbl #[.str q 0])->SqL K H a (ns.map V.int)->HOk P w H s₁.heap->(∀ b,H b=none\/b=T\/(b=a/\K.lookup a=none/\∃ o xs,H a=some (.frz o (.lst xs)))) ->
   codeAny (model P w) callerA (.call (.ref fa) ⟨[.ref a],[]⟩) (fun r s'=>r=.ok (.ret (.bool true))/\OldK s₁.heap s'.heap/\s'.os=s₁.os/\AllBare s'.gens) s₁:=by
  intro H hT hS hok hA
  have up:∀{b:Addr} {o:Obj},s₁.heap.get? b=some o->H b=none->(hidT s₁.heap H).get? b=some o:=fun e n=>hidT_get e n
  have free:∀{b:Addr} {o:Obj},s₁.heap.get? b=some o->b≠T->(∀ its n,o.data ≠ .seq its n)->H b=none:=fun{b o} e n d=>by
   rcases hA b with z | z | ⟨z,_⟩
   ·exact z
   ·exact absurd z n
   ·subst z;rw [ha] at e;cases e;exact absurd rfl (d _ _)
  have nT:∀{b:Addr} {o:Obj},s₁.heap.get? b=some o->o.data ≠ .fields #[]->b≠T:=fun{b o} e d z=>by subst z;rw [gT] at e;cases e;exact d rfl
  have nsK:∀{b:Addr} {m:Str->Option Value},s₁.heap.Ns b m->(hidT s₁.heap H).Ns b m:=fun{b m} ⟨o,es,ep,e,d,r⟩=>⟨o,es,ep,up e (free e (nT e (by rw [d];intro z;cases z)) (by rw [d];intro _ _ z;cases z)),d,r⟩
  have hKb:K.In (hidT s₁.heap H):=fun b o e=>up (KX b o e) (by
   rcases hA b with z | z | ⟨z,z2,_⟩
   ·exact z
   ·rw [z,hTK] at e;cases e
   ·rw [z,z2] at e;cases e)
  have hBb:BltAt mg (hidT s₁.heap H):=let ⟨bm,o,h1,h2,h3,h4,h5,h6⟩:=hB;⟨bm,o,h1,h2,up h3 (free h3 (nT h3 (by rw [h6];intro z;cases z)) (by rw [h6];intro _ _ z;cases z)),h4,h5,h6⟩
  have hCb:PySem.W.CodeHd (hidT s₁.heap H) c T:=hO.hd (up gc (free gc hcT (by obtain⟨vs,_,_,_,_,_,_,_,_,r2,_⟩:=hO;rw [r2];intro _ _ z;cases z))) hcT
  have hM:Mod K mg (hidT s₁.heap H):=⟨hKb,nsK hns,⟨mb,nsK hb,hbb⟩,let ⟨mc,h1,h2⟩:=hlim;⟨mc,nsK h1,h2⟩⟩
  have e0:Env0 P w K mg (hidT s₁.heap H) callerA [] s₁ H:=⟨rfl,hM,fun b o e=>of_hidT e,Nat.le_of_eq (hidT_size _ _),trivial,fun b hb=>absurd (show b∈([]:List Addr) from hb) (by simp),hok,.of_eq hg⟩
  refine codeAny_mono ((F _ hKb (nsK hns) hBb hCb).run callerA [] s₁ H ⟨[.ref a],[]⟩ [.ref a] [.ref a] _ _ hr e0 (hbind s₁ (.ref a)) (.cons rfl .nil) ⟨⟨0,#[],hT⟩,hsp H hS⟩) fun r s' h=>?_
  cases r with
  | error e=>exact False.elim h
  | ok fl =>
   cases fl with
   | next=>exact False.elim h
   | brk=>exact False.elim h
   | cont=>exact False.elim h
   | ret u =>
    obtain⟨v,H',os,bare,un,hok',r',z⟩:=h
    have z':v=.bl true:=z
    subst z'
    obtain rfl:u=Value.bool true:=r'
    have tab:∃ ps:Array Value,s'.heap.get? T=some { cls:=.none,data:=.fields ps }:=by
     obtain⟨m,e⟩:=un.tbls T _ hT
     obtain⟨ps,_,_,_,g,_⟩:=(show TabOk H' s'.heap T _ from hok' T _ e)
     exact⟨ps,g⟩
    have all:∀ b o,s₁.heap.get? b=some o->s'.heap.get? b=some o\/b=T:=fun b o e=>by
     rcases hA b with z | z | ⟨z,_,ob,xs,z2⟩
     ·exact .inl (un.keep b o e z (by intro y;exact absurd (show b∈([]:List Addr) from y) (by simp)) (by simp))
     ·exact .inr z
     ·subst z
      obtain⟨e1,_⟩:=(show ObjOk P w H s₁.heap b _ from hok b _ z2)
      obtain⟨e2,_⟩:=(show ObjOk P w H' s'.heap b _ from hok' b _ (un.frzs b ob _ z2))
      rw [e] at e1;cases e1
      exact .inl e2
    obtain⟨ps,gp⟩:=tab
    refine⟨rfl,⟨fun b o e=>?_,fun b o e=>?_⟩,os,bare⟩
    ·rcases all b o e with z | z
     ·exact .inl z
     ·subst z
      rw [gT] at e
      cases e
      exact .inr (.inl ⟨((hO.hd gc hcT).tab gT).isCodeTable,rfl,#[],ps,rfl,by rw [gp];simp⟩)
    ·rcases all b o e with z | z
     ·exact⟨o,z⟩
     ·subst z;exact⟨_,gp⟩
 have nTa:a≠T:=fun z=>by rw [z,gT] at ha;cases ha
 have tk:∀ H:Hp,TabOk H s₁.heap T #[.str q 0]:=fun H=>⟨#[],q,0,rfl,gT,trivial,fun pos cv y=>by cases y⟩
 cases hk:K.lookup a with
 | some o =>
  have e:=KX a o hk
  rw [ha] at e
  cases e
  refine core (fun b=>if b=T then some (.tbl #[.str q 0]) else none) (if_pos rfl) (.inr ⟨_,vs.toArray,_,hk,rfl,rfl,rfl,by rw [List.size_toArray,lenV];exact hl,by simpa using rv⟩) (fun b u z=>?_) fun b=>?_
  ·by_cases hb:b=T
   ·have z':=(if_pos hb).symm.trans z
    cases z'
    subst hb
    exact tk _
   ·have z':=(if_neg hb).symm.trans z
    cases z'
  ·by_cases hb:b=T
   ·exact .inr (.inl hb)
   ·exact .inl (if_neg hb)
 | none =>
  have eT:(fun b=>if b=T then some (HO.tbl #[.str q 0]) else if b=a then some (.frz { cls:=.type "list",data:=.seq vs.toArray } (.lst (ns.map V.int))) else none) T=some (.tbl #[.str q 0]):=if_pos rfl
  have eA:(fun b=>if b=T then some (HO.tbl #[.str q 0]) else if b=a then some (.frz { cls:=.type "list",data:=.seq vs.toArray } (.lst (ns.map V.int))) else none) a=some (.frz { cls:=.type "list",data:=.seq vs.toArray } (.lst (ns.map V.int))):=(if_neg nTa).trans (if_pos rfl)
  refine core (fun b=>if b=T then some (HO.tbl #[.str q 0]) else if b=a then some (.frz { cls:=.type "list",data:=.seq vs.toArray } (.lst (ns.map V.int))) else none) eT (.inl (.inr ⟨{ cls:=.type "list",data:=.seq vs.toArray },eA⟩)) (fun b u z=>?_) fun b=>?_
  ·by_cases hb:b=T
   ·subst hb
    rw [eT] at z
    cases z
    exact tk _
   ·by_cases hb2:b=a
    ·subst hb2
     rw [eA] at z
     cases z
     exact⟨ha,by rw [List.length_map];exact hl,vs,_,rv,ha⟩
    ·have z':=((if_neg hb).trans (if_neg hb2)).symm.trans z
     cases z'
  ·by_cases hb:b=T
   ·exact .inr (.inl hb)
   ·by_cases hb2:b=a
    ·exact .inr (.inr ⟨hb2,hk,_,_,eA⟩)
    ·exact .inl ((if_neg hb).trans (if_neg hb2))
theorem walk_ofT{l:PySem.W.OpenLaw}{n k:Nat}{ql:Program}{loose:List Str}{XP:(Str->Option Value)->Heap->Prop}{YP:World->Heap->Prop}{d:DefRec}{K:Params->PySem.W.Frag}{sp:World->Sp}{x q:Str}{T:Addr}
  (hn:l.most=some n) (hn2:n<=sizeLine) (hdf:d.params.defaults = []) (hr:Room k callerA)
  (hY:∀(w:World) (h:Heap),YP w h->(K w.params).In h/\h.get? T=some tab0)
  (F:∀(w:World) (mg:Str->Option Value) (fa:Addr) (h:Heap),(K w.params).In h->h.get? T=some tab0->h.Ns mainGlobals mg->mg d.name=some (.ref fa) ->
   ∃ fd:FuncData,(∀(s:Shared) (u:Value),BindsTo s fd ⟨[u],[]⟩ [(x,u)])/\∃(c:Addr) (oc:Obj),(K w.params).lookup c=some oc/\HdO oc T/\c≠T /\
    ∀ base:Heap,(noTab T (K w.params)).In base->base.Ns mainGlobals mg->BltAt mg base->PySem.W.CodeHd base c T->FnOk l.prog w (noTab T (K w.params)) mg base CX0 k fa fd [x] (tabSp q T (sp w)))
  (hsp:∀(w:World) (H:Hp) (a:Addr) (ns:List Int),ns.length<=n->SqL (noTab T (K w.params)) H a (ns.map V.int)->sp w [.ref a] H (fun v _=>v=.bl true) fun _ _ _=>False) :
  PySem.W.WalkO ql loose XP YP l.row.toRowW d [] (fun f vs=>PySem.call f vs):=by
 refine Att.attach_call hn hdf fun w s₀ s₁ mg mb fa o pm cd doc a vs ns G Y ho hd hcd hmg hobj hints hlen hg=>?_
 obtain⟨KX,gT⟩:=hY w _ Y
 obtain⟨fd,hb,c,oc,lc,hO,ne,hF⟩:=F w mg fa _ KX gT G.T.g hmg
 obtain⟨bm,ob,b1,b2,b3,b4,b5,b6⟩:=G.T.bmain
 exact law_callT (drop_in KX) (drop_none _) gT (KX _ _ lc) hO ne ⟨bm,ob,b1,b2,b3,b4,b5,b6⟩ G.T.g G.T.b G.T.builtins G.T.nolimit hg hobj hints (Nat.le_trans hlen hn2) hr hF hb (fun H hS=>hsp w H a ns hlen hS)
end L2
namespace PySem
open Sem (wp)
section
variable {prog:Program}{w:World}{A:Around}{E:Value->Shared->Prop}{h:Heap}{g:Array GenState}{d:Drawn}{t:Nat}{os:OsState}
variable {nm q:Str}{C N:Addr}{bs bm bmB bmN:List Value}{hdct:Bool}{sn:List Str}{sub:List Value}{ab:Bool}{col:Option Bool}{dd:Option Addr}{k0 k1 k2 k3 k5:Option Value}{B Bn newId nid initId inN:String}
end
end PySem
namespace PySem
open Sem (wp)
open Builtin Builtin.ObjectAttr
section
variable {prog:Program}{w:World}{A:Around}{E:Value->Shared->Prop}{h:Heap}{g:Array GenState}{d:Drawn}{t:Nat}{os:OsState}
variable {nm q:Str}{C N x:Addr}{bs bm bmB:List Value}{sn:List Str}{sub:List Value}{ab:Bool}{col:Option Bool}{dd:Option Addr}{k0 k1 k2 k3 k5:Option Value}{B newId sa owner:String}
 {mA:Str->Option Value} {name:Str} {v:Value}
end
end PySem
namespace PySem
open Sem (wp)
section
variable {M:Model}{A:Around}{E:Value->Shared->Prop}{s:Shared}{env:Env}
variable {nm q:Str}{C N:Addr}{bs bm bmB bmN:List Value}{hdct:Bool}{sn:List Str}{sub:List Value}{ab:Bool}{col:Option Bool}{dd:Option Addr}{k0 k1 k2 k3 k5:Option Value}{B Bn newId nid initId inN:String}
end
section
variable {prog:Program}{w:World}{A:Around}{E:Value->Shared->Prop}{s:Shared}{env:Env}
variable {nm q:Str}{C N:Addr}{bs bm bmB bmN:List Value}{hdct:Bool}{sn:List Str}{sub:List Value}{ab:Bool}{col:Option Bool}{dd:Option Addr}{k0 k1 k2 k3 k5:Option Value}{B Bn newId nid initId inN:String}
end
end PySem
namespace L2
open PySem PySem.Spec PyProof.Rows
def excInI(K:PySem.W.Frag)(C:Addr)(bmB:List Value)(newId:String)(fI:Addr):Bool:=match K.lookup C with
 | some ⟨.type "type",_,.cls cd,sl⟩=>(match cd.mro,sl.toList with
  | .ref C'::bm,[_,_,_,_,some (.builtin n),_]=>C' == C && n == newId && !cd.hasDel && cd.hasDict && PySem.W.tailIn K bmB bm && PySem.W.nsOkIn K cd.ns && PySem.W.nsIn K cd.ns "__init__" == some (some (.ref fI))
  | _,_=>false)
 | _=>false
section
variable {X:Cx}{pins:List (Addr×Obj)}{σ:St}{H:Hp}{s:Shared}
theorem Inv.track{b:Addr}{o:HO}(I:Inv X pins σ H s)(hn:H b=none)(h0:X.s₀.heap.get? b=none)(hl:b≠X.env.locals)(hc:∀ x c,X.env.cells.lookup x=some c->c≠b)(hp:∀ p∈X.pn++pins,p.1≠b)(ok:ObjOk X.prog X.w (upd H b o) s.heap b o):Inv X pins σ (upd H b o) s:=by
 have up:∀ c u,H c=some u->upd H b o c=some u:=fun c u e=>by rw [upd_ne (ne_of_none e hn)];exact e
 refine⟨I.ok,I.os,I.bare,⟨I.base.keep,I.base.slot,fun c u e n hx=>?_,I.base.there,fun c xs e=>up _ _ (I.base.tups c xs e),fun c u v e=>up _ _ (I.base.frzs c u v e),fun c ps e=>?_⟩,I.loc,I.cell,?_,fun x c e=>?_,fun p q=>?_,fun c u e=>?_,I.len⟩
 ·rw [upd_ne (fun z=>by rw [z,h0] at e;cases e)]
  exact I.base.free c u e n hx
 ·obtain⟨m,z⟩:=I.base.tbls c ps e
  exact⟨m,up _ _ z⟩
 ·rw [upd_ne (Ne.symm hl)];exact I.free
 ·rw [upd_ne (hc x c e)];exact I.freeC x c e
 ·obtain⟨z1,z2,z3⟩:=I.pin p q
  exact⟨z1,by rw [upd_ne (hp p q)];exact z2,z3⟩
 ·by_cases z:c=b
  ·subst z
   rw [upd_same] at e
   cases e
   exact ok
  ·rw [upd_ne z] at e
   exact(I.hok c u e).stay (fun _ _ _ q=>q) (fun c q=>up _ _ q) (fun c xs q=>up _ _ q) fun c _ _ q=>up _ _ q
end
def excObj(C t:Addr)(od:Option Addr):Obj:={ cls:=.ref C,dict:=od,data:=.fields #[.ref t,.none,.none,.none,.bool false,.none] }
def ExcE(C t:Addr)(od:Option Addr)(a:Addr):HO:=.ext fun h=>h.get? a=some (excObj C t od)
structure XI(X:Cx)(σ:St)(H:Hp)(s:Shared)(e C t:Addr)(od:Option Addr)(mA:Str->Option Value)(c:Nat):Prop where
 I:Inv X [] σ H s
 tr:H e=some (ExcE C t od e)
 no:od=none->∀ n,mA n=none
 ns:∀ d,od=some d->d≠e/\s.heap.Ns1 d mA/\FpOk X [] H d
 few:∃ ks,Within mA ks/\ks.length<=c
structure XFld(K:PySem.W.Frag)(C fI:Addr)(fs:List Str):Prop where
 cls:excInI K C [.type "ValueError",.type "Exception",.type "BaseException",.type "object"] "ValueError.__new__" fI=true
 sa:PySem.W.findIn K (.ref C) "__setattr__" = some (some (.builtin "object.__setattr__"))
 at_:∀ f∈fs,PySem.W.findIn K (.ref C) f=some none
section
variable {X:Cx}{σ:St}{H:Hp}{s:Shared}{e C t fI:Addr}{od:Option Addr}{mA:Str->Option Value}{fs:List Str}{c:Nat}
theorem XI.ob(x:XI X σ H s e C t od mA c):s.heap.get? e=some (excObj C t od):=(x.I.hok e _ x.tr).1
end
def fldV(fs:List Str)(ns:List Int):List (Str×V):=(fs.zip ns).map fun p=>(p.1,V.int p.2)
def InitEnd(P:Program)(w:World)(outer:List Env)(H:Hp)(s s':Shared)(e C t:Addr)(fv:List (Str×V)):Prop :=
 ∃ d H',s'.os=s.os/\AllBare s'.gens/\Un (frs outer) [] H H' s.heap s'.heap/\HOk P w H' s'.heap/\H' e=some (ExcE C t (some d) e)/\H' d=some (.xd fv)/\But e H H'/\d≠e/\H d=none
structure InitOk(P:Program)(w:World)(K:PySem.W.Frag)(mg:Str->Option Value)(base:Heap)(k:Nat)(C fI:Addr)(fs:List Str):Prop where
 run:∀(A:Around) (outer:List Env) (s:Shared) (H:Hp) (e t:Addr) (ns:List Int) (us:List Value),Room k A->Env0 P w K mg base A outer s H->H e=some (ExcE C t none e)->Vals (ns.map V.int) us->ns.length=fs.length ->
  codeAny (model P w) A (.call (.ref fI) ⟨.ref e::us,[]⟩) (fun r s'=>r=.ok (.ret .none)/\InitEnd P w outer H s s' e C t (fldV fs ns)) s
section
variable {P:Program}{w:World}{K:PySem.W.Frag}{mg:Str->Option Value}{base:Heap}{k:Nat}{C fI:Addr}{fd:FuncData}{qual:Str}{st:Stmt}
end
section
variable {P:Program}{w:World}{K:PySem.W.Frag}{mg:Str->Option Value}{base:Heap}{N:List Str}{qual:Str}{scope:Scope}{f:Addr}{cd:Value}{A:Around}{outer:List Env}{s:Shared}{H:Hp}{E:XK}
end
end L2
namespace L2
open PySem PySem.Spec PyProof.Rows PySem.W
section
variable {prog:Program}{w:World}{A:Around}{E:Value->Shared->Prop}{s:Shared}{K:Frag}{x C:Addr}{ox:Obj}{od:Option Obj}{name:Str}{v:Value}
end
section
variable {X:Cx}{pos p:Pos}
end
end L2
namespace L2
open PySem PySem.Spec PyProof.Rows
section
variable {X:Cx}{e:Expr}{es rest:List Expr}{k k':Nat}{x:Str}{ps:List Str}{sp:DSp}{t:DTP}{p cpos:Pos}
end
section
variable {X:Cx}
variable {o e:Expr}{to te:DTE}{apos cpos:Pos}
end
section
variable {X:Cx}{pos p:Pos}
end
section
variable {X:Cx}{e:Expr}{pos p:Pos}
end
section
variable {X:Cx}{a b c d:Expr}{ta tb tc td:DTE}{pos:Pos}
end
section
variable {X:Cx}
def cnSX(X:Cx)(t:DTS):TS:=fun E σ H=>∃ σD Dn,DOk X.K X.H₀ H σD σ/\t Dn σD/\(∀ σ' H' σD',DOk X.K X.H₀ H' σD' σ'->Pers H H'->Dn.nx σD'->E.nx σ' H')/\(∀ v H' r,Same X.H₀ H'->RepR X.K X.H₀ H' r v->Dn.rt r->E.rt v H') /\
 (∀ σ' H' σD',DOk X.K X.H₀ H' σD' σ'->Pers H H'->Dn.bk σD'->E.bk σ' H')/\∀ σ' H' σD',DOk X.K X.H₀ H' σD' σ'->Pers H H'->Dn.ct σD'->E.ct σ' H'
theorem DSXs.ps{sts:List Stmt}{t:DTS}(h:DSXs X sts t):PSs X sts (cnSX X t):=fun pins s σ H E I ⟨σD,Dn,ok,q,k1,k2,k3,k4⟩=>thn (h.run pins s σ H σD Dn I ok q) fun f s' z=>by
 cases f with
 | next=>obtain⟨a,b,c,e1,e2,e3,e4⟩:=z;exact⟨a,b,e1,k1 a b c e2 e3 e4⟩
 | brk=>obtain⟨a,b,c,e1,e2,e3,e4⟩:=z;exact⟨a,b,e1,k3 a b c e2 e3 e4⟩
 | cont=>obtain⟨a,b,c,e1,e2,e3,e4⟩:=z;exact⟨a,b,e1,k4 a b c e2 e3 e4⟩
 | ret u=>obtain⟨v,a,b,r,e1,e2,e3,e4,e5⟩:=z;exact⟨v,a,b,e1,e2,k2 v b r e3 e4 e5⟩
theorem DSX.of{st:Stmt}{t:DTS}{t':TS}(h:PS X st t')(k:∀ σ H σD Dn,DOk X.K X.H₀ H σD σ->t Dn σD->t' (dEnds X.K X.H₀ H Dn) σ H):DSX X st t :=
 ⟨fun pins s σ H σD Dn I ok q=>thn (h pins s σ H _ I (k σ H σD Dn ok q)) fun _ _ z=>z.dsp⟩
end
section
variable {X:Cx}{pins:List (Addr×Obj)}{σ:St}{H:Hp}{s:Shared}
end
end L2
namespace PySem
section
variable {prog:Program}{w:World}{A:Around}{E:Value->Shared->Prop}{s:Shared}
end
end PySem
namespace L2
open PySem PySem.Spec PyProof.Rows SQ
section
variable {X:Cx}{a:Expr}{p pos p2 pos2:Pos}
end
end L2
namespace L2
open PySem PySem.Spec PyProof.Rows
section
variable {X:Cx}{pos p:Pos}
end
section
variable {prog:Program}{w:World}{A:Around}{R:Result->Shared->Prop}{s:Shared}{elt t1 i1 t2 i2:Expr}{f1 f2:List Expr}{scope:Scope}{pos:Pos}{it acc:Value}{env:Env}
end
section
variable {X:Cx}
end
section
variable {K:PySem.W.Frag}{H₀ H H':Hp}
end
section
variable {X:Cx}{elt tg iter t2 i2:Expr}{ifs ifs2:List Expr}{scope:Scope}{pos:Pos}{cl:List (Str×Addr)}{N' capt:List Str}{k:Nat}{js is is2:List Nat}{ti ti2:DTF}{g g2:DTG}{tt tt2:DTT}{te:DTE}
end
section
variable {X:Cx}
variable {elt tg iter t2 i2:Expr}{ifs ifs2:List Expr}{scope:Scope}{pos:Pos}{cl:List (Str×Addr)}{N' capt:List Str}{k:Nat}{js is is2:List Nat}{ti ti2:DTF}{g g2:DTG}{tt tt2:DTT}{te:DTE}
end
section
variable {X:Cx}{e:Expr}{es:List Expr}{pos:Pos}{i j:Nat}{sp:DSpG}{t:DTPG}
end
section
variable {K:PySem.W.Frag}{H₀ H Hb H':Hp}{σD:DSt}{σ:St}
end
section
variable {X:Cx}{elt tg iter:Expr}{ifs:List Expr}{scope:Scope}{pos:Pos}{cl:List (Str×Addr)}{N' capt:List Str}{k:Nat}{js is:List Nat}{ti:DTF}{g:DTG}{tt:DTT}{sp:DSpG}{t:DTPG}
end
section
variable {X:Cx}
variable {o e:Expr}{to te:DTE}{apos cpos:Pos}
end
end L2
namespace SQ
open PySem PyProof.Rows
set_option autoImplicit false
def Ref2(h:Heap)(v:Value)(is:List Int):Prop:=∃ a its n t u js,v=.ref a/\IsTup h a its/\its.toList = [.int n t,u]/\RefIs h u js/\is=n::js
theorem Ref2.uniq{h:Heap}{v:Value}{is js:List Int}(x:Ref2 h v is)(y:Ref2 h v js):is=js:=by
 obtain⟨a,its,n,t,u,l,rfl,⟨o,e,_,c,d⟩,i1,r1,rfl⟩:=x
 obtain⟨a',its',n',t',u',l',e',⟨o',e2,_,c',d'⟩,i2,r2,rfl⟩:=y
 cases e'
 rw [e] at e2
 cases e2
 rw [d] at d'
 cases d'
 rw [i1] at i2
 cases i2
 rw [r1.uniq r2]
open Classical in
noncomputable def key2 (h:Heap) (v:Value):Option (List Int):=if x:∃ is,Ref2 h v is then some x.choose else none
theorem key2_some{h:Heap}{v:Value}{is:List Int}(e:key2 h v=some is):Ref2 h v is:=by
 unfold key2 at e
 split at e
 ·next x=>cases e;exact x.choose_spec
 ·cases e
theorem key2_of{h:Heap}{v:Value}{is:List Int}(x:Ref2 h v is):key2 h v=some is:=by
 unfold key2
 rw [dif_pos ⟨is,x⟩]
 rw [(Exists.choose_spec (p:=fun is=>Ref2 h v is) ⟨is,x⟩).uniq x]
@[reducible] noncomputable def prK (h:Heap):KeyKind:={ tupK h with keyOf:=fun v=>key2 h v }
theorem lex_lt:∀ as bs:List Int,HT.lexLt as bs=decide (as<bs)
 | [],[]=>by simp [HT.lexLt]
 | [],b::bs=>by simp [HT.lexLt]
 | a::as,[]=>by simp [HT.lexLt]
 | a::as,b::bs=>by
  rw [HT.lexLt_cons]
  by_cases c:a=b
  ·subst c
   rw [if_pos rfl,lex_lt as bs]
   exact decide_eq_decide.mpr (by rw [List.cons_lt_cons_iff];simp)
  ·rw [if_neg c]
   exact decide_eq_decide.mpr (by rw [List.cons_lt_cons_iff];simp [c])
section
variable {prog:Program}{w:World}{A:Around}{E:Value->Shared->Prop}{s:Shared}
theorem items_int{vs:List Value}{ns:List Int}(h:IntsAre vs ns):ItemsAre (intKind prog w) ns vs:=by
 induction h with
 | nil=>exact .nil
 | cons n t h ih=>exact .cons (by simp [intKind,Value.isInt]) ih
theorem eq_refs{u v:Value}{js ks:List Int}{Q:Bool->Shared->Prop}(hu:A.units<cLine)(h1:RefIs s.heap u js)(h2:RefIs s.heap v ks)(h:Q (decide (js=ks)) s):wpAny (model prog w) A (eqBool u v) Q E s:=by
 obtain⟨a,ia,rfl,⟨oa,ga,ca,na,da⟩,ta⟩:=h1
 obtain⟨b,ib,rfl,⟨ob,gb,cb,nb,db⟩,tb⟩:=h2
 exact wpAny_eqBool_tuple (knd:=intKind prog w) hu ⟨oa,ia,na,ga,ca,da,items_int ta⟩ ⟨ob,ib,nb,gb,cb,db,items_int tb⟩ h
theorem lt_refs{u v:Value}{js ks:List Int}{Q:Bool->Shared->Prop}(hu:A.units<cLine)(h1:RefIs s.heap u js)(h2:RefIs s.heap v ks)(h:Q (decide (js<ks)) s):wpAny (model prog w) A (oneLt' false u v) Q E s:=by
 obtain⟨a,ia,rfl,pa,ta⟩:=h1
 obtain⟨b,ib,rfl,pb,tb⟩:=h2
 rw [oneLt'_eq]
 rw [if_neg (by decide)]
 exact wpAny_bind (HT.lt_tupInts pa pb ta tb hu (wpAny_truthy_bool (by rw [lex_lt];exact h)))
theorem pr_loop{f:Bool}{n m:Int}{t t':Tok}{u u':Value}{js ks:List Int}(hu:A.units<cLine)(h1:RefIs s.heap u js)(h2:RefIs s.heap u' ks)(Q:Option Bool×Unit->Shared->Prop)
  (q:∀ r,(r=none->n::js=m::ks)->(∀ b,r=some b->b=decide (n::js<m::ks))->Q (r,()) s) :
  wpAny (model prog w) A (forIn (([Value.int n t,u].zip [Value.int m t',u']).zipIdx 0) ((none,()):Option Bool×Unit) fun x _=>match x with
   | ((p,q),i)=>do
    let e <-eqBool p q
    if (!e)=true then do
     let r <-oneLt' (f && i == 0) p q
     pure (ForInStep.done (some r,()))
    else pure (ForInStep.yield (none,()))) Q E s:=by
 simp only [List.zip_cons_cons,List.zip_nil_left,List.zipIdx_cons,List.zipIdx_nil,List.forIn_cons,List.forIn_nil]
 refine wpAny_bind ?_
 refine wpAny_bind (wpAny_eqBool_int ?_)
 by_cases c:n=m
 ·subst c
  rw [if_neg (by simp)]
  refine wpAny_pure ?_
  refine wpAny_bind ?_
  refine wpAny_bind (eq_refs hu h1 h2 ?_)
  by_cases c:js=ks
  ·rw [if_neg (by simp [c])]
   refine wpAny_pure (wpAny_pure (q none (fun _=>by rw [c]) fun b z=>by cases z))
  ·rw [if_pos (by simpa using c)]
   have ef:(f && (0+1 == 0))=false:=by simp
   rw [ef]
   refine wpAny_bind (lt_refs hu h1 h2 (wpAny_pure (wpAny_pure (q _ (fun z=>by cases z) fun b z=>?_))))
   cases z
   exact decide_eq_decide.mpr (by rw [List.cons_lt_cons_iff];simp)
 ·rw [if_pos (by simpa using c)]
  refine wpAny_bind (oneLt_intF (wpAny_pure (wpAny_pure (q _ (fun e=>by cases e) fun d e=>?_))))
  cases e
  exact decide_eq_decide.mpr (by rw [List.cons_lt_cons_iff];simp [c])
theorem prK_lt{f:Bool}(hu:A.units<cLine):LtOk prog w A s (prK s.heap) (tuples' f):=fun E x y a b Q ha hb q=>by
 obtain⟨ra,ia,n,t,u,js,rfl,⟨oa,ga,_,na,da⟩,ea,r1,rfl⟩:=key2_some ha
 obtain⟨rb,ib,m,t',u',ks,rfl,⟨ob,gb,_,nb,db⟩,eb,r2,rfl⟩:=key2_some hb
 have za:ia = #[.int n t,u]:=by rw [<-Array.toArray_toList (xs:=ia),ea]
 have zb:ib = #[.int m t',u']:=by rw [<-Array.toArray_toList (xs:=ib),eb]
 subst za zb
 refine wpAny_bind (listItems_at ga da (wpAny_bind (listItems_at gb db (wpAny_bind (pr_loop hu r1 r2 _ fun r z1 z2=>?_)))))
 cases r with
 | some d =>
  dsimp only
  cases z2 d rfl
  exact wpAny_pure q
 | none =>
  dsimp only
  refine wpAny_pure ?_
  have:=z1 rfl
  rw [this] at q
  have e:(prK s.heap).blt (m::ks) (m::ks)=false:=(prK s.heap).irrefl _
  rw [e] at q
  exact q
theorem first2{v:Value}{is:List Int}(h:Ref2 s.heap v is):∃ i t,∀ Q:Option Value->Shared->Prop,Q (some (.int i t)) s->wpAny (model prog w) A (firstOfTuple' v) Q E s:=by
 obtain⟨a,its,n,t,u,js,rfl,⟨o,g,c,k,d⟩,e,_,_⟩:=h
 refine⟨n,t,fun Q q=>wpAny_bind (wpAny_typeOf (T := "tuple") ⟨o,g,c⟩ ?_)⟩
 rw [if_neg (by decide)]
 refine wpAny_bind (listItems_at g d (wpAny_pure ?_))
 have:its[0]?=some (.int n t):=by rw [<-Array.getElem?_toList,e];rfl
 rw [this]
 exact q
theorem first2_all:∀{vs:List Value},(∀ v∈vs,∃ is,Ref2 s.heap v is)->∃(fs:List Value) (ns:List Int),IntsAre fs ns/\fs.length=vs.length/\∀ Q:List (Option Value)->Shared->Prop,Q (fs.map some) s->wpAny (model prog w) A (vs.mapM firstOfTuple') Q E s
 | [],_=>⟨[],[],.nil,rfl,fun Q q=>by rw [List.mapM_nil];exact wpAny_pure q⟩
 | v::vs,h=>by
  obtain⟨fs,ns,i1,l1,w1⟩:=first2_all (vs:=vs) fun x hx=>h x (List.mem_cons_of_mem _ hx)
  obtain⟨is,hv⟩:=h v List.mem_cons_self
  obtain⟨i,t,w2⟩:=first2 (prog:=prog) (w:=w) (A:=A) (E:=E) hv
  refine⟨.int i t::fs,i::ns,.cons i t i1,by simp [l1],fun Q q=>?_⟩
  rw [List.mapM_cons]
  exact wpAny_bind (w2 _ (wpAny_bind (w1 _ (wpAny_pure q))))
theorem kind2{vs:List Value}{Q:SortKind->Shared->Prop}(h:∀ v∈vs,∃ is,Ref2 s.heap v is)(h2:2<=vs.length)(q:Q (tuples' true) s):wpAny (model prog w) A (keyKind' vs.toArray) Q E s:=by
 obtain⟨fs,ns,i1,l1,w1⟩:=first2_all (prog:=prog) (w:=w) (A:=A) (E:=E) h
 rw [keyKind'_eq,List.mapM_toArray]
 simp only [map_eq_pure_bind,bind_assoc,pure_bind]
 refine wpAny_bind (w1 _ ?_)
 rw [if_pos (by simp)]
 refine wpAny_bind (m:=rule _) (wpAny_rule ?_)
 have ef:Array.filterMap id (List.map some fs).toArray=fs.toArray:=by simp
 rw [ef,oneTypeOnly'_eq,List.mapM_toArray,mapM_typeOf_ints i1]
 simp only [map_pure,pure_bind]
 cases fs with
 | nil=>simp at l1;omega
 | cons f fs =>
  have hall:((List.map (fun _=>Value.type "int") (f::fs)).toArray.all fun x=>x == Value.type "int")=true:=by
   simp only [List.all_toArray,List.all_map,List.all_eq_true]
   intro _ _
   rfl
  have g0:(List.map (fun _=>Value.type "int") (f::fs)).toArray[0]?=some (Value.type "int"):=by simp
  rw [g0]
  simp only [hall,if_true,pure_bind]
  exact wpAny_pure q
theorem All2.perm{α β:Type}{R:α->β->Prop}{as' as:List α}(p:as'.Perm as):∀{bs:List β},All2 R as bs->∃ bs',All2 R as' bs'/\bs'.Perm bs:=by
 induction p with
 | nil=>intro bs h;exact⟨bs,h,.refl _⟩
 | cons x p ih =>
  intro bs h
  cases h with
  | cons h t =>
   obtain⟨bs',h',p'⟩:=ih t
   exact⟨_,.cons h h',p'.cons _⟩
 | swap x y l =>
  intro bs h
  cases h with
  | cons h t =>
   cases t with
   | cons h2 t=>exact⟨_,.cons h2 (.cons h t),.swap _ _ _⟩
 | trans p1 p2 ih1 ih2 =>
  intro bs h
  obtain⟨b1,h1,q1⟩:=ih2 h
  obtain⟨b2,h2,q2⟩:=ih1 h1
  exact⟨b2,h2,q2.trans q1⟩
theorem All2.pair{α β:Type}{R:α->β->Prop}{T:α->α->Prop}{U:β->β->Prop}(f:∀ a b a' b',R a b->R a' b'->T a a'->U b b'){as:List α}{bs:List β}(h:All2 R as bs)(p:as.Pairwise T):bs.Pairwise U:=by
 induction h with
 | nil=>exact .nil
 | @cons a b as bs h t ih =>
  rw [List.pairwise_cons] at p ⊢
  refine⟨fun b' hb=>?_,ih p.2⟩
  have:∀{as:List α} {bs:List β},All2 R as bs->b'∈bs->∃ a'∈as,R a' b':=fun{as bs} h=>by
   induction h with
   | nil=>intro z;cases z
   | cons h _ ih =>
    intro z
    rcases List.mem_cons.mp z with rfl | z
    ·exact⟨_,List.mem_cons_self,h⟩
    ·obtain⟨a',m,r⟩:=ih z
     exact⟨a',List.mem_cons_of_mem _ m,r⟩
  obtain⟨a',m,r⟩:=this t hb
  exact f _ _ _ _ h r (p.1 a' m)
end
end SQ
namespace L2
open PySem PySem.Spec PyProof.Rows SQ
def KeyRunW(X:Cx)(pins:List (Addr×Obj))(σ:St)(f:Addr)(x:V)(H:Hp)(k:D):Prop :=
 ∀(ps:List (Addr×Obj)) (s:Shared) (H1:Hp) (u:Value),Inv X (pins++ps) σ H1 s->Same H H1->RelV x u ->
  wpAny (model X.prog X.w) X.A.in1.in1 (call (.ref f) [u]) (fun kv s'=>∃ H2 v,RelV v kv/\Rep X.K H2 k v/\Inv X (pins++ps) σ H2 s'/\Same H1 H2) (fun _ _=>False) s
def kL(l:Int×List Int):List Int:=l.1::l.2
def kyD(l:Int×List Int):D:=.tuple [.int l.1,tD l.2]
section
variable {X:Cx}{pins:List (Addr×Obj)}{σ:St}{H:Hp}{s:Shared}
theorem ref2_of{l:Int×List Int}{v:V}{u:Value}(I:Inv X pins σ H s)(r:Rep X.K H (kyD l) v)(q:RelV v u):Ref2 s.heap u (kL l):=by
 cases r with
 | tup h r =>
  cases q
  obtain⟨its,rv,ht,_⟩:=I.tuple h
  cases r with
  | cons r1 r2 =>
   cases r1
   cases rv with
   | cons q1 q2 =>
    obtain⟨t,rfl⟩:=q1
    have rf:=refs_of I (tss:=[l.2]) r2 q2
    cases rf with
    | cons rf z=>cases z;exact⟨_,_,l.1,t,_,l.2,rfl,ht,rfl,rf,rfl⟩
abbrev KeyRel(K:PySem.W.Frag)(H:Hp)(h:Heap)(kf:D->Int×List Int)(p:Keyed)(q:V×D):Prop:=RelV q.1 p.2/\Rep K H q.2 q.1/\key2 h p.1=some (kL (kf q.2))
theorem zip3{kf:D->Int×List Int}(I:Inv X pins σ H s):∀{ds:List D} {us ks:List Value} {vs kvs:List V},Vals vs us->Reps X.K H ds vs->Vals kvs ks->Reps X.K H (ds.map fun d=>kyD (kf d)) kvs->All2 (KeyRel X.K H s.heap kf) (ks.zip us) (vs.zip ds)
 | [],us,ks,vs,kvs,h1,h2,h3,h4=>by
  cases h2
  cases h1
  simp only [List.zip_nil_right]
  exact .nil
 | d::ds,us,ks,vs,kvs,h1,h2,h3,h4=>by
  cases h2 with
  | cons r rs =>
   cases h1 with
   | cons q qs =>
    cases h4 with
    | cons r' rs' =>
     cases h3 with
     | cons q' qs'=>exact .cons ⟨q,r,key2_of (ref2_of I r' q')⟩ (zip3 I qs rs qs' rs')
theorem vals_of2{kf:D->Int×List Int}{h:Heap}{ps:List Keyed}{qs:List (V×D)}(a:All2 (KeyRel X.K H h kf) ps qs):Vals (qs.map (·.1)) (ps.map (·.2))/\Reps X.K H (qs.map (·.2)) (qs.map (·.1)):=by
 induction a with
 | nil=>exact⟨.nil,.nil⟩
 | cons z _ ih=>exact⟨.cons z.1 ih.1,.cons z.2.1 ih.2⟩
theorem sk_rest{a kS f:Addr}{e1:Nat}{us:List Value}{vs:List V}{ds:List D}{kf:D->Int×List Int}{R:PySem.Fin->Shared->Prop}{E:Value->Shared->Prop}(hu:X.A.in1.in1.units<cLine)(I:Inv X pins σ H s)(rv:Vals vs us)(rd:Reps X.K H ds vs)
  (hk:∀(i:Nat) (x:V) (d:D),vs[i]?=some x->ds[i]?=some d->KeyRunW X pins σ f x H (kyD (kf d))) (fa:FpOk X pins H a) (fk:FpOk X pins H kS) (ne:kS≠a) (ga:s.heap.get? a=some (seqObj "list" #[] e1)) (gk:s.heap.get? kS=some (seqObj "list" #[] 0)) (h64:us.length<64)
  (hR:∀(s':Shared) (H':Hp) (out:Array Value) (c:Nat) (vs':List V) (ds':List D),Inv X pins σ H' s'->Same H H'->FpOk X pins H' a->s'.heap.get? a=some (seqObj "list" out c)->Vals vs' out.toList->Reps X.K H' ds' vs'->ds'.Perm ds->ds'.Pairwise (fun x y=>¬ kL (kf y)<kL (kf x))->R (.done (.ret .none)) s') :
  wpAny (model X.prog X.w) X.A.in1.in1 (ksk_rest a (.ref f) false us.toArray e1 (.ref kS)) R E s:=by
 have lv:=rv.length
 have ld:=rd.length
 unfold ksk_rest
 refine wpAny_bind (wpAny_rule ?_)
 first
  | rw [List.forIn_toArray]
  | (rw [<-Array.forIn_toList];simp only [List.toList_toArray])
  | rw [<-Array.forIn_toList]
 refine wpAny_bind (ksk_fold (fun i s'=>∃ H1 kA e kvs,Inv X pins σ H1 s'/\Same H H1/\s'.heap.get? kS=some (seqObj "list" kA e)/\s'.heap.get? a=some (seqObj "list" #[] e1)/\Vals kvs kA.toList/\Reps X.K H1 ((ds.take i).map fun d=>kyD (kf d)) kvs/\FpOk X pins H1 kS/\FpOk X pins H1 a) us 0 s
  ⟨H,#[],0,[],I,Same.refl _,gk,ga,.nil,.nil,fk,fa⟩ ?step ?done)
 case step =>
  rintro j x s' hx ⟨H1,kA,e,kvs,I1,sm,gk1,ga1,kv,kr,fk1,fa1⟩
  simp only [Nat.zero_add] at kr ⊢
  have hj:j<us.length:=(List.getElem?_eq_some_iff.mp hx).1
  obtain⟨v,hv⟩:∃ v,vs[j]?=some v:=⟨_,List.getElem?_eq_getElem (by omega)⟩
  obtain⟨x',hx',ru⟩:=rv.get hv
  rw [hx] at hx'
  cases hx'
  obtain⟨d,hd,_⟩:=rd.get' hv
  have sz:kA.size<=us.length:=by
   have h1:kvs.length=kA.size:=kv.length.trans Array.length_toList
   have h2:min j ds.length=kvs.length:=by rw [<-kr.length,List.length_map,List.length_take]
   omega
  have I2:=pin2 I1 fk1 fa1 gk1 ga1 (fun v z=>by cases z) (fun v z=>by cases z)
  refine wpAny_bind (wpAny_attempt (wpAny_mono (hk j v d hv hd _ s' H1 x I2 sm ru) (fun kvv s2 ⟨H2,w,rw1,rp,J,sm2⟩=>?_) fun _ _ z=>z.elim))
  have p1:=J.pin (kS,seqObj "list" kA e) (List.mem_append_right _ (List.mem_append_right _ (.head _)))
  have p2:=J.pin (a,seqObj "list" #[] e1) (List.mem_append_right _ (List.mem_append_right _ (.tail _ (.head _))))
  have J':=J.unpinned
  have ek:((ds.take (j+1)).map fun d=>kyD (kf d))=((ds.take j).map fun d=>kyD (kf d)) ++ [kyD (kf d)]:=by rw [List.take_add_one,hd];simp
  refine wpAny_bind (listUpdate_at p1.1 rfl ?_ (by rw [sizeLine_eq];omega) (Nat.le_trans (Nat.le_of_eq (Array.size_push ..)) (by rw [sizeLine_eq];omega)))
  refine wpAny_pure ⟨rfl,H2,kA.push kvv,_,kvs ++ [w],(fk1.at p1.2.1).inv (t':=s2.toks) J' (fun b o n e=>(Heap.get?_update_other _ _ (Ne.symm n)).trans e),sm.trans sm2,get?_update_seq p1.1 (·.push kvv),(Heap.get?_update_other _ _ ne).trans p2.1,?_,?_,fk1.at p1.2.1,fa1.at p2.2.1⟩
  ·rw [Array.toList_push]
   exact kv.append (.cons rw1 .nil)
  ·rw [ek]
   exact(kr.same sm2).append (.cons rp .nil)
 case done =>
  rintro s' ⟨H1,kA,e,kvs,I1,sm,gk1,ga1,kv,kr,fk1,fa1⟩
  rw [Nat.zero_add,List.take_of_length_le (by omega)] at kr
  have sz:kA.size=us.length:=by
   have h1:kvs.length=kA.size:=kv.length.trans Array.length_toList
   have h2:ds.length=kvs.length:=by rw [<-kr.length,List.length_map]
   omega
  have z3:=zip3 I1 rv (rd.same sm) kv kr
  have pz:(kA.zip us.toArray).size=us.length:=by rw [Array.size_zip,sz,List.size_toArray,Nat.min_self]
  have zl:(kA.zip us.toArray).toList=kA.toList.zip us:=ksk_zip kA us
  have tl:∀ st:SortSt,(arrOf st).Perm (kA.zip us.toArray)->SortedToK (prK s'.heap) (arrOf st) (kA.zip us.toArray).size->failedOf st=none->wpAny (model X.prog X.w) X.A.in1.in1 (ksk_tail a false e1 (.ref kS) st) R E s':=fun st hp hs hf=>by
   have ga2:(s'.heap.update kS (Obj.mapSeq fun _=>(#[]:Array Value))).get? a=some (seqObj "list" #[] e1):=(Heap.get?_update_other _ _ ne).trans ga1
   have osz:((arrOf st).map (·.2)).size=us.length:=by rw [Array.size_map,hp.size_eq,pz]
   have pl:=Array.perm_iff_toList_perm.mp hp
   rw [zl] at pl
   obtain⟨qs,a2,pq⟩:=z3.perm pl
   obtain⟨v2,r2⟩:=vals_of2 a2
   have pw:(arrOf st).toList.Pairwise fun p q=>(prK s'.heap).kle ((key2 s'.heap p.1).getD []) ((key2 s'.heap q.1).getD []):=by
    rw [List.pairwise_iff_getElem]
    intro i j h1 h2 hij
    have h1':i<(arrOf st).size:=by simpa using h1
    have h2':j<(arrOf st).size:=by simpa using h2
    have:=hs i j (Nat.le_of_lt hij) (by rw [<-hp.size_eq];exact h2')
    unfold KK at this
    rw [Array.getElem?_eq_getElem h1',Array.getElem?_eq_getElem h2'] at this
    simpa using this
   have pd:(qs.map (·.2)).Perm ds:=by
    have:=pq.map (·.2)
    rwa [show(vs.zip ds).map (·.2)=ds by rw [List.map_snd_zip (by omega)]] at this
   unfold ksk_tail
   try dsimp only
   refine wpAny_bind (listUpdate_at gk1 rfl ?_ (by rw [sz,sizeLine_eq];omega) (Nat.zero_le _))
   refine wpAny_bind (wpAny_letGo ?_)
   refine wpAny_bind (seqEpoch_at ga2 rfl ?_)
   simp only [Bool.false_eq_true,if_false]
   refine wpAny_bind (listUpdate_at ga2 rfl ?_ (Nat.zero_le _) (Nat.le_trans (Nat.le_of_eq osz) (by rw [sizeLine_eq];omega)))
   rw [hf]
   simp only [bne_self_eq_false,Bool.false_eq_true,if_false]
   have I2:=fk1.inv (t':=s'.toks) I1 (h':=s'.heap.update kS (Obj.mapSeq fun _=>(#[]:Array Value))) fun b o n e=>(Heap.get?_update_other _ _ (Ne.symm n)).trans e
   have I3:=fa1.inv (t':=s'.toks) I2 (h':=(s'.heap.update kS (Obj.mapSeq fun _=>(#[]:Array Value))).update a (Obj.mapSeq fun _=>(arrOf st).map (·.2))) fun b o n e=>(Heap.get?_update_other _ _ (Ne.symm n)).trans e
   refine wpAny_pure (hR _ H1 _ _ (qs.map (·.1)) (qs.map (·.2)) I3 sm fa1 (get?_update_seq ga2 fun _=>(arrOf st).map (·.2)) ?_ r2 pd ?_)
   ·rw [Array.toList_map];exact v2
   ·rw [List.pairwise_map]
    refine a2.pair (fun p q p' q' h1 h2 t=>?_) pw
    rw [h1.2.2,h2.2.2] at t
    simpa [KeyOrd.kle] using t
  refine wpAny_bind (listItems_at gk1 rfl ?_)
  unfold ksk_end
  try dsimp only
  simp only [Bool.false_eq_true,if_false]
  have hks:∀ v∈kA.toList,∃ is,Ref2 s'.heap v is:=fun v hv=>by
   obtain⟨i,hi⟩:=List.getElem?_of_mem hv
   have hil:=(List.getElem?_eq_some_iff.mp hi).1
   obtain⟨w,hw⟩:∃ w,kvs[i]?=some w:=⟨_,List.getElem?_eq_getElem (by rw [kv.length];exact hil)⟩
   obtain⟨v',hv',rv'⟩:=kv.get hw
   rw [hi] at hv'
   cases hv'
   obtain⟨d,hd,rp⟩:=kr.get' hw
   rw [List.getElem?_map] at hd
   cases hdi:ds[i]? with
   | none=>rw [hdi] at hd;cases hd
   | some d0 =>
    rw [hdi] at hd
    cases hd
    exact⟨_,ref2_of I1 rp rv'⟩
  by_cases c:us.toArray.size<2
  ·rw [if_pos c,if_pos c]
   refine wpAny_bind (wpAny_pure ?_)
   rw [StateT.run_pure]
   refine wpAny_bind (wpAny_pure ?_)
   try dsimp only
   refine tl (SortSt.mk' general' (kA.zip us.toArray) #[] 7 none) (Array.Perm.refl _) (fun i j hij hj=>?_) rfl
   rw [pz] at hj
   rw [List.size_toArray] at c
   have:i=j:=by omega
   subst this
   exact KeyOrd.kle_refl _
  ·rw [if_neg c,if_neg c]
   rw [List.size_toArray] at c
   refine wpAny_bind ?_
   rw [<-Array.toArray_toList (xs:=kA)]
   refine kind2 hks (by rw [Array.length_toList];omega) ?_
   refine wpAny_bind (wpAny_mono (q_sortRunsS (κ:=prK s'.heap) (kd:=tuples' true) (a₀:=kA.zip us.toArray) (st:=SortSt.mk' (tuples' true) (kA.zip us.toArray) #[] 7 none)
    (Q:=fun _ st'=>(arrOf st').Perm (kA.zip us.toArray)/\failedOf st'=none/\SortedToK (prK s'.heap) (arrOf st') (kA.zip us.toArray).size) (prK_lt hu)
    (fun p hp=>?_) ⟨Array.Perm.refl _,rfl,rfl⟩ rfl (by rw [pz];omega) (by rw [pz];exact h64) fun st' g' s'=>⟨g'.perm,g'.fail,s'⟩) ?_ fun _ _ e=>e)
   ·rw [zl] at hp
    obtain⟨b,_,z⟩:=z3.mem hp
    exact⟨_,z.2.2⟩
   ·rintro ⟨⟨⟩,st'⟩ s'' ⟨rfl,hp,hf,hs⟩
    exact tl st' hp hs hf
end
end L2
namespace L2
open PySem PySem.Spec PyProof.Rows SQ
section
variable {X:Cx}{pins:List (Addr×Obj)}{σ:St}{H:Hp}{s:Shared}
theorem sk_sorted{l f:Addr}{T:String}{o:Obj}{n:Nat}{us:List Value}{vs:List V}{ds:List D}{kf:D->Int×List Int}{Q:Value->Shared->Prop}(hu:X.A.in1.in1.units<cLine)(I:Inv X pins σ H s)(rv:Vals vs us)(rd:Reps X.K H ds vs)
  (hT:T = "list" \/ T = "tuple") (ho:s.heap.get? l=some o) (hc:o.cls=.type T) (hd:o.data=.seq us.toArray n) (h64:us.length<64)
  (hk:∀(i:Nat) (x:V) (d:D),vs[i]?=some x->ds[i]?=some d->KeyRunW X pins σ f x H (kyD (kf d)))
  (hR:∀(a:Addr) (s':Shared) (H':Hp) (vs':List V) (ds':List D),Inv X pins σ H' s'->Same H H'->H a=none->H' a=some (.lst vs')->Reps X.K H' ds' vs'->ds'.Perm ds->ds'.Pairwise (fun x y=>¬ kL (kf y)<kL (kf x))->Q (.ref a) s') :
  wpAny (model X.prog X.w) X.A (call (.builtin "sorted") [.ref l] [(Str.ofString "key",.ref f)]) Q X.xe s:=by
 have hz:us.length<=sizeLine:=by rw [sizeLine_eq];omega
 refine call_function_entry_kw kind_sorted plain_sorted entry_sorted (ksk_s1 _ _) ?_
 unfold Builtin.«sorted»
 refine wpAny_bind (m:=checkCount "sorted" 1 1 _) (wpAny_pure ?_)
 refine wpAny_bind (q_collect hT ho hc hd (by simpa using hz) ?_)
 rw [List.toList_toArray]
 refine wpAny_bind (wpAny_newList ?_ hz)
 have es:((s.heap.push (seqObj "list" #[] 0)).update s.heap.objs.size (Obj.mapSeq (·++us.toArray))).objs.size=s.heap.objs.size+1:=by rw [Heap.size_update,size_push']
 have gL:(((s.heap.push (seqObj "list" #[] 0)).update s.heap.objs.size (Obj.mapSeq (·++us.toArray))).push (seqObj "list" us.toArray 0)).get? (s.heap.objs.size+1)=some (seqObj "list" us.toArray 0):=by rw [<-es];exact Heap.get?_push_size _ rfl
 have eL:(((s.heap.push (seqObj "list" #[] 0)).update s.heap.objs.size (Obj.mapSeq (·++us.toArray))).push (seqObj "list" us.toArray 0)).objs.size=s.heap.objs.size+2:=by rw [size_push',es]
 have k2:∀ b o,s.heap.get? b=some o->(((s.heap.push (seqObj "list" #[] 0)).update s.heap.objs.size (Obj.mapSeq (·++us.toArray))).push (seqObj "list" us.toArray 0)).get? b=some o:=fun b o e =>
  Heap.get?_push_of_some _ (by rw [Heap.get?_update_ne _ _ _ _ (Nat.ne_of_lt (Heap.lt_size e))];exact Heap.get?_push_of_some _ e)
 show wpAny _ _ _ _ _ { s with heap:=((s.heap.push (seqObj "list" #[] 0)).update s.heap.objs.size (Obj.mapSeq (·++us.toArray))).push (seqObj "list" us.toArray 0) }
 rw [es]
 generalize hh:((s.heap.push (seqObj "list" #[] 0)).update s.heap.objs.size (Obj.mapSeq (·++us.toArray))).push (seqObj "list" us.toArray 0)=h1 at gL eL k2
 refine wpAny_bind (wpAny_holding (wpAny_call_entry_kw slot_list_sort ⟨_,gL,rfl⟩ entry_list_sort ?_ (ksk_l1 _ _)))
 show wpAny (model X.prog X.w) X.A.in1.in1 (Builtin.«list.sort» ⟨[.ref (s.heap.objs.size+1)],[(Str.ofString "key",.ref f)]⟩) _ _ _
 rw [ksk_t1]
 unfold ksk_tree
 have ha:s.heap.objs.size<=s.heap.objs.size+1:=Nat.le_succ _
 have h0:X.s₀.heap.get? (s.heap.objs.size+1)=none:=Heap.get?_none_of_le (Nat.le_trans I.sz ha)
 have fa:FpOk X pins H (s.heap.objs.size+1):=I.fpOk ha (I.hok.fresh ha)
 have fk:FpOk X pins H (s.heap.objs.size+3):=I.fpOk (by omega) (I.hok.fresh (by omega))
 have ne:s.heap.objs.size+3≠s.heap.objs.size+1:=by omega
 have old:∀ b o,s.heap.get? b=some o->b≠s.heap.objs.size+1:=fun b o e=>Nat.ne_of_lt (Nat.lt_succ_of_lt (Heap.lt_size e))
 generalize s.heap.objs.size+1=a at gL fa ne old h0
 refine wpAny_bind (listItems_at gL rfl ?_)
 refine wpAny_bind (listUpdate_at gL rfl ?_ (by simpa using hz) (Nat.zero_le _))
 obtain⟨e1,g1⟩:∃ e1,(h1.update a (Obj.mapSeq fun _=>#[])).get? a=some (seqObj "list" #[] e1):=⟨_,get?_update_seq gL (fun _=>#[])⟩
 refine wpAny_bind (seqEpoch_at g1 rfl ?_)
 refine wpAny_bind (wpAny_newTuple ?_ (by simpa using hz))
 refine wpAny_bind (wpAny_newList ?_ (Nat.zero_le _))
 refine wpAny_holding ?_
 have eK:((h1.update a (Obj.mapSeq fun _=>#[])).push (seqObj "tuple" us.toArray 0)).objs.size=s.heap.objs.size+3:=by rw [size_push',Heap.size_update,eL]
 have gK:(((h1.update a (Obj.mapSeq fun _=>#[])).push (seqObj "tuple" us.toArray 0)).push (seqObj "list" #[] 0)).get? (s.heap.objs.size+3)=some (seqObj "list" #[] 0):=by rw [<-eK];exact Heap.get?_push_size _ rfl
 have gA:(((h1.update a (Obj.mapSeq fun _=>#[])).push (seqObj "tuple" us.toArray 0)).push (seqObj "list" #[] 0)).get? a=some (seqObj "list" #[] e1):=Heap.get?_push_of_some _ (Heap.get?_push_of_some _ g1)
 have I1:Inv X pins σ H { s with heap:=((h1.update a (Obj.mapSeq fun _=>#[])).push (seqObj "tuple" us.toArray 0)).push (seqObj "list" #[] 0),toks:=s.toks }:=I.kept fun b o e=>Heap.get?_push_of_some _ (Heap.get?_push_of_some _ (by rw [Heap.get?_update_ne _ _ _ _ (old b o e)];exact k2 b o e))
 show wpAny _ _ (ksk_rest a (.ref f) false us.toArray e1 (.ref ((h1.update a (Obj.mapSeq fun _=>#[])).push (seqObj "tuple" us.toArray 0)).objs.size)) _ _ { s with heap:=((h1.update a (Obj.mapSeq fun _=>#[])).push (seqObj "tuple" us.toArray 0)).push (seqObj "list" #[] 0) }
 rw [eK]
 refine sk_rest (kf:=kf) hu I1 rv rd hk fa fk ne gA gK h64 fun s' H' out c vs' ds' J sm fa' g rv' rd' pm pw=>⟨_,rfl,?_⟩
 refine wpAny_pure ⟨_,rfl,?_⟩
 have lv:vs'.length<=sizeLine:=by rw [<-rd'.length,pm.length_eq,rd.length,rv.length];exact hz
 have J2:=J.track (o:=.lst vs') fa'.1 h0 fa'.2.1 fa'.2.2.2.2.1 fa'.2.2.2.2.2 ⟨lv,out.toList,c,rv',g⟩
 exact hR a s' _ vs' ds' J2 (sm.trans (same_new fa'.1 _)) (sm.free fa'.1) upd_same (rd'.same (same_new fa'.1 _)) pm pw
end
def dSortK(rb:D->(D->Prop)->Prop)(ta:DTF):DTF:=fun σ Q=>ta σ fun ds=>match ds with
 | [.list xs]=>xs.length<64/\∃ kf:D->Int×List Int,(∀ x∈xs,rb x fun r=>r=kyD (kf x))/\∀ ys:List D,ys.Perm xs->ys.Pairwise (fun x y=>¬ kL (kf y)<kL (kf x))->Q ys
 | _=>False
section
variable {X:Cx}{a body:Expr}{ta:DTF}{tb:DTE}{p pos kp lp:Pos}{k:Nat}{P c:Addr}{q y:Str}{params:Arguments}{scope:Scope}{N:List Str}
theorem key_runW{pins:List (Addr×Obj)}{σ:St}{H:Hp}{f c':Addr}{oc:Obj}{u:HO}{pm ctv:Value}{x:V}{d kd:D}(hr:Room (k+3) X.A)(S:FnScope N [y] scope)
  (hbd:∀(pm cd ctv u:Value),bindArgs (PySem.W.kla_fn "<lambda>" q params body scope [] pm cd ctv) ⟨[u],[]⟩=pure [(y,u)])
  (hb:∀(A:Around) (outer:List Env) (s:Shared) (H:Hp) (E:XK) (f:Addr) (cd:Value),Room k (A.deeper (envOfC q scope s.heap.objs.size f cd))->DE (cxOf CX0 X.prog X.w X.K X.mg X.base N q scope f cd A outer s H E).nox body tb)
  (hc':H c'=some (.frz oc u)) (co:CodeO oc q) (rp:Rep X.K H d x) (hn:tb (startF N [.val d]) fun r=>r=kd) :
  KeyRunW X (pins ++ [(f,PySem.W.kla_obj "<lambda>" q params body scope [] pm c' ctv)]) σ f x H kd:=fun ps s1 H1 u1 I1 sm ru=>by
 have pf:=I1.pin (f,PySem.W.kla_obj "<lambda>" q params body scope [] pm c' ctv) (List.mem_append_right _ (List.mem_append_left _ (List.mem_append_right _ (.head _))))
 obtain⟨vs,tq,hd,hv⟩:=co
 obtain⟨g,_⟩:=(show ObjOk X.prog X.w H1 s1.heap c' (.frz oc u) from I1.hok c' _ (sm _ _ hc'))
 have run:=lam_run (k:=k) (N:=N) (ps:=[y]) (us:=[u1]) (vs:=[x]) (Q:=fun v H2=>Same H1 H2/\Rep X.K H2 kd v) (E:=E0) hr.in1.in1 I1.env0.in1.in1 pf.1 ⟨c',oc,vs,tq,rfl,g,hd,hv⟩ S (hbd _ _ _ _) rfl (.cons ru .nil)
  (hb _ _ _ _ _ _ _ (hr.in1.in1.deeper _)).pe ⟨H1,startF N [.val d],fun r=>r=kd,DOk.begin (.cons (show RepW X.K H1 (.val d) x from rp.same sm) .nil) N,hn,fun v H' d' sm' rp' e=>by subst e;exact⟨sm',rp'⟩⟩
 refine wpAny_call (codeAny_mono run fun r s' h=>?_)
 cases r with
 | error e=>exact False.elim h
 | ok fl =>
  cases fl with
  | ret u2 =>
   obtain⟨v,H2,J,rv,sm2,e⟩:=I1.after h
   exact⟨H2,v,rv,e,J,sm2⟩
  | next=>exact False.elim h
  | brk=>exact False.elim h
  | cont=>exact False.elim h
theorem df_sortK(hr:Room (k+3) X.A)(hg:Gl X "sorted")(hm:X.mg "sorted" = none)(ha:DAv X [a] ta)(hT:TabAt q P X.H₀)(C:PySem.W.CodeHd X.base c P)(hcode:X.env.code=.ref c)(hB:BltAt X.mg X.base)
  (hq:X.env.qual ++ "<lambda>" = q) (hcl:closureFor scope X.env=pure []) (hdf:defaultsOf params X.env=([],[])) (S:FnScope N [y] scope)
  (hbd:∀(pm cd ctv u:Value),bindArgs (PySem.W.kla_fn "<lambda>" q params body scope [] pm cd ctv) ⟨[u],[]⟩=pure [(y,u)])
  (hb:∀(A:Around) (outer:List Env) (s:Shared) (H:Hp) (E:XK) (f:Addr) (cd:Value),Room k (A.deeper (envOfC q scope s.heap.objs.size f cd))->DE (cxOf CX0 X.prog X.w X.K X.mg X.base N q scope f cd A outer s H E).nox body tb)
  (he:starEach [a] X.env=(false,eval a X.env)::starEach [] X.env:=by rfl) :
  DF X (.Call (.Name "sorted" p) [a] [⟨some (Str.ofString "key"),.Lambda params body scope lp,kp⟩] pos) (dSortK (fun x=>tb (startF N [.val x])) ta) :=
 ⟨fun pins s σ H H₀ σD Q I ok q0=>by
 refine wpAny_Call_Name_kw (ld_blt I hg hm boot_sorted ?_ (by decide) (by decide))
 refine callWith_kw (thn (ha.run pos pins s σ H H₀ σD _ I ok q0) fun us s1 ⟨vs,H1,ds,I1,r1,sm1,rp1,q1⟩=>?_) (by rw [he];rfl) (by rw [he];rfl)
 refine wpAny_evalAll_cons (wpAny_bind (PySem.W.kla_eval hdf ?_))
 rw [hq]
 refine lam_make I1 (I1.tabAt hT) C hcode hB hcl fun f c' oc u ctv H2 s2 I2 sm2 hc' co lf _ hf gf=>?_
 refine wpAny_bind (wpAny_standAt (wpAny_pure (wpAny_evalAll_nil ?_)))
 match ds,q1,rp1 with
 | [.list xs],q1,rp1 =>
  obtain⟨v',rfl,r⟩:=rp1.one
  obtain⟨h64,kf,k1,k3⟩:=q1
  obtain⟨u',rfl,ru⟩:=r1.one
  obtain⟨b,ws,rfl,hs,rs⟩:=r.list.sq
  cases ru
  have fp:=I1.fpOk (H':=H2) lf hf
  have I3:Inv X (pins ++ [(f,PySem.W.kla_obj "<lambda>" q params body scope [] ((X.mg "__name__").getD .none) c' ctv)]) σ H2 s2:=I2.pins_of fun z hz=>by
   rcases List.mem_append.mp hz with hz | hz
   ·exact I2.pin z (List.mem_append_right _ hz)
   ·rw [List.mem_singleton.mp hz]
    exact⟨gf,hf,fp.2.1,fp.2.2.1,fun v z=>by cases z⟩
  have rs2:=rs.same sm2
  obtain⟨its,rvs,pl,hz⟩:=I3.list (sm2.seq hs)
  obtain⟨o,ho,hc,n,hd⟩:=pl.isList
  refine sk_sorted (kf:=kf) (hr.in1.in1:Room (k+1) _).units0 I3 rvs rs2 (.inl rfl) ho hc hd (by rw [<-rvs.length,<-rs2.length];exact h64) (fun i x d hx hd=>?_) fun a' s' H' vs' ds' J sm hn e rd' pm pw=>?_
  ·obtain⟨d',hd',rd⟩:=rs2.get' hx
   rw [hd] at hd'
   cases hd'
   exact key_runW hr S hbd hb hc' co rd (k1 d (List.mem_of_getElem? hd))
  ·exact⟨a',H',vs',ds',rfl,J.unpinned,sm1.trans (sm2.trans sm),sm1.free (sm2.free hn),e,rd',k3 ds' pm pw⟩⟩
end
end L2
namespace PySem.AutoSeq1
open PySem.MeetsSeq PySem.MeetsSeq2 PySem.MeetsSeq3
theorem list_extend_any(l:Addr)(items:Array Value)(n:Nat)(b:Addr)(items2:Array Value)(n2:Nat)(sl:Array (Option Value))(hc0:¬(!items.isEmpty && Builtin.List.listTooLong (items.size+items2.size))=true)(hc1:items.size<=sizeLine)(hs2:items.size+items2.size<=sizeLine+1):
  Meets (Builtin.«list.extend» ⟨[.ref l,.ref b],[]⟩) (fun _ R s=>s.heap.get? l=some { cls:=.type "list",dict:=none,data:=.seq items n,slots:=#[] }/\s.heap.get? b=some { cls:=.type "list",dict:=none,data:=.seq items2 n2,slots:=sl }/\R (.ok (.ret Value.none)) { s with heap:=s.heap.update l (Obj.mapSeq fun x=>x++items2),toks:=s.toks }) :=
 .of_wp fun prog w A R s h=>by
  obtain⟨hp,g,d,tk,os⟩:=s;obtain⟨hl,hb,h⟩:=h;have f1:=idx_int;have f2:=sub_tuple_tuple;have f3:=sub_list_list;have f4:=sub_tuple_list;have f5:=sub_list_tuple;
  have hz':(items++items2).size<=sizeLine+1:=by rw [Array.size_append];exact hs2
  wp_walk using (wpAny_updateSeq hl rfl (hz:=hc1) (_hz':=hz')),wpAny_loadPart' hl,wpAny_loadPart' hb;exact⟨_,rfl,h⟩
end PySem.AutoSeq1
namespace L2
open PySem PySem.Spec PyProof.Rows
section
variable {X:Cx}{e:Expr}{te:DTE}{pos:Pos}
def rExtendV(K:PySem.W.Frag):V->List V->Hp->VK->Prop:=fun x vs H Q=>∃ l b xs zs,x=.ref l/\vs = [.ref b]/\H l=some (.lst xs)/\SqL K H b zs/\xs.length+zs.length<=sizeLine/\Q .non (upd H l (.lst (xs++zs)))
theorem mt_extendV:MtM X "list.extend" (rExtendV X.K):=by
 intro pins s σ H x vs v us Q I rx rv h
 obtain⟨l,b,xs,zs,rfl,rfl,hH,hB,hz,q⟩:=h
 cases rx
 obtain⟨u,rfl,ru⟩:=rv.one
 cases ru
 obtain⟨z,its,n,r,hl,e⟩:=I.lstM hH
 obtain⟨its2,r2,⟨⟨cls,dd,dat,sl⟩,n2,e2,hc,hd,hs⟩,z2⟩:=I.list hB
 simp only at hc hd hs
 subst hc hd hs
 have hl2:=r2.length
 have hsz:its.toArray.size+its2.toArray.size<=sizeLine:=by rw [List.size_toArray,List.size_toArray];omega
 have hlong:¬ (!its.toArray.isEmpty && Builtin.List.listTooLong (its.toArray.size+its2.toArray.size))=true:=by
  rw [notLongL hsz,Bool.and_false]
  exact Bool.false_ne_true
 refine call_meets F.slot_list_extend ⟨_,e,rfl⟩ F.entry_list_extend (F.args_list_extend_2 _ _)
  (AutoSeq1.list_extend_any l its.toArray n b its2.toArray n2 sl hlong (by rw [List.size_toArray];omega) (by omega)) ⟨e,e2,?_⟩
 refine⟨.non,_,I.lset (its':=its++its2) hH e (by simp) (r.append r2) ?_,rfl,q⟩
 rw [List.length_append]
 omega
def dExtV(i:Nat)(te:DTE):DTS:=fun Dn σ=>match σ[i]? with
 | some (some (.own (.lst xs)))=>te σ fun d=>match d with
  | .list ys=>xs.length+ys.length<=sizeLine/\Dn.nx (clr (σ.set i (some (.own (.lst (xs++ys))))))
  | _=>False
 | _=>False
theorem ds_extendV(i:Nat){x:Str}{p1 apos cpos:Pos}(he:DE X e te)(hN:X.N[i]?=some x:=by rfl)(hv:Vis X.env.scope x:=by first | exact Or.inl rfl | exact Or.inr (Or.inl rfl) | exact Or.inr (Or.inr rfl))(hd:(x == ("__debug__" : Str))=false:=by decide)
  (hcd:(x == ("__classdict__" : Str))=false:=by decide)
  (hbase:attributeBase (.Name x p1) "extend" X.env (eval (.Name x p1) X.env)=eval (.Name x p1) X.env:=by rfl)
  (hfew:((backTo cpos (starEach (e :: []) X.env)).all (fun x=>!x.1) && (backToKw cpos (keywordEach [] X.env)).all (fun x=>x.1.isSome)
   && decide ((e :: []).length+([]:List Keyword).length+(if ([]:List Keyword).isEmpty then 0 else 1)<30))=true:=by rfl)
  (hline:(apos.endLine == cpos.line)=true:=by rfl) (hst:starEach (e :: []) X.env=(false,eval e X.env)::starEach [] X.env:=by rfl) (hplain:(backTo cpos (starEach [] X.env)).any (·.1)=false:=by rfl)
  (hs:swapsWith (.Call (.Attribute (.Name x p1) "extend" apos) [e] [] cpos) none pos.line X.env=pure false:=by rfl):DS X (.Expr (.Call (.Attribute (.Name x p1) "extend" apos) [e] [] cpos) pos) (dExtV i te) :=
 DS.of (ps_expr (pe_bm PySem.F.plainAttrs_list PySem.F.slot_list_extend PySem.F.type_list_extend mt_extendV (pe_var (i:=i) hN hv hd hcd) (pa_cons he.pe pa_nil hst) hbase hfew hline hst hplain) hs) fun σ H H₀ σD Dn ok q=>by
  unfold dExtV at q
  split at q
  ·next xs eo =>
   obtain⟨a,vs,e1,e2,r,n⟩:=ok.ownL eo
   refine⟨.ref a,e1,.inl ⟨rfl,vs,SqL.of e2⟩,H₀,σD,_,ok,q,fun v H1 d s1 rd q1=>?_⟩
   split at q1
   ·next ys =>
    obtain⟨b,zs,rfl,hs,r1⟩:=(show RepT X.K H1 (.list ys) v from .inl rd).list.sq
    refine⟨a,b,vs,zs,rfl,rfl,s1 _ _ e2,hs,by rw [<-r.length,<-r1.length];exact q1.1,_,(ok.after s1).write eo e1 (s1 _ _ e2) ((r.same s1).append r1),s1.pers.trans (upd_pers (s1 _ _ e2) rfl),q1.2⟩
   ·exact q1.elim
  ·exact q.elim
end
end L2
namespace My
open PySem L2 PyProof.Rows
def top(i:Nat):Stmt:=PySem.Challenge.pw_knockpurse_k87_calm_rows.main.body.getD i (.Pass ⟨0,0,0,0⟩)
abbrev s_is_whole:Stmt:=top 4
theorem sc_is_whole:FnScope ["thing"] ["thing"] (defScope s_is_whole):=⟨rfl,rfl,rfl,by decide +kernel,rfl,by decide +kernel,by decide +kernel⟩
abbrev s_whole_in:Stmt:=top 5
theorem sc_whole_in:FnScope ["thing", "least", "most"] ["thing", "least", "most"] (defScope s_whole_in):=⟨rfl,rfl,rfl,by decide +kernel,rfl,by decide +kernel,by decide +kernel⟩
abbrev s_most_down:Stmt:=top 7
theorem sc_most_down:FnScope ["row", "many", "gaps", "knocks", "time"] ["row"] (defScope s_most_down):=⟨rfl,rfl,rfl,by decide +kernel,rfl,by decide +kernel,by decide +kernel⟩
abbrev s_places_good:Stmt:=top 8
theorem sc_places_good:FnScope ["row", "thing"] ["row", "thing"] (defScope s_places_good):=⟨rfl,rfl,rfl,by decide +kernel,rfl,by decide +kernel,by decide +kernel⟩
abbrev s_once_at:Stmt:=top 9
theorem sc_once_at:FnScope ["row", "places"] ["row", "places"] (defScope s_once_at):=⟨rfl,rfl,rfl,by decide +kernel,rfl,by decide +kernel,by decide +kernel⟩
abbrev s_all_places:Stmt:=top 10
theorem sc_all_places:FnScope ["many", "chosen", "place"] ["many"] (defScope s_all_places):=⟨rfl,rfl,rfl,by decide +kernel,rfl,by decide +kernel,by decide +kernel⟩
abbrev s_calm_row:Stmt:=top 11
theorem sc_calm_row:FnScope ["row", "most", "chosen", "places"] ["row", "most"] (defScope s_calm_row):=⟨rfl,rfl,rfl,by decide +kernel,rfl,by decide +kernel,by decide +kernel⟩
abbrev s__law_cell_at:Stmt:=top 13
theorem sc__law_cell_at:FnScope ["_law_script", "_law_k"] ["_law_script", "_law_k"] (defScope s__law_cell_at):=⟨rfl,rfl,rfl,by decide +kernel,rfl,by decide +kernel,by decide +kernel⟩
abbrev s__law_next:Stmt:=top 14
theorem sc__law_next:FnScope ["_law_seed"] ["_law_seed"] (defScope s__law_next):=⟨rfl,rfl,rfl,by decide +kernel,rfl,by decide +kernel,by decide +kernel⟩
abbrev s__law_pen_of:Stmt:=top 15
theorem sc__law_pen_of:FnScope ["_law_cell", "_law_left"] ["_law_cell"] (defScope s__law_pen_of):=⟨rfl,rfl,rfl,by decide +kernel,rfl,by decide +kernel,by decide +kernel⟩
abbrev s__law_draw:Stmt:=top 16
theorem sc__law_draw:FnScope ["_law_pen", "_law_many", "_law_found"] ["_law_pen", "_law_many"] (defScope s__law_draw):=⟨rfl,rfl,rfl,by decide +kernel,rfl,by decide +kernel,by decide +kernel⟩
abbrev s__law_whole:Stmt:=top 17
theorem sc__law_whole:FnScope ["_law_found"] ["_law_found"] (defScope s__law_whole):=⟨rfl,rfl,rfl,by decide +kernel,rfl,by decide +kernel,by decide +kernel⟩
abbrev s__law_plan:Stmt:=top 19
theorem sc__law_plan:FnScope ["_law_pen", "_law_mode", "_law_wide", "_law_far", "_law_gaps", "_law_knocks"] ["_law_pen"] (defScope s__law_plan):=⟨rfl,rfl,rfl,by decide +kernel,rfl,by decide +kernel,by decide +kernel⟩
abbrev s__law_house:Stmt:=top 20
theorem sc__law_house:FnScope ["_law_pen", "_law_mode"] ["_law_pen"] (defScope s__law_house):=⟨rfl,rfl,rfl,by decide +kernel,rfl,by decide +kernel,by decide +kernel⟩
abbrev s__law_all:Stmt:=top 23
theorem sc__law_all:FnScope ["_law_many", "_law_found", "_law_size", "_law_some", "_law_turn", "_law_longer", "_law_one"] ["_law_many"] (defScope s__law_all):=⟨rfl,rfl,rfl,by decide +kernel,rfl,by decide +kernel,by decide +kernel⟩
abbrev s__law_most:Stmt:=top 24
theorem sc__law_most:FnScope ["_law_row_here", "_law_places", "_law_found", "_law_at", "_law_plan_here"] ["_law_row_here", "_law_places"] (defScope s__law_most):=⟨rfl,rfl,rfl,by decide +kernel,rfl,by decide +kernel,by decide +kernel⟩
abbrev s_law:Stmt:=top 25
theorem sc_law:FnScope ["_law_script", "_law_cell", "_law_pen", "_law_row_here", "_law_some", "_law_near", "_law_number", "_law_due", "_law_told", "_law_calm"] ["_law_script"] (defScope s_law):=⟨rfl,rfl,rfl,by decide +kernel,rfl,by decide +kernel,by decide +kernel⟩
structure Blt(mg:Str->Option Value):Prop where
 len:mg "len" = none
 range:mg "range" = none
 enumerate:mg "enumerate" = none
 max:mg "max" = none
 repr:mg "repr" = none
 isinstance:mg "isinstance" = none
 all:mg "all" = none
 zip:mg "zip" = none
 sorted:mg "sorted" = none
 tupleT:mg "tuple" = none
 intT:mg "int" = none
 boolT:mg "bool" = none
abbrev Cal(P:Program)(w:World)(K:PySem.W.Frag)(mg:Str->Option Value)(base:Heap):=Callee P w K mg base
local macro_rules | `(tactic| walk_at "dr")=>`(tactic| dsimp only [↓dSeq,↓dNext,↓dSet,↓dSetO,↓dSetP,↓dPar3,↓dSortK,↓dExtV,↓dAugM,↓dIf,↓dFor,↓dRet,↓dRetF,↓dRetO,↓dFrz,↓dBreak,↓dNever,↓dVar,↓dOwn,↓dNowV,↓dC,↓dCons,↓dNil,↓dpNil,↓dpVal,↓dpVw,↓dTup,↓dLst,↓dFz,↓dTB,↓onB,↓dOr,↓dNot,↓dTru,↓truD,↓dAndV,↓dIfE,↓dOp,↓dChain,↓dUn,↓gNeg,↓gNot,↓gII,↓gII0,↓gCat,↓gRep,↓gAdd,↓gMul,↓gEq,↓gNe,↓gIn,↓dCB,↓gLen,↓gMax,↓gInt,↓gTuple,↓gIx,↓dPart,↓dNoPart,↓dSl,↓dScrSl,↓dScrLen,↓dScrIx,↓dSeqI,↓dRange1,↓dZip,↓dEnumX,↓dgName,↓dgNil,↓dgCons,↓dgTup,↓dgSeq,↓dLC,↓lcF,↓dTrue,↓dCall,↓dCallF,↓Ret.d,↓startF,↓startD,↓seenW,↓clr,↓clrS,↓dIs,↓isD,↓dReprA,↓gAll,↓dExt,List.map_cons,List.map_nil,List.length_cons,List.length_nil,List.replicate_succ,List.replicate_zero,List.cons_append,List.nil_append,List.append_nil,List.set_cons_zero,List.set_cons_succ,List.getElem?_cons_zero,List.getElem?_cons_succ,Option.join_some,Nat.reduceAdd,Nat.reduceSub,Nat.zero_add,Bool.not_true,Bool.not_false])
local macro_rules | `(tactic| walk_at "ds")=>`(tactic| first | simp only [↓dSeq,↓dNext,↓dSet,↓dSetO,↓dSetP,↓dPar3,↓dSortK,↓dExtV,↓dAugM,↓dIf,↓dFor,↓dRet,↓dRetF,↓dRetO,↓dFrz,↓dBreak,↓dNever,↓dVar,↓dOwn,↓dNowV,↓dC,↓dCons,↓dNil,↓dpNil,↓dpVal,↓dpVw,↓dTup,↓dLst,↓dFz,↓dTB,↓onB,↓dOr,↓dNot,↓dTru,↓truD,↓dAndV,↓dIfE,↓dOp,↓dChain,↓dUn,↓gNeg,↓gNot,↓gII,↓gII0,↓gCat,↓gRep,↓gAdd,↓gMul,↓gEq,↓gNe,↓gIn,↓dCB,↓gLen,↓gMax,↓gInt,↓gTuple,↓gIx,↓dPart,↓dNoPart,↓dSl,↓dScrSl,↓dScrLen,↓dScrIx,↓dSeqI,↓dRange1,↓dZip,↓dEnumX,↓dgName,↓dgNil,↓dgCons,↓dgTup,↓dgSeq,↓dLC,↓lcF,↓dTrue,↓dCall,↓dCallF,↓Ret.d,↓startF,↓startD,↓seenW,↓clr,↓clrS,↓dIs,↓isD,↓dReprA,↓gAll,↓dExt,List.map_cons,List.map_nil,List.length_cons,List.length_nil,List.replicate_succ,List.replicate_zero,List.cons_append,List.nil_append,List.append_nil,List.set_cons_zero,List.set_cons_succ,List.getElem?_cons_zero,List.getElem?_cons_succ,Option.join_some,Nat.reduceAdd,Nat.reduceSub,Nat.zero_add,Bool.not_true,Bool.not_false,if_true,if_false,reduceIte,decide_eq_true_eq,Bool.not_eq_true',decide_eq_false_iff_not,true_and,and_true,Bool.false_eq_true,Bool.not_eq_eq_eq_not,eq_self,and_self,List.isEmpty_nil,List.isEmpty_cons,reduceCtorEq,sizeLine_eq,Nat.reduceLeDiff,Nat.zero_le] | skip)
section
variable {P:Program}{w:World}{K:PySem.W.Frag}{mg:Str->Option Value}{base:Heap}{f:Addr}{fd:FuncData}
def sp__law_cell_at:DSp:=fun ws Q=>∃(ns:List Int) (k:Int),ws = [.scr ns,.val (.int k)]/\0<=k/\∀ v:Int,Q (.val (.int v))
theorem ok__law_cell_at(B:Blt mg)(F:Fun K "_law_cell_at" "_law_cell_at" s__law_cell_at f fd):FnOk P w K mg base CX0 1 f fd ["_law_script", "_law_k"] (cnSp K sp__law_cell_at):=by
 refine F.dok sc__law_cell_at (fun ws Q h=>?_) (fun cdv A outer s H ws Q E hr h=>?_)
 ·obtain⟨ns,k,rfl,_⟩:=h
  rfl
 obtain⟨ns,k,rfl,h0,q⟩:=h
 refine⟨_,(dss_cons (ds_if (dt_cmp o_lt (dv_own 1) (DE.dv (de_scrLen 0 rfl B.len)) (nomark _)) (dss_one (ds_ret (de_scrIx 0 (de_var 1) (fun _ _=>rfl)))) dss_nil) (dss_one (ds_ret de_int))),?_⟩
 walk_at "ds"
 split
 ·next c =>
  obtain⟨v,e,_⟩:=atI_ex (xs:=ns) h0 c
  exact⟨v,e,q v⟩
 ·exact q 0
def sp__law_next:DSp:=fun ws Q=>∃ k:Int,ws = [.val (.int k)]/\∀ v:Int,Q (.val (.int v))
theorem ok__law_next(B:Blt mg)(F:Fun K "_law_next" "_law_next" s__law_next f fd):FnOk P w K mg base CX0 1 f fd ["_law_seed"] (cnSp K sp__law_next):=by
 refine F.dok sc__law_next (fun ws Q h=>?_) (fun cdv A outer s H ws Q E hr h=>?_)
 ·obtain⟨k,rfl,_⟩:=h
  rfl
 obtain⟨k,rfl,q⟩:=h
 refine⟨_,(dss_cons (ds_set (i:=0) sc__law_next.nd rfl (Or.inl rfl) (de_op o_mod (DE.dv (de_op o_add (dv_own 0) (DE.dv de_int))) (DE.dv de_int))) (dss_one (ds_ret (de_op o_mod (DE.dv (de_op o_add (DE.dv (de_op o_add (DE.dv (de_op o_mul (dv_own 0) (dv_own 0))) (DE.dv (de_op o_mul (DE.dv de_int) (dv_own 0))))) (DE.dv de_int))) (DE.dv de_int))))),?_⟩
 walk_at "ds"
 have h1:0<=(k+7919) % 2147483647:=Int.emod_nonneg _ (by decide)
 have h2:(k+7919) % 2147483647<2147483647:=Int.emod_lt_of_pos _ (by decide)
 exact⟨by decide,.inl ⟨by omega,by omega⟩,.inl ⟨by omega,by omega⟩,by decide,q _⟩
def sp__law_pen_of:DSp:=fun ws Q=>∃ k:Int,ws = [.val (.int k)]/\∀ a b c:Int,Q (.new [.int a,.int b,.int c])
theorem ok__law_pen_of(B:Blt mg)(F:Fun K "_law_pen_of" "_law_pen_of" s__law_pen_of f fd):FnOk P w K mg base CX0 1 f fd ["_law_cell"] (cnSp K sp__law_pen_of):=by
 refine F.dok sc__law_pen_of (fun ws Q h=>?_) (fun cdv A outer s H ws Q E hr h=>?_)
 ·obtain⟨k,rfl,_⟩:=h
  rfl
 obtain⟨k,rfl,q⟩:=h
 refine⟨_,(dss_cons (ds_set (i:=1) sc__law_pen_of.nd rfl (Or.inl rfl) (de_callB (c_max rfl) rfl B.max boot_max (dav_cons (dv_own 0) (dav_cons (DE.dv (de_op o_sub (DE.dv de_int) (dv_own 0))) dav_nil)))) (dss_one (ds_retF (df_lst (da_cons (de_var 1) (da_cons (de_callTy c_int rfl B.intT boot_int (dav_cons (DE.dv (de_cmp o_ge (dv_own 1) (DE.dv (de_op o_pow (DE.dv de_int) (DE.dv de_int))) (nomark _))) dav_nil)) (da_cons (de_op o_mod (dv_own 1) (DE.dv de_int)) da_nil))))))),?_⟩
 walk_at "ds"
 exact⟨⟨by decide,by decide,by decide⟩,by decide,q _ _ _⟩
def sp_nextH:Sp:=fun vs H Q _=>∃ k:Int,vs = [.int k]/\∀(v:Int) H',Same H H'->Q (.int v) H'
theorem next_H{k:Nat}{x:Str}{ps:List Str}(C:Cal P w K mg base k x ps (cnSp K sp__law_next)):Cal P w K mg base k x ps sp_nextH:=by
 obtain⟨f,fd,F,r⟩:=C
 refine⟨f,fd,F.imp fun vs H Q E h=>?_,r⟩
 obtain⟨k,rfl,q⟩:=h
 exact⟨[.val (.int k)],fun r=>∃ i:Int,r=.val (.int i),.cons (show Rep K H (.int k) _ from .int) .nil,⟨k,rfl,fun v=>⟨v,rfl⟩⟩,fun v H' r sm rp ⟨i,e⟩=>by subst e;cases (show Rep K H' (.int i) v from rp);exact q i H' sm⟩
theorem ok__law_draw(B:Blt mg)(F:Fun K "_law_draw" "_law_draw" s__law_draw f fd)(Cd:Cal P w K mg base 1 "_law_next" ["_law_seed"] (cnSp K sp__law_next)):FnOk P w K mg base CX0 2 f fd ["_law_pen", "_law_many"] (cnSp K sp__law_draw):=by
 have C__law_next:=next_H Cd
 refine pen_fn (F.ok sc__law_draw (fun vs H Q E h=>?_) (fun cdv A outer s H vs Q E hr h=>?_))
 ·obtain⟨p,m,rfl,_⟩:=h
  rfl
 obtain⟨p,m,rfl,hm,hM,⟨a,b,c,hp⟩,q⟩:=h
 refine⟨_,(pss_cons (ps_if (pw_pt (pw_and (pt_cmpR op_eq (pe_ix ix_list (pv 0) pe_int (fun _ _=>rfl)) pe_int (nomark _)) (pw_and1 (pt_cmpR op_gt (pe_ix ix_list (pv 0) pe_int (fun _ _=>rfl)) pe_int (nomark _))))) (pss_cons (ps_set (i:=2) sc__law_draw.nd rfl (Or.inl rfl) (pe_op op_mod (pe_ix ix_list (pv 0) pe_int (fun _ _=>rfl)) (pv 1))) (pss_cons (ps_asg (pe_op op_fdivW (pe_ix ix_list (pv 0) pe_int (fun _ _=>rfl)) (pv 1)) (pg_sub (pv 0) pe_int set_list)) (pss_one (ps_ret (pv 2))))) pss_nil) (pss_cons (ps_asg (pe_callC C__law_next hr rfl (pa_cons (pe_op op_add (pe_callC C__law_next hr rfl (pa_cons (pe_ix ix_list (pv 0) pe_int (fun _ _=>rfl)) pa_nil)) pe_int) pa_nil)) (pg_sub (pv 0) pe_int set_list)) (pss_one (ps_ret (pe_op op_mod (pe_op op_fdivW (pe_ix ix_list (pv 0) pe_int (fun _ _=>rfl)) pe_int) (pv 1)))))),?_⟩
 have hS:SqL K H p [.int a,.int b,.int c]:=SqL.of hp
 refine⟨_,rfl,p,_,_,_,rfl,rfl,hS,rfl,rfl,_,rfl,?_⟩
 refine ite2 (fun c1=>?_) (fun c1=>?_)
 ·refine⟨_,rfl,p,_,_,_,rfl,rfl,hS,rfl,_,_,rfl,rfl,_,rfl,?_⟩
  refine ite2 (fun c2=>?_) (fun c2=>?_)
  ·refine⟨_,rfl,p,_,_,_,rfl,rfl,hS,rfl,_,rfl,_,_,rfl,rfl,hm,?_⟩
   refine⟨_,rfl,p,_,_,_,rfl,rfl,hS,rfl,_,rfl,_,_,rfl,rfl,⟨hm,hM⟩,?_⟩
   refine⟨_,rfl,p,_,_,_,rfl,rfl,hp,rfl,?_⟩
   exact⟨_,rfl,q _ _ (Int.emod_nonneg _ (by omega)) (Int.emod_lt_of_pos _ hm) ⟨a / m,b,c,upd_same⟩ But.write⟩
  ·refine⟨_,rfl,p,_,_,_,rfl,rfl,hS,rfl,_,rfl,fun v1 H1 s1=>⟨_,_,rfl,rfl,_,rfl,fun v2 H2 s2=>⟨_,rfl,p,_,_,_,rfl,rfl,s2 _ _ (s1 _ _ hp),rfl,?_⟩⟩⟩
   refine⟨_,rfl,p,_,_,_,rfl,rfl,SqL.of upd_same,rfl,_,_,rfl,rfl,⟨by decide,by decide⟩,_,rfl,_,_,rfl,rfl,hm,?_⟩
   exact q _ _ (Int.emod_nonneg _ (by omega)) (Int.emod_lt_of_pos _ hm) ⟨a,b,v2,upd_same⟩ ((But.of_same (s1.trans s2)).trans But.write)
 ·refine iteF ?_
  refine⟨_,rfl,p,_,_,_,rfl,rfl,hS,rfl,_,rfl,fun v1 H1 s1=>⟨_,_,rfl,rfl,_,rfl,fun v2 H2 s2=>⟨_,rfl,p,_,_,_,rfl,rfl,s2 _ _ (s1 _ _ hp),rfl,?_⟩⟩⟩
  refine⟨_,rfl,p,_,_,_,rfl,rfl,SqL.of upd_same,rfl,_,_,rfl,rfl,⟨by decide,by decide⟩,_,rfl,_,_,rfl,rfl,hm,?_⟩
  exact q _ _ (Int.emod_nonneg _ (by omega)) (Int.emod_lt_of_pos _ hm) ⟨a,b,v2,upd_same⟩ ((But.of_same (s1.trans s2)).trans But.write)
def sp_law:DSp:=fun ws Q=>∃ ns:List Int,ws = [.scr ns]/\ns.length<=63/\Q (.val (.bool true))
structure Gp where
 f:Int
 t:Int
 m:Int
 k:Int
def Gp.D(g:Gp):D:=.tuple [.int g.f,.int g.t,.int g.m,.int g.k]
structure Gp.Ok(g:Gp):Prop where
 f1:1<=g.f
 f2:g.f<=1000
 t1:1<=g.t
 t2:g.t<=10
 m1:0<=g.m
 m2:g.m<=1000
 k1:1<=g.k
 k2:g.k<=1000
def gp(g:Gp):Nat->Int
 | 0=>min g.f g.k
 | n+1=>min (g.t * gp g n+g.m) g.k
def gpL(g:Gp)(n:Nat):List Int:=(List.range n).map (gp g)
theorem atI_end{α:Type}(xs:List α)(x:α):atI (xs ++ [x]) (-1)=some x:=atI_last xs x
theorem cmul_small{a b:Int}(h1:0<=a)(h2:a<=1000000000)(h3:0<=b)(h4:b<=1000000000):CMul a b:=.inl ⟨by omega,by omega⟩
end
section
variable {P:Program}{w:World}{K:PySem.W.Frag}{mg:Str->Option Value}{base:Heap}{f:Addr}{fd:FuncData}
structure Pl where
 g:Gp
 n:Int
 t:Int
def Pl.D(p:Pl):D:=.tuple [p.g.D,.int p.n,.int p.t]
structure Pl.Ok(p:Pl):Prop where
 g:p.g.Ok
 n1:1<=p.n
 n2:p.n<=200
 t1:0<=p.t
 t2:p.t<=400000
def knL(lim:Int):List Int->Int->List Int
 | [],_=>[]
 | x::xs,b=>if lim<b+x then [] else (b+x)::knL lim xs (b+x)
def kn(p:Pl)(b:Int):List Int:=b::knL (b+p.t) (gpL p.g (p.n.toNat-1)) b
def whB:D->Bool
 | .int _=>true
 | _=>false
def inB(lo hi:Int):D->Bool
 | .int i=>decide (lo<=i/\i<=hi)
 | _=>false
def sp_is_whole:DSp:=fun ws Q=>∃ d:D,ws = [.val d]/\Q (.val (.bool (whB d)))
theorem ok_is_whole(B:Blt mg)(F:Fun K "is_whole" "is_whole" s_is_whole f fd):FnOk P w K mg base CX0 1 f fd ["thing"] (cnSp K sp_is_whole):=by
 refine F.dok sc_is_whole (fun ws Q h=>?_) (fun cdv A outer s H ws Q E hr h=>?_)
 ·obtain⟨d,rfl,_⟩:=h
  rfl
 obtain⟨d,rfl,q⟩:=h
 refine⟨_,(dss_one (ds_ret (de_and (de_isT (n := "int") k_int rfl B.isinstance boot_isinstance (dv_own 0) rfl B.intT boot_int) (de_one (de_not (de_isT (n := "bool") k_bool rfl B.isinstance boot_isinstance (dv_own 0) rfl B.boolT boot_bool)))))),?_⟩
 walk_at "ds"
 cases d <;> exact q
def sp_whole_in:DSp:=fun ws Q=>∃(d:D) (lo hi:Int),ws = [.val d,.val (.int lo),.val (.int hi)]/\Q (.val (.bool (inB lo hi d)))
theorem ok_whole_in(B:Blt mg)(F:Fun K "whole_in" "whole_in" s_whole_in f fd)(C_is_whole:Cal P w K mg base 1 "is_whole" ["thing"] (cnSp K sp_is_whole)):FnOk P w K mg base CX0 2 f fd ["thing", "least", "most"] (cnSp K sp_whole_in):=by
 refine F.dok sc_whole_in (fun ws Q h=>?_) (fun cdv A outer s H ws Q E hr h=>?_)
 ·obtain⟨d,lo,hi,rfl,_⟩:=h
  rfl
 obtain⟨d,lo,hi,rfl,q⟩:=h
 refine⟨_,(dss_one (ds_ret (de_and (de_call C_is_whole hr rfl (dp_vw 0 dp_nil)) (de_one (de_chain o_le o_le (dv_own 1) (dv_own 0) (dv_own 2)))))),?_⟩
 walk_at "ds"
 refine⟨d,rfl,?_⟩
 cases d with
 | int i =>
  simp only [whB]
  walk_at "ds"
  split
  ·next c=>simpa [inB,c] using q
  ·next c=>simpa [inB,c] using q
 | _=>simp only [whB];walk_at "ds";exact q
def sp__law_whole:DSp:=fun ws Q=>∃ d:D,ws = [.val d]/\Q (.val (.bool (match d with | .int _=>true | _=>false)))
theorem ok__law_whole(B:Blt mg)(F:Fun K "_law_whole" "_law_whole" s__law_whole f fd):FnOk P w K mg base CX0 1 f fd ["_law_found"] (cnSp K sp__law_whole):=by
 refine F.dok sc__law_whole (fun ws Q h=>?_) (fun cdv A outer s H ws Q E hr h=>?_)
 ·obtain⟨d,rfl,_⟩:=h
  rfl
 obtain⟨d,rfl,q⟩:=h
 refine⟨_,(dss_one (ds_ret (de_and (de_isT (n := "int") k_int rfl B.isinstance boot_isinstance (dv_own 0) rfl B.intT boot_int) (de_one (de_not (de_isT (n := "bool") k_bool rfl B.isinstance boot_isinstance (dv_own 0) rfl B.boolT boot_bool)))))),?_⟩
 walk_at "ds"
 cases d <;> exact q
def sp__law_plan:DSp:=fun ws Q=>ws = [.pen]/\∀ p:Pl,p.Ok->p.n<=6->Q (.val p.D)
theorem ok__law_plan(B:Blt mg)(F:Fun K "_law_plan" "_law_plan" s__law_plan f fd)(C__law_draw:Cal P w K mg base 2 "_law_draw" ["_law_pen", "_law_many"] (cnSp K sp__law_draw)):FnOk P w K mg base CX0 3 f fd ["_law_pen"] (cnSp K sp__law_plan):=by
 refine F.dok sc__law_plan (fun ws Q h=>?_) (fun cdv A outer s H ws Q E hr h=>?_)
 ·obtain⟨rfl,_⟩:=h
  rfl
 obtain⟨rfl,q⟩:=h
 refine⟨_,(dss_cons (ds_par3 (i:=1) (j:=2) (k:=3) rfl sc__law_plan.nd rfl rfl rfl (by decide) (by decide) (by decide) rfl rfl rfl (da_cons (de_call C__law_draw hr rfl (dp_vw 0 (dp_val de_int dp_nil sE_C))) (da_cons (de_call C__law_draw hr rfl (dp_vw 0 (dp_val de_int dp_nil sE_C))) (da_cons (de_call C__law_draw hr rfl (dp_vw 0 (dp_val de_int dp_nil sE_C))) da_nil))) rfl) (dss_cons (ds_set (i:=4) sc__law_plan.nd rfl (Or.inl rfl) (de_tup (da_cons (de_op o_add (DE.dv de_int) (DE.dv (de_call C__law_draw hr rfl (dp_vw 0 (dp_val de_int dp_nil sE_C))))) (da_cons (de_op o_add (DE.dv de_int) (DE.dv (de_call C__law_draw hr rfl (dp_vw 0 (dp_val de_int dp_nil sE_C))))) (da_cons (de_call C__law_draw hr rfl (dp_vw 0 (dp_val de_int dp_nil sE_C))) (da_cons (de_op o_add (DE.dv de_int) (DE.dv (de_call C__law_draw hr rfl (dp_vw 0 (dp_val de_int dp_nil sE_C))))) da_nil)))))) (dss_cons (ds_set (i:=5) sc__law_plan.nd rfl (Or.inl rfl) (de_ix (DE.dv (DF.de (df_lst (da_cons de_int (da_cons de_int (da_cons (de_op o_add (DE.dv de_int) (DE.dv (de_call C__law_draw hr rfl (dp_vw 0 (dp_val de_int dp_nil sE_C))))) (da_cons de_int da_nil sE_C)) sE_C) sE_C)))) (de_var 1) (fun _ _=>rfl))) (dss_one (ds_ret (de_tup (da_cons (de_var 4) (da_cons (de_var 5) (da_cons (de_ix (DE.dv (DF.de (df_lst (da_cons de_int (da_cons (de_call C__law_draw hr rfl (dp_vw 0 (dp_val de_int dp_nil sE_C))) (da_cons (de_call C__law_draw hr rfl (dp_vw 0 (dp_val de_int dp_nil sE_C))) (da_cons (de_var 3) da_nil))) sE_C)))) (de_var 2) (fun _ _=>rfl)) da_nil))))))))),?_⟩
 walk_at "ds"
 refine drawI (by first | decide | omega) (by first | decide | omega) fun a la ha=>?_
 walk_at "ds"
 refine drawI (by first | decide | omega) (by first | decide | omega) fun b lb hb=>?_
 walk_at "ds"
 refine drawI (by first | decide | omega) (by first | decide | omega) fun c lc hc=>?_
 walk_at "ds"
 refine drawI (by first | decide | omega) (by first | decide | omega) fun d ld hd=>?_
 walk_at "ds"
 refine drawI (by first | decide | omega) (by first | decide | omega) fun e le he=>?_
 walk_at "ds"
 refine drawI (by first | decide | omega) (by first | decide | omega) fun f lf hf=>?_
 walk_at "ds"
 refine drawI (by first | decide | omega) (by first | decide | omega) fun g lg hg=>?_
 walk_at "ds"
 refine drawI (by first | decide | omega) (by first | decide | omega) fun i li hi=>?_
 walk_at "ds"
 refine pickI (ns:=[1,2,1+i,3]) (lo:=1) (hi:=6) (by omega) (by simp only [List.length_cons,List.length_nil];omega) (by intro z hz;simp only [List.mem_cons,List.not_mem_nil,or_false] at hz;omega) fun k lk hk=>?_
 walk_at "ds"
 refine drawI (by first | decide | omega) (by first | decide | omega) fun m lm hm=>?_
 walk_at "ds"
 refine drawI (by first | decide | omega) (by first | decide | omega) fun n ln hn=>?_
 walk_at "ds"
 refine pickI (ns:=[400000,m,n,c]) (lo:=0) (hi:=400000) (by omega) (by simp only [List.length_cons,List.length_nil];omega) (by intro z hz;simp only [List.mem_cons,List.not_mem_nil,or_false] at hz;omega) fun t lt ht=>?_
 walk_at "ds"
 exact q ⟨⟨1+d,1+e,f,1+g⟩,k,t⟩ ⟨⟨by simp only [];omega,by simp only [];omega,by simp only [];omega,by simp only [];omega,by simp only [];omega,by simp only [];omega,by simp only [];omega,by simp only [];omega⟩,lk,by simp only [];omega,lt,ht⟩ hk
def sp__law_house:DSp:=fun ws Q=>ws = [.pen]/\∀(p:Pl) (ps:List Pl),ps.length<=3->(∀ x∈p::ps,x.Ok/\x.n<=6)->Q (.val (.tuple ((p::ps).map Pl.D)))
theorem ok__law_house(B:Blt mg)(F:Fun K "_law_house" "_law_house" s__law_house f fd)(C__law_draw:Cal P w K mg base 2 "_law_draw" ["_law_pen", "_law_many"] (cnSp K sp__law_draw))(C__law_plan:Cal P w K mg base 3 "_law_plan" ["_law_pen"] (cnSp K sp__law_plan)):FnOk P w K mg base CX0 4 f fd ["_law_pen"] (cnSp K sp__law_house):=by
 refine F.dok sc__law_house (fun ws Q h=>?_) (fun cdv A outer s H ws Q E hr h=>?_)
 ·obtain⟨rfl,_⟩:=h
  rfl
 obtain⟨rfl,q⟩:=h
 refine⟨_,(dss_cons (ds_set (i:=1) sc__law_house.nd rfl (Or.inl rfl) (de_call C__law_draw hr rfl (dp_vw 0 (dp_val de_int dp_nil sE_C)))) (dss_one (ds_ret (de_callTy c_tuple rfl B.tupleT boot_tuple (dav_cons (DE.dv (DF.de (df_lc rfl (N':=["_law_turn", "_law_pen"]) (capt:=["_law_pen"]) (k:=1) (js:=[0]) ⟨rfl,by decide,rfl,by decide,(.cons rfl .nil),rfl,(.cons rfl (Or.inl rfl) rfl (Or.inl rfl) .nil),rfl,by decide⟩ (DI.w (di_range1 rfl B.range (da_cons (de_ix (DE.dv (DF.de (df_lst (da_cons de_int (da_cons de_int (da_cons de_int (da_cons de_int da_nil sE_C) sE_C) sE_C) sE_C)))) (de_var 1) (fun _ _=>rfl)) da_nil))) (fun _ _ _ _=>(dg_name (i:=0) (show List.Nodup (["_law_turn", "_law_pen"]:List Str) by decide +kernel) rfl (Or.inl rfl) (Or.inr rfl))) (fun _ _ _ _=>dts_nil) (fun _ _ _ _=>(de_call C__law_plan hr rfl (dp_vw 1 dp_nil)))))) dav_nil))))),?_⟩
 walk_at "ds"
 refine drawI (by first | decide | omega) (by first | decide | omega) fun a la ha=>?_
 walk_at "ds"
 refine pickI (ns:=[1,2,3,4]) (lo:=1) (hi:=4) (by omega) (by simp only [List.length_cons,List.length_nil];omega) (by intro z hz;simp only [List.mem_cons,List.not_mem_nil,or_false] at hz;omega) fun n ln hn=>?_
 walk_at "ds"
 refine⟨⟨by omega,by omega⟩,by simp [rangeD];omega,?_⟩
 refine lcD_rangeA (fun y=>∃ x:Pl,y=x.D/\(x.Ok/\x.n<=6)) (fun d k hk=>?_) fun ys hy hp=>?_
 ·walk_at "ds"
  exact⟨rfl,fun p o h6=>hk _ ⟨p,rfl,o,h6⟩⟩
 ·obtain⟨xs,rfl,h⟩:=mem_enc hp
  walk_at "ds"
  rw [List.length_map] at hy
  cases xs with
  | nil=>simp at hy;omega
  | cons p ps=>exact q p ps (by simp at hy;omega) h
def mst:List Pl->Int
 | []=>1
 | p::ps=>p.n * mst ps
theorem mst_bd:∀{ps:List Pl},(∀ p∈ps,1<=p.n/\p.n<=6)->1<=mst ps/\mst ps<=6 ^ ps.length
 | [],_=>⟨Int.le_refl _,Int.le_refl _⟩
 | p::ps,h=>by
  obtain⟨a,b⟩:=h p List.mem_cons_self
  obtain⟨c,d⟩:=mst_bd fun x hx=>h x (List.mem_cons_of_mem _ hx)
  have e1:=Int.mul_le_mul a c (by decide) (by omega)
  have e2:=Int.mul_le_mul b d (by omega) (by decide)
  refine⟨by simpa [mst] using e1,?_⟩
  rw [List.length_cons,Int.pow_succ,Int.mul_comm]
  simpa [mst,Int.mul_comm] using e2
theorem mst_sm{ps:List Pl}(hl:ps.length<=4)(h:∀ p∈ps,1<=p.n/\p.n<=6):1<=mst ps/\mst ps<=1296:=by
 obtain⟨a,b⟩:=mst_bd h
 refine⟨a,Int.le_trans b ?_⟩
 have:ps.length=0\/ps.length=1\/ps.length=2\/ps.length=3\/ps.length=4:=by omega
 rcases this with e | e | e | e | e <;> rw [e] <;> decide
def Rw(ps:List Pl):Prop:=1<=ps.length/\ps.length<=4/\∀ p∈ps,1<=p.n/\p.n<=6
def sp_most_down:DSp:=fun ws Q=>∃(ps:List Pl),ws = [.val (.tuple (ps.map Pl.D))]/\ps.length<=4/\(∀ p∈ps,1<=p.n/\p.n<=6)/\Q (.val (.int (mst ps)))
theorem ok_most_down(B:Blt mg)(F:Fun K "most_down" "most_down" s_most_down f fd):FnOk P w K mg base CX0 1 f fd ["row"] (cnSp K sp_most_down):=by
 refine F.dok sc_most_down (fun ws Q h=>?_) (fun cdv A outer s H ws Q E hr h=>?_)
 ·obtain⟨ps,rfl,_⟩:=h
  rfl
 obtain⟨ps,rfl,hl,ho,q⟩:=h
 have m0:=mst_sm hl ho
 refine⟨_,(dss_cons (ds_set (i:=1) sc_most_down.nd rfl (Or.inl rfl) de_int) (dss_cons (ds_for PassesOwn.never rfl (di_seq (de_var 0)) (dg_seq (n:=3) rfl (dgs_cons (dg_name (i:=2) sc_most_down.nd rfl (Or.inl rfl)) (dgs_cons (dg_name (i:=3) sc_most_down.nd rfl (Or.inl rfl)) (dgs_cons (dg_name (i:=4) sc_most_down.nd rfl (Or.inl rfl)) dgs_nil)))) (dss_one (ds_augM (i:=1) sc_most_down.nd rfl (Or.inl rfl) (de_var 3)))) (dss_one (ds_ret (de_var 1))))),?_⟩
 walk_at "ds"
 refine forD_suf (fun ds σ=>∃(rs:List Pl) (acc:Int) (u v w:Option W),ds=rs.map Pl.D/\σ = [some (.val (.tuple (ps.map Pl.D))),some (.val (.int acc)),u,v,w]/\rs.length<=4/\(∀ p∈rs,1<=p.n/\p.n<=6)/\1<=acc/\acc * mst rs=mst ps) ?_ ?_ ⟨ps,1,none,none,none,rfl,rfl,hl,ho,by decide,by rw [Int.one_mul]⟩
 ·rintro d ds σ N ⟨rs,acc,u,v,w,e,rfl,hrl,hr1,h1,h2⟩ k
  cases rs with
  | nil=>cases e
  | cons p rs =>
   cases e
   obtain⟨n1,n6⟩:=hr1 p List.mem_cons_self
   have mb:=mst_sm hrl hr1
   rw [List.length_cons] at hrl
   have h3:acc * 1<=acc * mst (p::rs):=Int.mul_le_mul_of_nonneg_left mb.1 (by omega)
   simp only [Pl.D]
   walk_at "ds"
   refine⟨cmul_small (by omega) (by omega) (by omega) (by omega),k _ ⟨rs,acc * p.n,_,_,_,rfl,rfl,by omega,fun x hx=>hr1 x (List.mem_cons_of_mem _ hx),?_,?_⟩⟩
   ·have:=Int.mul_le_mul h1 n1 (by decide) (by omega)
    omega
   ·rw [<-h2,Int.mul_assoc];rfl
 ·rintro σ ⟨rs,acc,u,v,w,e,rfl,hrl,hr1,h1,h2⟩
  cases rs with
  | cons p rs=>cases e
  | nil =>
   walk_at "ds"
   rw [<-h2] at q
   simpa [mst] using q
end
section
variable {P:Program}{w:World}{K:PySem.W.Frag}{mg:Str->Option Value}{base:Heap}{f:Addr}{fd:FuncData}
def risB(ns:List Int):Bool:=(ns.zip ns.tail).all fun p=>decide (p.1<p.2)
structure PG(m:Nat)(pl:List Int):Prop where
 bd:∀ x∈pl,0<=x/\x<=(m:Int)-1
 ri:risB pl=true
def Good(m:Nat)(d:D):Prop:=∃ pl:List Int,d=.tuple (pl.map PyData.int)/\PG m pl
theorem in_ints{lo hi:Int}:∀{xs:List D},xs.all (inB lo hi)=true->∃ ns:List Int,xs=ns.map PyData.int/\∀ n∈ns,lo<=n/\n<=hi
 | [],_=>⟨[],rfl,nofun⟩
 | x::xs,h=>by
  rw [List.all_cons,Bool.and_eq_true] at h
  obtain⟨ns,rfl,hn⟩:=in_ints h.2
  cases x with
  | int i=>exact⟨i::ns,rfl,mem_two (of_decide_eq_true h.1) hn⟩
  | _=>cases h.1
theorem in_map{lo hi:Int}:∀{ns:List Int},(∀ n∈ns,lo<=n/\n<=hi)->(ns.map PyData.int).all (inB lo hi)=true
 | [],_=>rfl
 | n::ns,h=>by
  rw [List.map_cons,List.all_cons,in_map fun y hy=>h y (List.mem_cons_of_mem _ hy),Bool.and_true]
  exact decide_eq_true (h n List.mem_cons_self)
theorem map_int_inj{a b:List Int}(e:a.map PyData.int=b.map PyData.int):a=b:=(List.map_inj_right (f:=PyData.int) (fun _ _ z=>PyData.int.inj z)).mp e
def sp_places_good:DSp:=fun ws Q=>∃(ps:List Pl) (d:D),ws = [.val (.tuple (ps.map Pl.D)),.val d]/\(∀ xs,d=.tuple xs->xs.length<=10000)/\(Good ps.length d->Q (.val (.bool true)))/\(¬ Good ps.length d->Q (.val (.bool false)))
theorem ok_places_good(B:Blt mg)(F:Fun K "places_good" "places_good" s_places_good f fd)(C_whole_in:Cal P w K mg base 2 "whole_in" ["thing", "least", "most"] (cnSp K sp_whole_in)):FnOk P w K mg base CX0 3 f fd ["row", "thing"] (cnSp K sp_places_good):=by
 refine F.dok sc_places_good (fun ws Q h=>?_) (fun cdv A outer s H ws Q E hr h=>?_)
 ·obtain⟨ps,d,rfl,_⟩:=h
  rfl
 obtain⟨ps,d,rfl,hl,q1,q2⟩:=h
 refine⟨_,(dss_cons (ds_if (DWt.dt (dw_or (dt_not (dt_tru (DE.dv (de_isT (n := "tuple") k_tuple rfl B.isinstance boot_isinstance (dv_own 1) rfl B.tupleT boot_tuple)))) (dw_or1 (dt_not (dt_tru (DE.dv (de_callB (c_all rfl) rfl B.all boot_all (dav_cons (DE.dv (DF.de (df_lc rfl (N':=["place", "row"]) (capt:=["row"]) (k:=1) (js:=[0]) ⟨rfl,by decide,rfl,by decide,(.cons rfl .nil),rfl,(.cons rfl (Or.inl rfl) rfl (Or.inl rfl) .nil),rfl,by decide⟩ (diw_seq (dv_own 1)) (fun _ _ _ _=>(dg_name (i:=0) (show List.Nodup (["place", "row"]:List Str) by decide +kernel) rfl (Or.inl rfl) (Or.inr rfl))) (fun _ _ _ _=>dts_nil) (fun _ _ _ _=>(de_call C_whole_in hr rfl (dp_vw 0 (dp_val de_int (dp_val (de_op o_sub (DE.dv (de_callB c_len rfl B.len PySem.boot_len (dav_cons (dv_own 1) dav_nil))) (DE.dv de_int)) dp_nil) sE_C))))))) dav_nil)))))))) (dss_one (ds_ret de_bl)) dss_nil) (dss_one (ds_ret (de_callB (c_all rfl) rfl B.all boot_all (dav_cons (DE.dv (DF.de (df_lc rfl (N':=["ahead", "place"]) (capt:=[]) (k:=2) (js:=[]) ⟨rfl,by decide,rfl,by decide,.nil,rfl,.nil,rfl,by decide⟩ (diw_zip rfl B.zip (dav_cons (dv_own 1) (dav_cons (DE.dv (de_slice (dv_own 1) (do_some de_int) do_none)) dav_nil))) (fun _ _ _ _=>(dg_seq (n:=2) rfl (dgs_cons (dg_name (i:=0) (show List.Nodup (["ahead", "place"]:List Str) by decide +kernel) rfl (Or.inl rfl) (Or.inr rfl)) (dgs_cons (dg_name (i:=1) (show List.Nodup (["ahead", "place"]:List Str) by decide +kernel) rfl (Or.inl rfl) (Or.inr rfl)) dgs_nil)))) (fun _ _ _ _=>dts_nil) (fun _ _ _ _=>(de_cmp o_lt (dv_own 0) (dv_own 1) (nomark _)))))) dav_nil))))),?_⟩
 cases d with
 | tuple xs =>
  have hl:=hl xs rfl
  walk_at "ds"
  refine⟨by omega,lcD_map (fun d=>.bool (inB 0 ((ps.length:Int)-1) d)) (fun d hd k hk=>?_) ⟨xs.map (inB 0 ((ps.length:Int)-1)),?_,?_⟩⟩
  ·walk_at "ds"
   rw [List.length_map]
   exact⟨d,_,_,rfl,hk⟩
  ·have:=boolsD_map (xs.map (inB 0 ((ps.length:Int)-1)))
   rw [List.map_map] at this
   exact this
  rw [List.all_map]
  cases cw:xs.all (id ∘ inB 0 ((ps.length:Int)-1)) with
  | false =>
   walk_at "ds"
   refine q2 fun⟨pl,e,k⟩=>?_
   cases e
   have z:(pl.map PyData.int).all (id ∘ inB 0 ((ps.length:Int)-1))=true:=in_map k.bd
   rw [cw] at z
   cases z
  | true =>
   walk_at "ds"
   obtain⟨ns,rfl,hn⟩:=in_ints cw
   rw [sliceD_from _ (by decide),<-List.map_drop,zipD_ints,List.length_map] at *
   refine⟨by simp at hl ⊢;omega,lcD_mapT (fun p:Int×Int=>PyData.tuple [.int p.1,.int p.2]) (fun p=>.bool (decide (p.1<p.2))) (fun p hp k hk=>?_) ⟨(ns.zip (ns.drop (Int.toNat 1))).map fun p=>decide (p.1<p.2),?_,?_⟩⟩
   ·walk_at "ds"
    exact hk
   ·have:=boolsD_map ((ns.zip (ns.drop (Int.toNat 1))).map fun p=>decide (p.1<p.2))
    rw [List.map_map] at this
    exact this
   rw [List.all_map]
   have er:(ns.zip (ns.drop (Int.toNat 1))).all (id ∘ fun p=>decide (p.1<p.2))=risB ns:=by
    unfold risB
    rw [<-List.drop_one]
    rfl
   rw [er]
   cases ce:risB ns with
   | true=>exact q1 ⟨ns,rfl,⟨hn,ce⟩⟩
   | false =>
    refine q2 fun⟨pl,e,k⟩=>?_
    cases map_int_inj (PyData.tuple.inj e)
    rw [k.ri] at ce
    cases ce
 | _=>walk_at "ds";exact q2 fun⟨_,e,_⟩=>by cases e
def onP(pl:List Int)(k:Nat)(p:Pl):Pl:={ p with n:=if (k:Int)∈pl then 1 else p.n }
def onL(pl:List Int):Nat->List Pl->List Pl
 | _,[]=>[]
 | k,p::ps=>onP pl k p::onL pl (k+1) ps
theorem onL_len(pl:List Int):∀(k:Nat) (ps:List Pl),(onL pl k ps).length=ps.length
 | _,[]=>rfl
 | k,p::ps=>by rw [onL,List.length_cons,onL_len pl (k+1) ps,List.length_cons]
theorem in_pl(pl:List Int)(k:Int):inD (.int k) (pl.map PyData.int)=decide (k∈pl):=by
 unfold inD
 rw [List.any_map]
 rw [Bool.eq_iff_iff,List.any_eq_true,decide_eq_true_iff]
 constructor
 ·rintro ⟨x,hx,e⟩
  have:x=k:=by simpa [eqv_int] using e
  rw [<-this]
  exact hx
 ·intro h
  exact⟨k,h,by simp [eqv_int]⟩
theorem enum_on{f:D->(Option D->Prop)->Prop}(pl:List Int):∀(ps:List Pl) (k:Nat) {Q:List D->Prop},(∀(i:Nat) (p:Pl) (K:Option D->Prop),K (some (onP pl i p).D)->f (.tuple [.int (i:Nat),p.D]) K)->Q ((onL pl k ps).map Pl.D)->lcD f (enumD k (ps.map Pl.D)) Q
 | [],_,_,_,q=>q
 | p::ps,k,Q,h,q=>h k p _ (enum_on pl ps (k+1) h q)
def sp_once_at:DSp:=fun ws Q=>∃(ps:List Pl) (pl:List Int),ws = [.val (.tuple (ps.map Pl.D)),.val (.tuple (pl.map PyData.int))]/\ps.length<=100/\pl.length<=100/\PG ps.length pl/\Q (.val (.tuple ((onL pl 0 ps).map Pl.D)))
theorem ok_once_at(B:Blt mg)(F:Fun K "once_at" "once_at" s_once_at f fd)(C_places_good:Cal P w K mg base 3 "places_good" ["row", "thing"] (cnSp K sp_places_good)):FnOk P w K mg base CX0 4 f fd ["row", "places"] (cnSp K sp_once_at):=by
 refine F.dok sc_once_at (fun ws Q h=>?_) (fun cdv A outer s H ws Q E hr h=>?_)
 ·obtain⟨ps,pl,rfl,_⟩:=h
  rfl
 obtain⟨ps,pl,rfl,hp,hl,g,q⟩:=h
 refine⟨_,(dss_cons (ds_if (dt_not (dt_tru (DE.dv (de_call C_places_good hr rfl (dp_vw 0 (dp_vw 1 dp_nil)))))) (dss_one ds_never) dss_nil) (dss_one (ds_ret (de_callTy c_tuple rfl B.tupleT boot_tuple (dav_cons (DE.dv (DF.de (df_lc rfl (N':=["at", "gaps", "knocks", "time", "places"]) (capt:=["places"]) (k:=4) (js:=[1]) ⟨rfl,by decide,rfl,by decide,(.cons rfl .nil),rfl,(.cons rfl (Or.inl rfl) rfl (Or.inl rfl) .nil),rfl,by decide⟩ (DI.w (di_enumX rfl B.enumerate (da_cons (de_var 0) da_nil))) (fun _ _ _ _=>(dg_seq (n:=2) rfl (dgs_cons (dg_name (i:=0) (show List.Nodup (["at", "gaps", "knocks", "time", "places"]:List Str) by decide +kernel) rfl (Or.inl rfl) (Or.inr rfl)) (dgs_cons (dg_seq (n:=3) rfl (dgs_cons (dg_name (i:=1) (show List.Nodup (["at", "gaps", "knocks", "time", "places"]:List Str) by decide +kernel) rfl (Or.inl rfl) (Or.inr rfl)) (dgs_cons (dg_name (i:=2) (show List.Nodup (["at", "gaps", "knocks", "time", "places"]:List Str) by decide +kernel) rfl (Or.inl rfl) (Or.inr rfl)) (dgs_cons (dg_name (i:=3) (show List.Nodup (["at", "gaps", "knocks", "time", "places"]:List Str) by decide +kernel) rfl (Or.inl rfl) (Or.inr rfl)) dgs_nil)))) dgs_nil)))) (fun _ _ _ _=>dts_nil) (fun _ _ _ _=>(de_tup (da_cons (de_var 1) (da_cons (de_ifExp (dt_cmp (o_in hr) (dv_own 0) (dv_own 4) rfl) de_int (de_var 2)) (da_cons (de_var 3) da_nil)))))))) dav_nil))))),?_⟩
 refine dseq_by (fun σ=>∃ us:List (Option W),σ = [some (.val (.tuple (ps.map Pl.D))),some (.val (.tuple (pl.map PyData.int)))]++us) (fun N hN=>?_) ?_
 ·walk_at "ds"
  refine⟨ps,_,rfl,fun xs e=>by cases e;rw [List.length_map];omega,fun c=>?_,fun c=>absurd ⟨pl,rfl,g⟩ c⟩
  walk_at "ds"
  exact hN _ ⟨_,rfl⟩
 rintro σ ⟨us,rfl⟩
 walk_at "ds"
 refine⟨by rw [enumD_len,List.length_map];omega,enum_on pl ps 0 (fun i p K hk=>?_) ?_⟩
 ·simp only [Pl.D]
  walk_at "ds"
  refine⟨Lay.int _,lay_tints _,?_⟩
  rw [in_pl]
  simp only [onP,Pl.D] at hk
  by_cases c:(i:Int)∈pl
  ·simpa [c] using hk
  ·simpa [c] using hk
 ·walk_at "ds"
  exact q
def extP(m:Nat)(one:List Int):List (List Int):=((List.range m).filter fun p:Nat=>one.isEmpty || decide ((p:Int) > one.getLastD 0)).map fun p:Nat=>one ++ [(p:Int)]
def lvl(m:Nat):Nat->List (List Int)
 | 0=>[[]]
 | k+1=>(lvl m k).flatMap (extP m)
def plcs(m:Nat):List (List Int):=(List.range (m+1)).flatMap (lvl m)
def chs:Nat->List (List Int)
 | 0=>[[]]
 | k+1=>chs k++(chs k).map fun l=>l ++ [(k:Int)]
def kyOf(l:List Int):List Int:=(l.length:Int)::l
theorem pl_facts{m:Nat}(h1:1<=m)(h4:m<=4):(plcs m).Perm (chs m)/\(plcs m).Pairwise (fun a b=>¬ kyOf b<kyOf a)/\(∀ l∈plcs m,l.length<=4/\(∀ x∈l,0<=x/\x<=(m:Int)-1)/\risB l=true)/\(plcs m).length<=16/\((List.range m).map fun i:Nat=>(i:Int))∈plcs m:=by
 have:m=1\/m=2\/m=3\/m=4:=by omega
 rcases this with rfl | rfl | rfl | rfl <;> decide +kernel
theorem lvl_bd{m:Nat}(h4:m<=4):∀ k,k<=4->(lvl m k).length<=16/\∀ l∈lvl m k,l.length<=4:=by
 have a:m=0\/m=1\/m=2\/m=3\/m=4:=by omega
 intro k hk
 have b:k=0\/k=1\/k=2\/k=3\/k=4:=by omega
 rcases a with rfl | rfl | rfl | rfl | rfl <;> rcases b with rfl | rfl | rfl | rfl | rfl <;> decide +kernel
theorem chs_bd:∀ k,k<=4->(chs k).length<=16/\∀ l∈chs k,l.length<=4:=by
 intro k hk
 have:k=0\/k=1\/k=2\/k=3\/k=4:=by omega
 rcases this with rfl | rfl | rfl | rfl | rfl <;> decide +kernel
theorem ky_inj{a b:List Int}(h1:¬ kyOf b<kyOf a)(h2:¬ kyOf a<kyOf b):a=b:=by
 have:=List.le_antisymm (List.not_lt.mp h1) (List.not_lt.mp h2)
 exact(List.cons.inj this).2
theorem sorted_uniq{m:Nat}(h1:1<=m)(h4:m<=4){ys:List (List Int)}(p:ys.Perm (chs m))(w:ys.Pairwise fun a b=>¬ kyOf b<kyOf a):ys=plcs m:=by
 obtain⟨q,v,_⟩:=pl_facts h1 h4
 exact(p.trans q.symm).eq_of_pairwise (fun a b _ _ h3 h4=>ky_inj h3 h4) w v
theorem rangeD_at{n i:Nat}{d:D}(e:(rangeD 0 n)[i]?=some d):i<n/\d=.int (i:Nat):=by
 unfold rangeD at e
 rw [List.getElem?_map] at e
 have hi:i<n:=by
  by_cases c:i<n
  ·exact c
  ·rw [List.getElem?_eq_none (by simpa using c)] at e;cases e
 rw [List.getElem?_range hi] at e
 simp only [Option.map_some,Option.some.injEq,Int.zero_add] at e
 exact⟨hi,e.symm⟩
def sp_all_places:DSp:=fun ws Q=>∃ m:Nat,ws = [.val (.int (m:Nat))]/\1<=m/\m<=4/\Q (.new ((plcs m).map tD))
theorem ok_all_places(B:Blt mg){T:Addr}(F:Fun K "all_places" "all_places" s_all_places f fd){c:Addr}(hB:BltAt mg base)(hC:PySem.W.CodeHd base c T)(hcd:fd.code=.ref c):FnOk P w K mg base CX0 4 f fd ["many"] (tabSp "all_places.<locals>.<lambda>" T (cnSp K sp_all_places)):=by
 refine F.dokT sc_all_places (fun ws Q h=>?_) (fun A outer s H ws Q E hr hT h=>?_)
 ·obtain⟨m,rfl,_⟩:=h
  rfl
 obtain⟨m,rfl,h1,h4,q⟩:=h
 refine⟨_,(dss_cons (ds_set (i:=1) sc_all_places.nd rfl (Or.inl rfl) (DF.de (df_lst (da_cons (de_tup da_nil) da_nil sE_T)))) (dss_cons (ds_for PassesOwn.never rfl (di_range1 rfl B.range (da_cons (de_var 0) da_nil)) (dg_name (i:=2) sc_all_places.nd rfl (Or.inr rfl)) (dss_one (ds_set (i:=1) sc_all_places.nd rfl (Or.inl rfl) (de_op o_add (dv_own 1) (DE.dv (DF.de (df_lc rfl (N':=["places", "place"]) (capt:=["place"]) (k:=1) (js:=[2]) ⟨rfl,by decide,rfl,by decide,(.cons rfl .nil),rfl,(.cons rfl (Or.inl rfl) rfl (Or.inl rfl) .nil),rfl,by decide⟩ (diw_seq (dv_own 1)) (fun _ _ _ _=>(dg_name (i:=0) (show List.Nodup (["places", "place"]:List Str) by decide +kernel) rfl (Or.inl rfl) (Or.inr rfl))) (fun _ _ _ _=>dts_nil) (fun _ _ _ _=>(de_op o_add (dv_own 0) (DE.dv (de_tup (da_cons (de_var 1) da_nil)))))))))))) (dss_one (ds_retF (df_sortK (k:=0) (N:=["places"]) (y := "places") hr rfl B.sorted (dav_cons (dv_own 1) dav_nil) hT hC hcd hB rfl rfl rfl (by exact⟨rfl,rfl,rfl,by decide +kernel,rfl,by decide +kernel,by decide +kernel⟩) (fun _ _ _ _=>rfl) (fun A outer s H E f cd hr=>(de_tup (da_cons (de_callB c_len rfl B.len PySem.boot_len (dav_cons (dv_own 0) dav_nil)) (da_cons (de_var 0) da_nil))))))))),?_⟩
 walk_at "ds"
 refine⟨by omega,?_⟩
 refine forD_inv (fun k σ=>∃ u,σ = [some (.val (.int (m:Nat))),some (.val (.list ((chs k).map tD))),u]) _ _ 0 ⟨none,rfl⟩ (fun i d σ N e=>?_) ?_
 ·obtain⟨hi,rfl⟩:=rangeD_at e
  rintro ⟨u,rfl⟩ k
  rw [Nat.zero_add] at *
  obtain⟨b1,b2⟩:=chs_bd i (by omega)
  walk_at "ds"
  refine⟨by rw [List.length_map];omega,lcD_mapT tD (fun l=>tD (l ++ [(i:Int)])) (fun l hl k hk=>?_) ?_⟩
  ·have:=b2 l hl
   simp only [tD] at hk ⊢
   walk_at "ds"
   rw [List.length_map]
   refine⟨by first | omega | (simp;omega),?_⟩
   rw [List.map_append] at hk
   exact hk
  ·walk_at "ds"
   rw [List.length_map,List.length_map]
   refine⟨by first | omega | (simp;omega),k _ ⟨some (.val (.int (i:Nat))),?_⟩⟩
   rw [chs,List.map_append,List.map_map]
   rfl
 ·rintro σ ⟨u,rfl⟩
  rw [rangeD_len,Nat.zero_add,Int.toNat_natCast]
  obtain⟨b1,b2⟩:=chs_bd m h4
  walk_at "ds"
  refine⟨by rw [List.length_map];omega,fun d=>(((deT d).length:Int),deT d),fun x hx=>?_,fun ys pm pw=>?_⟩
  ·obtain⟨l,_,rfl⟩:=List.mem_map.mp hx
   show(PyData.tuple [.int ((l.map PyData.int).length:Nat),tD l])=kyD (((deT (tD l)).length:Int),deT (tD l))
   rw [deT_tD,List.length_map]
   rfl
  ·obtain⟨zs,rfl,pz⟩:=perm_map deT deT_tD pm
   rw [List.pairwise_map] at pw
   rw [sorted_uniq h1 h4 pz (pw.imp fun h=>by have h2:=h;simp only [deT_tD] at h2;exact h2)]
   exact q
def prs(m k:Nat):List (List Int):=(List.range k).flatMap (lvl m)
theorem prs_succ(m k:Nat):prs m (k+1)=prs m k++lvl m k:=by
 unfold prs
 rw [List.range_succ,List.flatMap_append,List.flatMap_cons,List.flatMap_nil,List.append_nil]
theorem prs_len{m:Nat}(h4:m<=4):∀ k,k<=5->(prs m k).length<=16 * k
 | 0,_=>Nat.le_refl _
 | k+1,h=>by
  rw [prs_succ,List.length_append]
  have:=prs_len h4 k (by omega)
  have:=(lvl_bd h4 k (by omega)).1
  omega
theorem ext_len(m:Nat)(l:List Int):(extP m l).length<=m:=by
 unfold extP
 rw [List.length_map]
 exact Nat.le_trans (List.length_filter_le _ _) (by simp)
theorem flat_len(m:Nat):∀ ls:List (List Int),(ls.flatMap (extP m)).length<=m * ls.length
 | []=>Nat.zero_le _
 | l::ls=>by
  rw [List.flatMap_cons,List.length_append,List.length_cons,Nat.mul_succ]
  have:=ext_len m l
  have:=flat_len m ls
  omega
theorem fm_filter{α β γ:Type}(c:α->Bool)(g:α->β)(t:β->γ):∀ l:List α,l.filterMap (fun p=>if c p=true then some (t (g p)) else none)=((l.filter c).map g).map t
 | []=>rfl
 | x::l=>by
  by_cases h:c x=true
  ·simp [h,fm_filter c g t l]
  ·simp [h,fm_filter c g t l]
def sp__law_all:DSp:=fun ws Q=>∃ m:Nat,ws = [.val (.int (m:Nat))]/\1<=m/\m<=4/\Q (.new ((plcs m).map tD))
theorem ok__law_all(B:Blt mg)(F:Fun K "_law_all" "_law_all" s__law_all f fd):FnOk P w K mg base CX0 1 f fd ["_law_many"] (cnSp K sp__law_all):=by
 refine F.dok sc__law_all (fun ws Q h=>?_) (fun cdv A outer s H ws Q E hr h=>?_)
 ·obtain⟨m,rfl,_⟩:=h
  rfl
 obtain⟨m,rfl,h1,h4,q⟩:=h
 refine⟨_,(dss_cons (ds_setO (i:=1) sc__law_all.nd rfl (Or.inl rfl) (df_lst da_nil)) (dss_cons (ds_for PassesOwn.never rfl (di_range1 rfl B.range (da_cons (de_op o_add (dv_own 0) (DE.dv de_int)) da_nil)) (dg_name (i:=2) sc__law_all.nd rfl (Or.inl rfl)) (dss_cons (ds_set (i:=3) sc__law_all.nd rfl (Or.inl rfl) (DF.de (df_lst (da_cons (de_tup da_nil) da_nil sE_T)))) (dss_cons (ds_for PassesOwn.never rfl (di_range1 rfl B.range (da_cons (de_var 2) da_nil)) (dg_name (i:=4) sc__law_all.nd rfl (Or.inl rfl)) (dss_cons (ds_setO (i:=5) sc__law_all.nd rfl (Or.inl rfl) (df_lst da_nil)) (dss_cons (ds_for PassesOwn.never rfl (di_seq (de_var 3)) (dg_name (i:=6) sc__law_all.nd rfl (Or.inr rfl)) (dss_one (ds_extend 5 (df_lc rfl (N':=["_law_place", "_law_one"]) (capt:=["_law_one"]) (k:=1) (js:=[6]) ⟨rfl,by decide,rfl,by decide,(.cons rfl .nil),rfl,(.cons rfl (Or.inl rfl) rfl (Or.inl rfl) .nil),rfl,by decide⟩ (DI.w (di_range1 rfl B.range (da_cons (de_var 0) da_nil))) (fun _ _ _ _=>(dg_name (i:=0) (show List.Nodup (["_law_place", "_law_one"]:List Str) by decide +kernel) rfl (Or.inl rfl) (Or.inr rfl))) (fun _ _ _ _=>(dts_one (DWt.dt (dw_or (dt_cmp (o_eq hr) (dv_own 1) (DE.dv (de_tup da_nil)) (nomark _)) (dw_or1 (dt_cmp o_gt (dv_own 0) (DE.dv (de_ix (dv_own 1) (de_neg de_int) (fun _ _=>rfl))) (nomark _))))))) (fun _ _ _ _=>(de_op o_add (dv_own 1) (DE.dv (de_tup (da_cons (de_var 0) da_nil))))))))) (dss_one (ds_frz 5 (ds_set (i:=3) sc__law_all.nd rfl (Or.inl rfl) (de_var 5))))))) (dss_one (ds_extendV 1 (de_var 3)))))) (dss_one (ds_retO 1)))),?_⟩
 walk_at "ds"
 refine⟨by omega,?_⟩
 have em:((m:Int)+1).toNat=m+1:=by omega
 rw [em]
 refine forD_inv (fun k σ=>∃ u1 u2 u3 u4 u5,σ = [some (.val (.int (m:Nat))),some (.own (.lst ((prs m k).map tD))),u1,u2,u3,u4,u5]) _ _ 0 ⟨none,none,none,none,none,rfl⟩ (fun i d σ N e=>?_) ?_
 ·obtain⟨hi,rfl⟩:=rangeD_at e
  rintro ⟨u1,u2,u3,u4,u5,rfl⟩ k
  rw [Nat.zero_add] at *
  walk_at "ds"
  refine⟨by omega,?_⟩
  rw [Int.toNat_natCast]
  refine forD_inv (fun j σ=>∃ u4 u5 u6,σ = [some (.val (.int (m:Nat))),some (.own (.lst ((prs m i).map tD))),some (.val (.int (i:Nat))),some (.val (.list ((lvl m j).map tD))),u4,u5,u6]) _ _ 0 ⟨_,_,_,rfl⟩ (fun j d σ N e=>?_) ?_
  ·obtain⟨hj,rfl⟩:=rangeD_at e
   rintro ⟨u4,u5,u6,rfl⟩ k
   rw [Nat.zero_add] at *
   obtain⟨b1,b2⟩:=lvl_bd h4 j (by omega)
   walk_at "ds"
   refine forD_suf (fun ds σ=>∃(dn rs:List (List Int)) (u6:Option W),lvl m j=dn++rs/\ds=rs.map tD/\σ = [some (.val (.int (m:Nat))),some (.own (.lst ((prs m i).map tD))),some (.val (.int (i:Nat))),some (.val (.list ((lvl m j).map tD))),some (.val (.int (j:Nat))),some (.own (.lst ((dn.flatMap (extP m)).map tD))),u6]) ?_ ?_ ⟨[],lvl m j,_,rfl,rfl,rfl⟩
   ·rintro d ds σ N ⟨dn,rs,u6,e1,e2,rfl⟩ k
    cases rs with
    | nil=>cases e2
    | cons l rs =>
     cases e2
     have l4:=b2 l (by rw [e1];simp)
     have dl:dn.length<=16:=by have:=congrArg List.length e1;simp at this;omega
     have fl:=flat_len m dn
     have fm:m * dn.length<=4 * 16:=Nat.mul_le_mul h4 dl
     have xl:=ext_len m l
     simp only [tD]
     walk_at "ds"
     refine⟨by omega,by rw [rangeD_len];omega,?_⟩
     rw [Int.toNat_natCast]
     unfold rangeD
     refine lcD_fmT (fun p:Nat=>PyData.int (0+(p:Nat))) (fun p=>if (l.isEmpty || decide ((p:Int) > l.getLastD 0))=true then some (tD (l ++ [(p:Int)])) else none) (fun p hp K hK=>?_) ?_
     ·show lcF _ _ _ _ (.int (0+(p:Int))) K
      rw [Int.zero_add]
      rcases List.eq_nil_or_concat l with rfl | ⟨l',y,rfl⟩
      ·simp only [tD,List.map_nil] at hK ⊢
       walk_at "ds"
       refine⟨lay_tints [],lay_tints [],?_⟩
       rw [if_pos (by simp [PyData.eqv,PyData.eqvAll])]
       simpa using hK
      ·rw [List.concat_eq_append] at *
       simp only [tD,List.map_append,List.map_cons,List.map_nil] at hK ⊢
       walk_at "ds"
       refine⟨by have:=lay_tints (l' ++ [y]);rwa [List.map_append] at this,lay_tints [],?_⟩
       rw [if_neg (by cases l' <;> simp [PyData.eqv,PyData.eqvAll])]
       refine⟨_,atI_end _ _,?_⟩
       walk_at "ds"
       rw [List.length_append] at l4
       have g1:(l' ++ [y]).getLastD 0=y:=by simp
       have g2:(l' ++ [y]).isEmpty=false:=by cases l' <;> rfl
       rw [g1,g2,Bool.false_or] at hK
       by_cases c:y<(p:Int)
       ·rw [if_pos (by simpa using c)] at hK
        first
         | (rw [if_pos (by simpa using c)];exact⟨by simp;omega,hK⟩)
         | (simp only [c,decide_true,if_true];exact⟨by simp;omega,hK⟩)
       ·rw [if_neg (by simpa using c)] at hK
        first
         | (rw [if_neg (by simpa using c)];exact hK)
         | (simp only [c,decide_false,Bool.false_eq_true,if_false];exact hK)
     ·rw [fm_filter (fun p:Nat=>l.isEmpty || decide ((p:Int) > l.getLastD 0)) (fun p:Nat=>l ++ [(p:Int)]) tD]
      rw [List.length_map,List.length_map]
      have xl2:(((List.range m).filter fun p:Nat=>l.isEmpty || decide ((p:Int) > l.getLastD 0)).map fun p:Nat=>l ++ [(p:Int)]).length<=m:=xl
      exact⟨by omega,k _ ⟨dn ++ [l],rs,some (.val (.tuple (l.map PyData.int))),by rw [e1];simp,rfl,(by rw [List.flatMap_append,List.map_append,List.flatMap_cons,List.flatMap_nil,List.append_nil];rfl)⟩⟩
   ·rintro σ ⟨dn,rs,u6,e1,e2,rfl⟩
    cases rs with
    | cons l rs=>cases e2
    | nil =>
     rw [List.append_nil] at e1
     subst e1
     walk_at "ds"
     exact k _ ⟨_,_,_,rfl⟩
  ·rintro σ ⟨u4,u5,u6,rfl⟩
   rw [rangeD_len,Nat.zero_add]
   have a1:=prs_len h4 i (by omega)
   have a2:=(lvl_bd h4 i (by omega)).1
   walk_at "ds"
   rw [List.length_map,List.length_map]
   exact⟨by omega,k _ ⟨_,_,_,_,_,(by rw [prs_succ,List.map_append])⟩⟩
 ·rintro σ ⟨u1,u2,u3,u4,u5,rfl⟩
  rw [rangeD_len,Nat.zero_add]
  walk_at "ds"
  exact q
theorem on_bd{l:List Int}:∀{ps:List Pl} {k:Nat},(∀ p∈ps,1<=p.n/\p.n<=6)->∀ p∈onL l k ps,1<=p.n/\p.n<=6
 | [],_,_=>nofun
 | p::ps,k,h=>by
  obtain⟨a,b⟩:=h p List.mem_cons_self
  refine mem_two ?_ (on_bd fun x hx=>h x (List.mem_cons_of_mem _ hx))
  simp only [onP]
  split <;> omega
def sp__law_most:DSp:=fun ws Q=>∃(ps:List Pl) (l:List Int),ws = [.val (.tuple (ps.map Pl.D)),.val (tD l)]/\Rw ps/\l.length<=4/\Q (.val (.int (mst (onL l 0 ps))))
theorem ok__law_most(B:Blt mg)(F:Fun K "_law_most" "_law_most" s__law_most f fd):FnOk P w K mg base CX0 1 f fd ["_law_row_here", "_law_places"] (cnSp K sp__law_most):=by
 refine F.dok sc__law_most (fun ws Q h=>?_) (fun cdv A outer s H ws Q E hr h=>?_)
 ·obtain⟨ps,l,rfl,_⟩:=h
  rfl
 obtain⟨ps,l,rfl,g,hl,q⟩:=h
 have mt:=mst_sm (ps:=onL l 0 ps) (by rw [onL_len];exact g.2.1) (on_bd g.2.2)
 simp only [tD]
 refine⟨_,(dss_cons (ds_set (i:=2) sc__law_most.nd rfl (Or.inl rfl) de_int) (dss_cons (ds_for PassesOwn.never rfl (di_enumX rfl B.enumerate (da_cons (de_var 0) da_nil)) (dg_seq (n:=2) rfl (dgs_cons (dg_name (i:=3) sc__law_most.nd rfl (Or.inl rfl)) (dgs_cons (dg_name (i:=4) sc__law_most.nd rfl (Or.inl rfl)) dgs_nil))) (dss_one (ds_if (dt_cmp (o_notIn hr) (dv_own 3) (dv_own 1) rfl) (dss_one (ds_set (i:=2) sc__law_most.nd rfl (Or.inl rfl) (de_op o_mul (dv_own 2) (DE.dv (de_ix (dv_own 4) de_int (fun _ _=>rfl)))))) dss_nil))) (dss_one (ds_ret (de_var 2))))),?_⟩
 walk_at "ds"
 refine forD_suf (fun ds σ=>∃(k:Nat) (rs:List Pl) (acc:Int) (u v:Option W),ds=enumD k (rs.map Pl.D)/\σ = [some (.val (.tuple (ps.map Pl.D))),some (.val (.tuple (l.map PyData.int))),some (.val (.int acc)),u,v]/\rs.length<=4/\(∀ p∈rs,1<=p.n/\p.n<=6)/\1<=acc/\acc * mst (onL l k rs)=mst (onL l 0 ps)) ?_ ?_ ⟨0,ps,1,none,none,rfl,rfl,g.2.1,g.2.2,by decide,by rw [Int.one_mul]⟩
 ·rintro d ds σ N ⟨k,rs,acc,u,v,e,rfl,hrl,hr1,h1,h2⟩ kk
  cases rs with
  | nil=>cases e
  | cons p rs =>
   cases e
   obtain⟨n1,n6⟩:=hr1 p List.mem_cons_self
   have mb:=mst_sm (ps:=onL l k (p::rs)) (by rw [onL_len];exact hrl) (on_bd hr1)
   have h3:acc * 1<=acc * mst (onL l k (p::rs)):=Int.mul_le_mul_of_nonneg_left mb.1 (by omega)
   rw [List.length_cons] at hrl
   have ha:acc<=1296:=by rw [h2] at h3;omega
   simp only [Pl.D]
   walk_at "ds"
   refine⟨Lay.int _,lay_tints _,?_⟩
   rw [in_pl]
   simp only [onL,mst,onP] at h2
   by_cases c:(k:Int)∈l
   ·simp only [c,decide_true,if_true,Int.one_mul] at h2 ⊢
    walk_at "ds"
    exact kk _ ⟨k+1,rs,acc,_,_,rfl,rfl,by omega,fun x hx=>hr1 x (List.mem_cons_of_mem _ hx),h1,h2⟩
   ·simp only [c,decide_false,if_false] at h2 ⊢
    walk_at "ds"
    refine⟨_,atI_one _ _ _,?_⟩
    walk_at "ds"
    refine⟨cmul_small (by omega) (by omega) (by omega) (by omega),kk _ ⟨k+1,rs,acc * p.n,_,_,rfl,rfl,by omega,fun x hx=>hr1 x (List.mem_cons_of_mem _ hx),?_,?_⟩⟩
    ·have:=Int.mul_le_mul h1 n1 (by decide) (by omega)
     omega
    ·rw [<-h2,Int.mul_assoc]
 ·rintro σ ⟨k,rs,acc,u,v,e,rfl,hrl,hr1,h1,h2⟩
  cases rs with
  | cons p rs=>cases e
  | nil =>
   walk_at "ds"
   rw [<-h2] at q
   simpa [mst,onL] using q
end
section
variable {P:Program}{w:World}{K:PySem.W.Frag}{mg:Str->Option Value}{base:Heap}{f:Addr}{fd:FuncData}
theorem pg_of{m:Nat}(h1:1<=m)(h4:m<=4){l:List Int}(h:l∈plcs m):PG m l/\l.length<=4 :=
 let z:=(pl_facts h1 h4).2.2.1 l h;⟨⟨z.2.1,z.2.2⟩,z.1⟩
def sp_calm_row:DSp:=fun ws Q=>∃(ps:List Pl) (n:Int) (pre:List (List Int)) (l:List Int) (post:List (List Int)),ws = [.val (.tuple (ps.map Pl.D)),.val (.int n)]/\Rw ps/\plcs ps.length=pre++l::post/\(∀ x∈pre,¬ mst (onL x 0 ps)<=n)/\mst (onL l 0 ps)<=n/\Q (.val (tD l))
theorem ok_calm_row(B:Blt mg){T:Addr}(F:Fun K "calm_row" "calm_row" s_calm_row f fd)(C_most_down:Cal P w K mg base 1 "most_down" ["row"] (cnSp K sp_most_down))(C_once_at:Cal P w K mg base 4 "once_at" ["row", "places"] (cnSp K sp_once_at))(C_all_places:Cal P w K mg base 4 "all_places" ["many"] (tabSp "all_places.<locals>.<lambda>" T (cnSp K sp_all_places))):FnOk P w K mg base CX0 5 f fd ["row", "most"] (tabSp "all_places.<locals>.<lambda>" T (cnSp K sp_calm_row)):=by
 refine F.dokT sc_calm_row (fun ws Q h=>?_) (fun A outer s H ws Q E hr hT h=>?_)
 ·obtain⟨ps,n,pre,l,post,rfl,_⟩:=h
  rfl
 obtain⟨ps,n,pre,l,post,rfl,g,ep,hpre,hl,q⟩:=h
 have mem:∀ x∈pre++l::post,x∈plcs ps.length:=fun x hx=>by rw [ep];exact hx
 refine⟨_,(dss_cons (ds_set (i:=2) sc_calm_row.nd rfl (Or.inl rfl) (de_tup da_nil)) (dss_cons (ds_for PassesOwn.never rfl (di_seq (de_callT C_all_places hT hr rfl (dp_val (de_callB c_len rfl B.len PySem.boot_len (dav_cons (dv_own 0) dav_nil)) dp_nil))) (dg_name (i:=3) sc_calm_row.nd rfl (Or.inl rfl)) (dss_cons (ds_set (i:=2) sc_calm_row.nd rfl (Or.inl rfl) (de_var 3)) (dss_one (ds_if (dt_cmp o_le (DE.dv (de_call C_most_down hr rfl (dp_val (de_call C_once_at hr rfl (dp_vw 0 (dp_vw 3 dp_nil))) dp_nil))) (dv_own 1) (nomark _)) (dss_one ds_break) dss_nil)))) (dss_one (ds_ret (de_var 2))))),?_⟩
 walk_at "ds"
 refine⟨ps.length,by rw [List.length_map],g.1,g.2.1,?_⟩
 rw [ep]
 walk_at "ds"
 refine forD_suf (fun ds σ=>∃(rs:List (List Int)) (u v:Option W),ds=(rs++l::post).map tD/\(∀ x∈rs,x∈pre)/\σ = [some (.val (.tuple (ps.map Pl.D))),some (.val (.int n)),u,v]) ?_ ?_ ⟨pre,_,_,rfl,fun x h=>h,rfl⟩
 ·rintro d ds σ N ⟨rs,u,v,e,hr,rfl⟩ k
  cases rs with
  | nil =>
   cases e
   obtain⟨pg,l4⟩:=pg_of g.1 g.2.1 (mem l (by simp))
   simp only [tD] at q ⊢
   walk_at "ds"
   refine⟨ps,l,rfl,by have:=g.2.1;omega,by omega,pg,?_⟩
   walk_at "ds"
   refine⟨onL l 0 ps,rfl,by rw [onL_len];exact g.2.1,on_bd g.2.2,?_⟩
   walk_at "ds"
   first
    | (rw [if_pos hl];exact q)
    | (rw [if_pos (by simpa using hl)];exact q)
  | cons x rs =>
   cases e
   have hx:x∈pre:=hr x List.mem_cons_self
   obtain⟨pg,l4⟩:=pg_of g.1 g.2.1 (mem x (List.mem_append_left _ hx))
   have hn:=hpre x hx
   simp only [tD] at ⊢
   walk_at "ds"
   refine⟨ps,x,rfl,by have:=g.2.1;omega,by omega,pg,?_⟩
   walk_at "ds"
   refine⟨onL x 0 ps,rfl,by rw [onL_len];exact g.2.1,on_bd g.2.2,?_⟩
   walk_at "ds"
   first
    | (rw [if_neg hn];exact k _ ⟨rs,_,_,rfl,fun y hy=>hr y (List.mem_cons_of_mem _ hy),rfl⟩)
    | (rw [if_neg (by simpa using hn)];exact k _ ⟨rs,_,_,rfl,fun y hy=>hr y (List.mem_cons_of_mem _ hy),rfl⟩)
 ·rintro σ ⟨rs,u,v,e,hr,rfl⟩
  cases rs <;> cases e
end
section
variable {P:Program}{w:World}{K:PySem.W.Frag}{mg:Str->Option Value}{base:Heap}{f:Addr}{fd:FuncData}
theorem on_nil:∀(k:Nat) (ps:List Pl),onL [] k ps=ps
 | _,[]=>rfl
 | k,p::ps=>by
  rw [onL,on_nil (k+1) ps]
  simp [onP]
theorem mst_full{m:Nat}:∀(ps:List Pl) (k:Nat),k+ps.length<=m->mst (onL ((List.range m).map fun i:Nat=>(i:Int)) k ps)=1
 | [],_,_=>rfl
 | p::ps,k,h=>by
  rw [List.length_cons] at h
  simp only [onL,mst,onP]
  rw [if_pos (List.mem_map.mpr ⟨k,List.mem_range.mpr (by omega),rfl⟩),mst_full ps (k+1) (by omega)]
  rfl
theorem first_split{α:Type}(c:α->Bool):∀{l:List α} {x:α},x∈l->c x=true->∃ pre y post,l=pre++y::post/\(∀ z∈pre,c z=false)/\c y=true/\∃ rest,l.filter c=y::rest
 | a::l,x,h,hx=>by
  by_cases ca:c a=true
  ·exact⟨[],a,l,rfl,nofun,ca,l.filter c,by rw [List.filter_cons_of_pos ca]⟩
  ·rcases List.mem_cons.mp h with rfl | h
   ·exact absurd hx ca
   ·obtain⟨pre,y,post,e,h1,h2,rest,h3⟩:=first_split c h hx
    exact⟨a::pre,y,post,by rw [e];rfl,mem_two (by simpa using ca) h1,h2,rest,by rw [List.filter_cons_of_neg ca,h3]⟩
theorem ok_law(B:Blt mg){T:Addr}(F:Fun K "law" "law" s_law f fd)(C_most_down:Cal P w K mg base 1 "most_down" ["row"] (cnSp K sp_most_down))(C_once_at:Cal P w K mg base 4 "once_at" ["row", "places"] (cnSp K sp_once_at))(C_calm_row:Cal P w K mg base 5 "calm_row" ["row", "most"] (tabSp "all_places.<locals>.<lambda>" T (cnSp K sp_calm_row)))(C__law_cell_at:Cal P w K mg base 1 "_law_cell_at" ["_law_script", "_law_k"] (cnSp K sp__law_cell_at))(C__law_pen_of:Cal P w K mg base 1 "_law_pen_of" ["_law_cell"] (cnSp K sp__law_pen_of))(C__law_draw:Cal P w K mg base 2 "_law_draw" ["_law_pen", "_law_many"] (cnSp K sp__law_draw))(C__law_whole:Cal P w K mg base 1 "_law_whole" ["_law_found"] (cnSp K sp__law_whole))(C__law_house:Cal P w K mg base 4 "_law_house" ["_law_pen"] (cnSp K sp__law_house))(C__law_all:Cal P w K mg base 1 "_law_all" ["_law_many"] (cnSp K sp__law_all))(C__law_most:Cal P w K mg base 1 "_law_most" ["_law_row_here", "_law_places"] (cnSp K sp__law_most)):FnOk P w K mg base CX0 6 f fd ["_law_script"] (tabSp "all_places.<locals>.<lambda>" T (cnSp K sp_law)):=by
 refine F.dokT sc_law (fun ws Q h=>?_) (fun A outer s H ws Q E hr hT h=>?_)
 ·obtain⟨ns,rfl,_⟩:=h
  rfl
 obtain⟨ns,rfl,h63,q⟩:=h
 refine⟨_,(dss_cons (ds_for PassesOwn.never rfl (di_seq (de_op o_add (DE.dv (DF.de (df_lst (da_cons (de_call C__law_cell_at hr rfl (dp_vw 0 (dp_val de_int dp_nil sE_C))) da_nil)))) (DE.dv (DF.de (df_scr 0 (do_some de_int) (do_some de_int)))))) (dg_name (i:=1) sc_law.nd rfl (Or.inl rfl)) (dss_cons (ds_setP (i:=2) sc_law.nd rfl (Or.inl rfl) (df_call C__law_pen_of hr rfl (dp_vw 1 dp_nil))) (dss_cons (ds_set (i:=3) sc_law.nd rfl (Or.inr rfl) (de_call C__law_house hr rfl (dp_vw 2 dp_nil))) (dss_cons (ds_set (i:=4) sc_law.nd rfl (Or.inl rfl) (de_call C__law_all hr rfl (dp_val (de_callB c_len rfl B.len PySem.boot_len (dav_cons (dv_own 3) dav_nil)) dp_nil))) (dss_cons (ds_set (i:=5) sc_law.nd rfl (Or.inl rfl) (de_call C__law_most hr rfl (dp_vw 3 (dp_val (de_ix (dv_own 4) (de_call C__law_draw hr rfl (dp_vw 2 (dp_val (de_callB c_len rfl B.len PySem.boot_len (dav_cons (dv_own 4) dav_nil)) dp_nil))) (fun _ _=>rfl)) dp_nil)))) (dss_one (ds_for PassesOwn.never rfl (di_seq (DF.de (df_lst (da_cons de_int (da_cons de_int (da_cons (de_var 5) (da_cons (de_op o_add (dv_own 5) (DE.dv de_int)) (da_cons (de_callB (c_max rfl) rfl B.max boot_max (dav_cons (DE.dv de_int) (dav_cons (DE.dv (de_op o_sub (dv_own 5) (DE.dv de_int))) dav_nil) sE_C)) (da_cons (de_op o_add (DE.dv de_int) (DE.dv (de_call C__law_draw hr rfl (dp_vw 2 (dp_val de_int dp_nil sE_C))))) (da_cons (de_op o_pow (DE.dv de_int) (DE.dv de_int)) (da_cons (de_var 5) da_nil)))))) sE_C) sE_C)))) (dg_name (i:=6) sc_law.nd rfl (Or.inr rfl)) (dss_cons (ds_set (i:=7) sc_law.nd rfl (Or.inl rfl) (de_ix (DE.dv (DF.de (df_lc rfl (N':=["_law_places", "_law_number", "_law_row_here"]) (capt:=["_law_number", "_law_row_here"]) (k:=1) (js:=[6,3]) ⟨rfl,by decide,rfl,by decide,(.cons rfl (.cons rfl .nil)),rfl,(.cons rfl (Or.inl rfl) rfl (Or.inl rfl) (.cons rfl (Or.inl rfl) rfl (Or.inl rfl) .nil)),rfl,by decide⟩ (diw_seq (dv_own 4)) (fun _ _ _ _=>(dg_name (i:=0) (show List.Nodup (["_law_places", "_law_number", "_law_row_here"]:List Str) by decide +kernel) rfl (Or.inl rfl) (Or.inr rfl))) (fun _ _ _ _=>(dts_one (dt_cmp o_le (DE.dv (de_call C__law_most hr rfl (dp_vw 2 (dp_vw 0 dp_nil)))) (dv_own 1) (nomark _)))) (fun _ _ _ _=>(de_var 0))))) de_int (fun _ _=>rfl))) (dss_cons (ds_set (i:=8) sc_law.nd rfl (Or.inl rfl) (de_callT C_calm_row hT hr rfl (dp_vw 3 (dp_vw 6 dp_nil)))) (dss_cons (ds_if (DWt.dt (dw_or (dt_cmp (o_ne hr) (DE.dv (de_reprA hr rfl B.repr boot_repr (dan_cons (dn_var 8) dan_nil))) (DE.dv (de_reprA hr rfl B.repr boot_repr (dan_cons (dn_var 7) dan_nil))) (nomark _)) (dw_or1 (dt_not (dt_tru (DE.dv (de_callB (c_all rfl) rfl B.all boot_all (dav_cons (DE.dv (DF.de (df_lc rfl (N':=["_law_place"]) (capt:=[]) (k:=1) (js:=[]) ⟨rfl,by decide,rfl,by decide,.nil,rfl,.nil,rfl,by decide⟩ (diw_seq (dv_own 8)) (fun _ _ _ _=>(dg_name (i:=0) (show List.Nodup (["_law_place"]:List Str) by decide +kernel) rfl (Or.inl rfl) (Or.inr rfl))) (fun _ _ _ _=>dts_nil) (fun _ _ _ _=>(de_call C__law_whole hr rfl (dp_vw 0 dp_nil)))))) dav_nil)))))))) (dss_one (ds_ret de_bl)) dss_nil) (dss_cons (ds_set (i:=9) sc_law.nd rfl (Or.inl rfl) (de_call C_once_at hr rfl (dp_vw 3 (dp_vw 8 dp_nil)))) (dss_one (ds_if (DWt.dt (dw_or (dt_cmp (o_ne hr) (DE.dv (de_call C_most_down hr rfl (dp_vw 9 dp_nil))) (DE.dv (de_call C__law_most hr rfl (dp_vw 3 (dp_vw 7 dp_nil)))) (nomark _)) (dw_or1 (dt_cmp (o_ne hr) (DE.dv (de_call C_most_down hr rfl (dp_vw 3 dp_nil))) (DE.dv (de_call C__law_most hr rfl (dp_vw 3 (dp_val (de_tup da_nil) dp_nil sE_T)))) (nomark _))))) (dss_one (ds_ret de_bl)) dss_nil))))))))))))) (dss_one (ds_ret de_bl))),?_⟩
 walk_at "ds"
 refine⟨ns,0,rfl,by decide,fun v=>?_⟩
 obtain⟨ys,ey,_,hy⟩:=sliceD_map PyData.int ns (some 1) (some 2)
 rw [ey,List.length_map]
 refine⟨by omega,?_⟩
 walk_at "ds"
 refine forD_suf (fun ds σ=>∃(vs:List Int) (u1 u2 u3 u4 u5 u6 u7 u8 u9:Option W),ds=vs.map PyData.int/\σ = [some (.scr ns),u1,u2,u3,u4,u5,u6,u7,u8,u9]) ?_ ?_ ⟨v::ys,none,none,none,none,none,none,none,none,none,rfl,rfl⟩
 ·rintro d ds σ N ⟨vs,u1,u2,u3,u4,u5,u6,u7,u8,u9,e,rfl⟩ k
  cases vs with
  | nil=>cases e
  | cons v vs =>
   cases e
   refine dseq_by (fun σ=>σ = [some (.scr ns),some (.val (.int v)),some .pen,u3,u4,u5,u6,u7,u8,u9]) (fun N' hN=>?_) ?_
   ·walk_at "ds"
    refine⟨_,rfl,fun a b c=>?_⟩
    walk_at "ds"
    exact⟨⟨a,b,c,rfl⟩,hN _ rfl⟩
   rintro σ rfl
   refine dseq_by (fun σ=>∃ ps:List Pl,Rw ps/\σ = [some (.scr ns),some (.val (.int v)),some .pen,some (.val (.tuple (ps.map Pl.D))),u4,u5,u6,u7,u8,u9]) (fun N' hN=>?_) ?_
   ·walk_at "ds"
    refine⟨rfl,fun p ps hl ho=>?_⟩
    walk_at "ds"
    exact hN _ ⟨p::ps,⟨by simp,by simp;omega,fun x hx=>⟨(ho x hx).1.n1,(ho x hx).2⟩⟩,rfl⟩
   rintro σ ⟨ps,g,rfl⟩
   walk_at "ds"
   refine⟨ps.length,by rw [List.length_map],g.1,g.2.1,?_⟩
   walk_at "ds"
   obtain⟨F1,F2,F3,F4,F5⟩:=pl_facts g.1 g.2.1
   have g4:=g.2.1
   have pos:1<=(plcs ps.length).length:=List.length_pos_of_mem F5
   rw [List.length_map]
   refine drawI (by omega) (by omega) fun a la ha=>?_
   walk_at "ds"
   obtain⟨d0,e0,m0⟩:=atI_ok (xs:=(plcs ps.length).map tD) (k:=a) la (by rw [List.length_map];exact ha)
   obtain⟨l0,hl0,rfl⟩:=List.mem_map.mp m0
   refine⟨_,e0,?_⟩
   refine⟨ps,l0,rfl,g,(pg_of g.1 g.2.1 hl0).2,?_⟩
   have b0:=mst_sm (ps:=onL l0 0 ps) (by rw [onL_len];exact g4) (on_bd g.2.2)
   generalize mst (onL l0 0 ps)=near at b0 ⊢
   walk_at "ds"
   refine drawI (by first | decide | omega) (by first | decide | omega) fun c lc hc=>?_
   walk_at "ds"
   refine⟨by unfold CPow;decide,?_⟩
   refine forD_suf (fun ds σ=>(∀ d∈ds,∃ n:Int,d=.int n/\1<=n)/\∃ u6 u7 u8 u9,σ = [some (.scr ns),some (.val (.int v)),some .pen,some (.val (.tuple (ps.map Pl.D))),some (.val (.list ((plcs ps.length).map tD))),some (.val (.int near)),u6,u7,u8,u9]) ?_ ?_ ⟨?_,_,_,_,_,rfl⟩
   ·rintro d ds σ N2 ⟨hd,u6,u7,u8,u9,rfl⟩ k2
    obtain⟨n,rfl,hn⟩:=hd d List.mem_cons_self
    obtain⟨pre,l,post,ep,h1,h2,rest,h3⟩:=first_split (fun x=>decide (mst (onL x 0 ps)<=n)) F5 (by rw [mst_full ps 0 (by omega)];simpa using hn)
    have hl:l∈plcs ps.length:=by rw [ep];simp
    have hn':mst (onL l 0 ps)<=n:=by simpa using h2
    obtain⟨pg,l4⟩:=pg_of g.1 g4 hl
    walk_at "ds"
    refine⟨by rw [List.length_map];omega,lcD_fmT tD (fun x=>if decide (mst (onL x 0 ps)<=n)=true then some (tD (id x)) else none) (fun x hx K hK=>?_) ?_⟩
    ·walk_at "ds"
     refine⟨ps,x,rfl,g,(pg_of g.1 g4 hx).2,?_⟩
     walk_at "ds"
     by_cases c:mst (onL x 0 ps)<=n
     ·simpa [c] using hK
     ·simpa [c] using hK
    rw [fm_filter (fun x=>decide (mst (onL x 0 ps)<=n)) id tD,h3]
    refine⟨tD l,atI_zero _ _,?_⟩
    walk_at "ds"
    refine⟨ps,n,pre,l,post,rfl,g,ep,fun x hx=>by simpa using h1 x hx,hn',?_⟩
    have sh:Sh (tD l) (4 * (41+2)+3) 1:=Sh.tup (n:=41) (k:=0) (m:=4) (fun x hx=>by
     obtain⟨i,hi,rfl⟩:=List.mem_map.mp hx
     have:=pg.bd i hi
     exact Sh.intB (by omega) (by omega)) (by rw [List.length_map];exact l4)
    walk_at "ds"
    refine⟨sh.can,sh.rep (by decide) (by decide) nofun ⟨sh.can,sh.rep (by decide) (by decide) nofun ?_⟩⟩
    simp only [tD]
    walk_at "ds"
    try simp only [decide_true,Bool.not_true,Bool.false_eq_true,if_false]
    rw [List.length_map]
    refine⟨by omega,lcD_mapT PyData.int (fun _=>.bool true) (fun x hx K hK=>?_) ⟨l.map fun _=>true,?_,?_⟩⟩
    ·walk_at "ds"
     exact⟨_,rfl,hK⟩
    ·have:=boolsD_map (l.map fun _=>true)
     rw [List.map_map] at this
     exact this
    rw [if_neg (by simp)]
    refine⟨ps,l,rfl,by omega,by omega,pg,?_⟩
    walk_at "ds"
    refine⟨onL l 0 ps,rfl,by rw [onL_len];exact g4,on_bd g.2.2,?_⟩
    walk_at "ds"
    refine⟨ps,l,rfl,g,l4,?_⟩
    walk_at "ds"
    rw [if_neg (by simp)]
    refine⟨ps,rfl,g4,g.2.2,?_⟩
    walk_at "ds"
    refine⟨ps,[],rfl,g,by simp,?_⟩
    rw [on_nil]
    walk_at "ds"
    first
     | (rw [if_neg (by simp)];exact k2 _ ⟨fun d h=>hd d (List.mem_cons_of_mem _ h),_,_,_,_,rfl⟩)
     | exact k2 _ ⟨fun d h=>hd d (List.mem_cons_of_mem _ h),_,_,_,_,rfl⟩
   ·rintro σ ⟨_,u6,u7,u8,u9,rfl⟩
    exact k _ ⟨vs,_,_,_,_,_,_,_,_,_,rfl,rfl⟩
   ·intro d hd
    simp only [List.mem_cons,List.not_mem_nil,or_false] at hd
    rcases hd with rfl | rfl | rfl | rfl | rfl | rfl | rfl | rfl <;> exact⟨_,rfl,by first | omega | decide⟩
 ·rintro σ ⟨vs,u1,u2,u3,u4,u5,u6,u7,u8,u9,e,rfl⟩
  walk_at "ds"
  exact q
end
theorem us_0{us:List Value}(h:us.length=0):us = []:=List.eq_nil_of_length_eq_zero h
theorem us_1{us:List Value}(h:us.length=1):∃ a0,us = [a0]:=by
 cases us with
 | nil=>cases h
 | cons a t =>
  obtain rfl:=us_0 (Nat.succ.inj h)
  exact⟨a,rfl⟩
theorem us_2{us:List Value}(h:us.length=2):∃ a0 a1,us = [a0,a1]:=by
 cases us with
 | nil=>cases h
 | cons a t =>
  obtain⟨a1,rfl⟩:=us_1 (Nat.succ.inj h)
  exact⟨a,a1,rfl⟩
theorem us_3{us:List Value}(h:us.length=3):∃ a0 a1 a2,us = [a0,a1,a2]:=by
 cases us with
 | nil=>cases h
 | cons a t =>
  obtain⟨a1,a2,rfl⟩:=us_2 (Nat.succ.inj h)
  exact⟨a,a1,a2,rfl⟩
theorem all_mk{l:PySem.W.OpenLaw}{w:World}{K:PySem.W.Frag}{h:Heap}{mg:Str->Option Value}{fa f0 f1 f2 f3 f4 f5 f6 f7 f8 f9 f10 f11 f12 f13 f14 f15 f16:Addr}(X:K.In h)(G:h.Ns mainGlobals mg)(hfa:mg "law" = some (.ref fa))
  {od0 an0:Option Addr} {sl0:Array (Option Value)} {oc0 kV0 dc0 pm0 cd0 ct0:Value}
  (a0:PySem.W.nsIn K mainGlobals "is_whole" = some (some (.ref f0))) (l0:K.lookup f0=some ⟨oc0,od0,.func (PySem.W.fnOf "is_whole" "is_whole" (defArgs s_is_whole) (defBody s_is_whole) (defScope s_is_whole) .none kV0 dc0 pm0 an0 cd0 ct0),sl0⟩) (c0:PySem.W.codeIn K cd0 "is_whole" = true) (k0:PySem.W.keepIn K (.ref f0)=true)
  {od1 an1:Option Addr} {sl1:Array (Option Value)} {oc1 kV1 dc1 pm1 cd1 ct1:Value}
  (a1:PySem.W.nsIn K mainGlobals "whole_in" = some (some (.ref f1))) (l1:K.lookup f1=some ⟨oc1,od1,.func (PySem.W.fnOf "whole_in" "whole_in" (defArgs s_whole_in) (defBody s_whole_in) (defScope s_whole_in) .none kV1 dc1 pm1 an1 cd1 ct1),sl1⟩) (c1:PySem.W.codeIn K cd1 "whole_in" = true) (k1:PySem.W.keepIn K (.ref f1)=true)
  {od2 an2:Option Addr} {sl2:Array (Option Value)} {oc2 kV2 dc2 pm2 cd2 ct2:Value}
  (a2:PySem.W.nsIn K mainGlobals "most_down" = some (some (.ref f2))) (l2:K.lookup f2=some ⟨oc2,od2,.func (PySem.W.fnOf "most_down" "most_down" (defArgs s_most_down) (defBody s_most_down) (defScope s_most_down) .none kV2 dc2 pm2 an2 cd2 ct2),sl2⟩) (c2:PySem.W.codeIn K cd2 "most_down" = true) (k2:PySem.W.keepIn K (.ref f2)=true)
  {od3 an3:Option Addr} {sl3:Array (Option Value)} {oc3 kV3 dc3 pm3 cd3 ct3:Value}
  (a3:PySem.W.nsIn K mainGlobals "places_good" = some (some (.ref f3))) (l3:K.lookup f3=some ⟨oc3,od3,.func (PySem.W.fnOf "places_good" "places_good" (defArgs s_places_good) (defBody s_places_good) (defScope s_places_good) .none kV3 dc3 pm3 an3 cd3 ct3),sl3⟩) (c3:PySem.W.codeIn K cd3 "places_good" = true) (k3:PySem.W.keepIn K (.ref f3)=true)
  {od4 an4:Option Addr} {sl4:Array (Option Value)} {oc4 kV4 dc4 pm4 cd4 ct4:Value}
  (a4:PySem.W.nsIn K mainGlobals "once_at" = some (some (.ref f4))) (l4:K.lookup f4=some ⟨oc4,od4,.func (PySem.W.fnOf "once_at" "once_at" (defArgs s_once_at) (defBody s_once_at) (defScope s_once_at) .none kV4 dc4 pm4 an4 cd4 ct4),sl4⟩) (c4:PySem.W.codeIn K cd4 "once_at" = true) (k4:PySem.W.keepIn K (.ref f4)=true)
  {od5 an5:Option Addr} {sl5:Array (Option Value)} {oc5 kV5 dc5 pm5 cd5 ct5:Value}
  (a5:PySem.W.nsIn K mainGlobals "all_places" = some (some (.ref f5))) (l5:K.lookup f5=some ⟨oc5,od5,.func (PySem.W.fnOf "all_places" "all_places" (defArgs s_all_places) (defBody s_all_places) (defScope s_all_places) .none kV5 dc5 pm5 an5 cd5 ct5),sl5⟩) (c5:PySem.W.codeIn K cd5 "all_places" = true) (k5:PySem.W.keepIn K (.ref f5)=true)
  {od6 an6:Option Addr} {sl6:Array (Option Value)} {oc6 kV6 dc6 pm6 cd6 ct6:Value}
  (a6:PySem.W.nsIn K mainGlobals "calm_row" = some (some (.ref f6))) (l6:K.lookup f6=some ⟨oc6,od6,.func (PySem.W.fnOf "calm_row" "calm_row" (defArgs s_calm_row) (defBody s_calm_row) (defScope s_calm_row) .none kV6 dc6 pm6 an6 cd6 ct6),sl6⟩) (c6:PySem.W.codeIn K cd6 "calm_row" = true) (k6:PySem.W.keepIn K (.ref f6)=true)
  {od7 an7:Option Addr} {sl7:Array (Option Value)} {oc7 kV7 dc7 pm7 cd7 ct7:Value}
  (a7:PySem.W.nsIn K mainGlobals "_law_cell_at" = some (some (.ref f7))) (l7:K.lookup f7=some ⟨oc7,od7,.func (PySem.W.fnOf "_law_cell_at" "_law_cell_at" (defArgs s__law_cell_at) (defBody s__law_cell_at) (defScope s__law_cell_at) .none kV7 dc7 pm7 an7 cd7 ct7),sl7⟩) (c7:PySem.W.codeIn K cd7 "_law_cell_at" = true) (k7:PySem.W.keepIn K (.ref f7)=true)
  {od8 an8:Option Addr} {sl8:Array (Option Value)} {oc8 kV8 dc8 pm8 cd8 ct8:Value}
  (a8:PySem.W.nsIn K mainGlobals "_law_next" = some (some (.ref f8))) (l8:K.lookup f8=some ⟨oc8,od8,.func (PySem.W.fnOf "_law_next" "_law_next" (defArgs s__law_next) (defBody s__law_next) (defScope s__law_next) .none kV8 dc8 pm8 an8 cd8 ct8),sl8⟩) (c8:PySem.W.codeIn K cd8 "_law_next" = true) (k8:PySem.W.keepIn K (.ref f8)=true)
  {od9 an9:Option Addr} {sl9:Array (Option Value)} {oc9 kV9 dc9 pm9 cd9 ct9:Value}
  (a9:PySem.W.nsIn K mainGlobals "_law_pen_of" = some (some (.ref f9))) (l9:K.lookup f9=some ⟨oc9,od9,.func (PySem.W.fnOf "_law_pen_of" "_law_pen_of" (defArgs s__law_pen_of) (defBody s__law_pen_of) (defScope s__law_pen_of) .none kV9 dc9 pm9 an9 cd9 ct9),sl9⟩) (c9:PySem.W.codeIn K cd9 "_law_pen_of" = true) (k9:PySem.W.keepIn K (.ref f9)=true)
  {od10 an10:Option Addr} {sl10:Array (Option Value)} {oc10 kV10 dc10 pm10 cd10 ct10:Value}
  (a10:PySem.W.nsIn K mainGlobals "_law_draw" = some (some (.ref f10))) (l10:K.lookup f10=some ⟨oc10,od10,.func (PySem.W.fnOf "_law_draw" "_law_draw" (defArgs s__law_draw) (defBody s__law_draw) (defScope s__law_draw) .none kV10 dc10 pm10 an10 cd10 ct10),sl10⟩) (c10:PySem.W.codeIn K cd10 "_law_draw" = true) (k10:PySem.W.keepIn K (.ref f10)=true)
  {od11 an11:Option Addr} {sl11:Array (Option Value)} {oc11 kV11 dc11 pm11 cd11 ct11:Value}
  (a11:PySem.W.nsIn K mainGlobals "_law_whole" = some (some (.ref f11))) (l11:K.lookup f11=some ⟨oc11,od11,.func (PySem.W.fnOf "_law_whole" "_law_whole" (defArgs s__law_whole) (defBody s__law_whole) (defScope s__law_whole) .none kV11 dc11 pm11 an11 cd11 ct11),sl11⟩) (c11:PySem.W.codeIn K cd11 "_law_whole" = true) (k11:PySem.W.keepIn K (.ref f11)=true)
  {od12 an12:Option Addr} {sl12:Array (Option Value)} {oc12 kV12 dc12 pm12 cd12 ct12:Value}
  (a12:PySem.W.nsIn K mainGlobals "_law_plan" = some (some (.ref f12))) (l12:K.lookup f12=some ⟨oc12,od12,.func (PySem.W.fnOf "_law_plan" "_law_plan" (defArgs s__law_plan) (defBody s__law_plan) (defScope s__law_plan) .none kV12 dc12 pm12 an12 cd12 ct12),sl12⟩) (c12:PySem.W.codeIn K cd12 "_law_plan" = true) (k12:PySem.W.keepIn K (.ref f12)=true)
  {od13 an13:Option Addr} {sl13:Array (Option Value)} {oc13 kV13 dc13 pm13 cd13 ct13:Value}
  (a13:PySem.W.nsIn K mainGlobals "_law_house" = some (some (.ref f13))) (l13:K.lookup f13=some ⟨oc13,od13,.func (PySem.W.fnOf "_law_house" "_law_house" (defArgs s__law_house) (defBody s__law_house) (defScope s__law_house) .none kV13 dc13 pm13 an13 cd13 ct13),sl13⟩) (c13:PySem.W.codeIn K cd13 "_law_house" = true) (k13:PySem.W.keepIn K (.ref f13)=true)
  {od14 an14:Option Addr} {sl14:Array (Option Value)} {oc14 kV14 dc14 pm14 cd14 ct14:Value}
  (a14:PySem.W.nsIn K mainGlobals "_law_all" = some (some (.ref f14))) (l14:K.lookup f14=some ⟨oc14,od14,.func (PySem.W.fnOf "_law_all" "_law_all" (defArgs s__law_all) (defBody s__law_all) (defScope s__law_all) .none kV14 dc14 pm14 an14 cd14 ct14),sl14⟩) (c14:PySem.W.codeIn K cd14 "_law_all" = true) (k14:PySem.W.keepIn K (.ref f14)=true)
  {od15 an15:Option Addr} {sl15:Array (Option Value)} {oc15 kV15 dc15 pm15 cd15 ct15:Value}
  (a15:PySem.W.nsIn K mainGlobals "_law_most" = some (some (.ref f15))) (l15:K.lookup f15=some ⟨oc15,od15,.func (PySem.W.fnOf "_law_most" "_law_most" (defArgs s__law_most) (defBody s__law_most) (defScope s__law_most) .none kV15 dc15 pm15 an15 cd15 ct15),sl15⟩) (c15:PySem.W.codeIn K cd15 "_law_most" = true) (k15:PySem.W.keepIn K (.ref f15)=true)
  {od16 an16:Option Addr} {sl16:Array (Option Value)} {oc16 kV16 dc16 pm16 cd16 ct16:Value}
  (a16:PySem.W.nsIn K mainGlobals "law" = some (some (.ref f16))) (l16:K.lookup f16=some ⟨oc16,od16,.func (PySem.W.fnOf "law" "law" (defArgs s_law) (defBody s_law) (defScope s_law) .none kV16 dc16 pm16 an16 cd16 ct16),sl16⟩) (c16:PySem.W.codeIn K cd16 "law" = true) (k16:PySem.W.keepIn K (.ref f16)=true)
  (z_len:PySem.W.nsIn K mainGlobals "len" = some none)
  (z_range:PySem.W.nsIn K mainGlobals "range" = some none)
  (z_enumerate:PySem.W.nsIn K mainGlobals "enumerate" = some none)
  (z_max:PySem.W.nsIn K mainGlobals "max" = some none)
  (z_repr:PySem.W.nsIn K mainGlobals "repr" = some none)
  (z_isinstance:PySem.W.nsIn K mainGlobals "isinstance" = some none)
  (z_all:PySem.W.nsIn K mainGlobals "all" = some none)
  (z_zip:PySem.W.nsIn K mainGlobals "zip" = some none)
  (z_sorted:PySem.W.nsIn K mainGlobals "sorted" = some none)
  (z_tupleT:PySem.W.nsIn K mainGlobals "tuple" = some none)
  (z_intT:PySem.W.nsIn K mainGlobals "int" = some none)
  (z_boolT:PySem.W.nsIn K mainGlobals "bool" = some none)
  {c T:Addr} (hcd:cd5=.ref c):∃ fd:FuncData,(∀(s:Shared) (v:Value),BindsTo s fd ⟨[v],[]⟩ [("_law_script",v)])/\∀ base:Heap,K.In base->base.Ns mainGlobals mg->BltAt mg base->PySem.W.CodeHd base c T->FnOk l.prog w K mg base CX0 6 fa fd ["_law_script"] (tabSp "all_places.<locals>.<lambda>" T (cnSp K sp_law)):=by
 have e:=hfa.symm.trans (PySem.W.mg_of X G a16)
 cases e
 have B:Blt mg:=⟨PySem.W.mg_none_of X G z_len,PySem.W.mg_none_of X G z_range,PySem.W.mg_none_of X G z_enumerate,PySem.W.mg_none_of X G z_max,PySem.W.mg_none_of X G z_repr,PySem.W.mg_none_of X G z_isinstance,PySem.W.mg_none_of X G z_all,PySem.W.mg_none_of X G z_zip,PySem.W.mg_none_of X G z_sorted,PySem.W.mg_none_of X G z_tupleT,PySem.W.mg_none_of X G z_intT,PySem.W.mg_none_of X G z_boolT⟩
 have F0:=fun_mk (st:=s_is_whole) l0 c0 k0
 have b0:=F0.binds (ps:=["thing"]) fun _ _ _ _ _ _ us hl=>by obtain⟨_,rfl⟩:=us_1 hl;rfl
 have F1:=fun_mk (st:=s_whole_in) l1 c1 k1
 have b1:=F1.binds (ps:=["thing", "least", "most"]) fun _ _ _ _ _ _ us hl=>by obtain⟨_,_,_,rfl⟩:=us_3 hl;rfl
 have F2:=fun_mk (st:=s_most_down) l2 c2 k2
 have b2:=F2.binds (ps:=["row"]) fun _ _ _ _ _ _ us hl=>by obtain⟨_,rfl⟩:=us_1 hl;rfl
 have F3:=fun_mk (st:=s_places_good) l3 c3 k3
 have b3:=F3.binds (ps:=["row", "thing"]) fun _ _ _ _ _ _ us hl=>by obtain⟨_,_,rfl⟩:=us_2 hl;rfl
 have F4:=fun_mk (st:=s_once_at) l4 c4 k4
 have b4:=F4.binds (ps:=["row", "places"]) fun _ _ _ _ _ _ us hl=>by obtain⟨_,_,rfl⟩:=us_2 hl;rfl
 have F5:=fun_mk (st:=s_all_places) l5 c5 k5
 have b5:=F5.binds (ps:=["many"]) fun _ _ _ _ _ _ us hl=>by obtain⟨_,rfl⟩:=us_1 hl;rfl
 have F6:=fun_mk (st:=s_calm_row) l6 c6 k6
 have b6:=F6.binds (ps:=["row", "most"]) fun _ _ _ _ _ _ us hl=>by obtain⟨_,_,rfl⟩:=us_2 hl;rfl
 have F7:=fun_mk (st:=s__law_cell_at) l7 c7 k7
 have b7:=F7.binds (ps:=["_law_script", "_law_k"]) fun _ _ _ _ _ _ us hl=>by obtain⟨_,_,rfl⟩:=us_2 hl;rfl
 have F8:=fun_mk (st:=s__law_next) l8 c8 k8
 have b8:=F8.binds (ps:=["_law_seed"]) fun _ _ _ _ _ _ us hl=>by obtain⟨_,rfl⟩:=us_1 hl;rfl
 have F9:=fun_mk (st:=s__law_pen_of) l9 c9 k9
 have b9:=F9.binds (ps:=["_law_cell"]) fun _ _ _ _ _ _ us hl=>by obtain⟨_,rfl⟩:=us_1 hl;rfl
 have F10:=fun_mk (st:=s__law_draw) l10 c10 k10
 have b10:=F10.binds (ps:=["_law_pen", "_law_many"]) fun _ _ _ _ _ _ us hl=>by obtain⟨_,_,rfl⟩:=us_2 hl;rfl
 have F11:=fun_mk (st:=s__law_whole) l11 c11 k11
 have b11:=F11.binds (ps:=["_law_found"]) fun _ _ _ _ _ _ us hl=>by obtain⟨_,rfl⟩:=us_1 hl;rfl
 have F12:=fun_mk (st:=s__law_plan) l12 c12 k12
 have b12:=F12.binds (ps:=["_law_pen"]) fun _ _ _ _ _ _ us hl=>by obtain⟨_,rfl⟩:=us_1 hl;rfl
 have F13:=fun_mk (st:=s__law_house) l13 c13 k13
 have b13:=F13.binds (ps:=["_law_pen"]) fun _ _ _ _ _ _ us hl=>by obtain⟨_,rfl⟩:=us_1 hl;rfl
 have F14:=fun_mk (st:=s__law_all) l14 c14 k14
 have b14:=F14.binds (ps:=["_law_many"]) fun _ _ _ _ _ _ us hl=>by obtain⟨_,rfl⟩:=us_1 hl;rfl
 have F15:=fun_mk (st:=s__law_most) l15 c15 k15
 have b15:=F15.binds (ps:=["_law_row_here", "_law_places"]) fun _ _ _ _ _ _ us hl=>by obtain⟨_,_,rfl⟩:=us_2 hl;rfl
 have F16:=fun_mk (st:=s_law) l16 c16 k16
 refine⟨PySem.W.fnOf "law" "law" (defArgs s_law) (defBody s_law) (defScope s_law) .none kV16 dc16 pm16 an16 cd16 ct16,fun s v=>.of_eq rfl,fun base _ _ hB hC=>?_⟩
 have C_is_whole:Callee l.prog w K mg base _ "is_whole" ["thing"] _:=⟨_,_,ok_is_whole B F0  ,b0,k0,PySem.W.mg_of X G a0⟩
 have C_most_down:Callee l.prog w K mg base _ "most_down" ["row"] _:=⟨_,_,ok_most_down B F2  ,b2,k2,PySem.W.mg_of X G a2⟩
 have C__law_cell_at:Callee l.prog w K mg base _ "_law_cell_at" ["_law_script", "_law_k"] _:=⟨_,_,ok__law_cell_at B F7  ,b7,k7,PySem.W.mg_of X G a7⟩
 have C__law_next:Callee l.prog w K mg base _ "_law_next" ["_law_seed"] _:=⟨_,_,ok__law_next B F8  ,b8,k8,PySem.W.mg_of X G a8⟩
 have C__law_pen_of:Callee l.prog w K mg base _ "_law_pen_of" ["_law_cell"] _:=⟨_,_,ok__law_pen_of B F9  ,b9,k9,PySem.W.mg_of X G a9⟩
 have C__law_whole:Callee l.prog w K mg base _ "_law_whole" ["_law_found"] _:=⟨_,_,ok__law_whole B F11  ,b11,k11,PySem.W.mg_of X G a11⟩
 have C__law_all:Callee l.prog w K mg base _ "_law_all" ["_law_many"] _:=⟨_,_,ok__law_all B F14  ,b14,k14,PySem.W.mg_of X G a14⟩
 have C__law_most:Callee l.prog w K mg base _ "_law_most" ["_law_row_here", "_law_places"] _:=⟨_,_,ok__law_most B F15  ,b15,k15,PySem.W.mg_of X G a15⟩
 have C_whole_in:Callee l.prog w K mg base _ "whole_in" ["thing", "least", "most"] _:=⟨_,_,ok_whole_in B F1  C_is_whole,b1,k1,PySem.W.mg_of X G a1⟩
 have C__law_draw:Callee l.prog w K mg base _ "_law_draw" ["_law_pen", "_law_many"] _:=⟨_,_,ok__law_draw B F10  C__law_next,b10,k10,PySem.W.mg_of X G a10⟩
 have C_places_good:Callee l.prog w K mg base _ "places_good" ["row", "thing"] _:=⟨_,_,ok_places_good B F3  C_whole_in,b3,k3,PySem.W.mg_of X G a3⟩
 have C__law_plan:Callee l.prog w K mg base _ "_law_plan" ["_law_pen"] _:=⟨_,_,ok__law_plan B F12  C__law_draw,b12,k12,PySem.W.mg_of X G a12⟩
 have C_once_at:Callee l.prog w K mg base _ "once_at" ["row", "places"] _:=⟨_,_,ok_once_at B F4  C_places_good,b4,k4,PySem.W.mg_of X G a4⟩
 have C_all_places:Callee l.prog w K mg base _ "all_places" ["many"] _:=⟨_,_,ok_all_places B F5 hB hC hcd  ,b5,k5,PySem.W.mg_of X G a5⟩
 have C__law_house:Callee l.prog w K mg base _ "_law_house" ["_law_pen"] _:=⟨_,_,ok__law_house B F13  C__law_draw C__law_plan,b13,k13,PySem.W.mg_of X G a13⟩
 have C_calm_row:Callee l.prog w K mg base _ "calm_row" ["row", "most"] _:=⟨_,_,ok_calm_row B F6  C_most_down C_once_at C_all_places,b6,k6,PySem.W.mg_of X G a6⟩
 exact ok_law B F16  C_most_down C_once_at C_calm_row C__law_cell_at C__law_pen_of C__law_draw C__law_whole C__law_house C__law_all C__law_most
theorem all_mkT{l:PySem.W.OpenLaw}{w:World}{K:PySem.W.Frag}{h:Heap}{mg:Str->Option Value}{fa f0 f1 f2 f3 f4 f5 f6 f7 f8 f9 f10 f11 f12 f13 f14 f15 f16:Addr}(X:K.In h)(G:h.Ns mainGlobals mg)(hfa:mg "law" = some (.ref fa))
  {od0 an0:Option Addr} {sl0:Array (Option Value)} {oc0 kV0 dc0 pm0 cd0 ct0:Value}
  (a0:PySem.W.nsIn K mainGlobals "is_whole" = some (some (.ref f0))) (l0:K.lookup f0=some ⟨oc0,od0,.func (PySem.W.fnOf "is_whole" "is_whole" (defArgs s_is_whole) (defBody s_is_whole) (defScope s_is_whole) .none kV0 dc0 pm0 an0 cd0 ct0),sl0⟩) (c0:PySem.W.codeIn K cd0 "is_whole" = true) (k0:PySem.W.keepIn K (.ref f0)=true)
  {od1 an1:Option Addr} {sl1:Array (Option Value)} {oc1 kV1 dc1 pm1 cd1 ct1:Value}
  (a1:PySem.W.nsIn K mainGlobals "whole_in" = some (some (.ref f1))) (l1:K.lookup f1=some ⟨oc1,od1,.func (PySem.W.fnOf "whole_in" "whole_in" (defArgs s_whole_in) (defBody s_whole_in) (defScope s_whole_in) .none kV1 dc1 pm1 an1 cd1 ct1),sl1⟩) (c1:PySem.W.codeIn K cd1 "whole_in" = true) (k1:PySem.W.keepIn K (.ref f1)=true)
  {od2 an2:Option Addr} {sl2:Array (Option Value)} {oc2 kV2 dc2 pm2 cd2 ct2:Value}
  (a2:PySem.W.nsIn K mainGlobals "most_down" = some (some (.ref f2))) (l2:K.lookup f2=some ⟨oc2,od2,.func (PySem.W.fnOf "most_down" "most_down" (defArgs s_most_down) (defBody s_most_down) (defScope s_most_down) .none kV2 dc2 pm2 an2 cd2 ct2),sl2⟩) (c2:PySem.W.codeIn K cd2 "most_down" = true) (k2:PySem.W.keepIn K (.ref f2)=true)
  {od3 an3:Option Addr} {sl3:Array (Option Value)} {oc3 kV3 dc3 pm3 cd3 ct3:Value}
  (a3:PySem.W.nsIn K mainGlobals "places_good" = some (some (.ref f3))) (l3:K.lookup f3=some ⟨oc3,od3,.func (PySem.W.fnOf "places_good" "places_good" (defArgs s_places_good) (defBody s_places_good) (defScope s_places_good) .none kV3 dc3 pm3 an3 cd3 ct3),sl3⟩) (c3:PySem.W.codeIn K cd3 "places_good" = true) (k3:PySem.W.keepIn K (.ref f3)=true)
  {od4 an4:Option Addr} {sl4:Array (Option Value)} {oc4 kV4 dc4 pm4 cd4 ct4:Value}
  (a4:PySem.W.nsIn K mainGlobals "once_at" = some (some (.ref f4))) (l4:K.lookup f4=some ⟨oc4,od4,.func (PySem.W.fnOf "once_at" "once_at" (defArgs s_once_at) (defBody s_once_at) (defScope s_once_at) .none kV4 dc4 pm4 an4 cd4 ct4),sl4⟩) (c4:PySem.W.codeIn K cd4 "once_at" = true) (k4:PySem.W.keepIn K (.ref f4)=true)
  {od5 an5:Option Addr} {sl5:Array (Option Value)} {oc5 kV5 dc5 pm5 cd5 ct5:Value}
  (a5:PySem.W.nsIn K mainGlobals "all_places" = some (some (.ref f5))) (l5:K.lookup f5=some ⟨oc5,od5,.func (PySem.W.fnOf "all_places" "all_places" (defArgs s_all_places) (defBody s_all_places) (defScope s_all_places) .none kV5 dc5 pm5 an5 cd5 ct5),sl5⟩) (c5:PySem.W.codeIn K cd5 "all_places" = true) (k5:PySem.W.keepIn K (.ref f5)=true)
  {od6 an6:Option Addr} {sl6:Array (Option Value)} {oc6 kV6 dc6 pm6 cd6 ct6:Value}
  (a6:PySem.W.nsIn K mainGlobals "calm_row" = some (some (.ref f6))) (l6:K.lookup f6=some ⟨oc6,od6,.func (PySem.W.fnOf "calm_row" "calm_row" (defArgs s_calm_row) (defBody s_calm_row) (defScope s_calm_row) .none kV6 dc6 pm6 an6 cd6 ct6),sl6⟩) (c6:PySem.W.codeIn K cd6 "calm_row" = true) (k6:PySem.W.keepIn K (.ref f6)=true)
  {od7 an7:Option Addr} {sl7:Array (Option Value)} {oc7 kV7 dc7 pm7 cd7 ct7:Value}
  (a7:PySem.W.nsIn K mainGlobals "_law_cell_at" = some (some (.ref f7))) (l7:K.lookup f7=some ⟨oc7,od7,.func (PySem.W.fnOf "_law_cell_at" "_law_cell_at" (defArgs s__law_cell_at) (defBody s__law_cell_at) (defScope s__law_cell_at) .none kV7 dc7 pm7 an7 cd7 ct7),sl7⟩) (c7:PySem.W.codeIn K cd7 "_law_cell_at" = true) (k7:PySem.W.keepIn K (.ref f7)=true)
  {od8 an8:Option Addr} {sl8:Array (Option Value)} {oc8 kV8 dc8 pm8 cd8 ct8:Value}
  (a8:PySem.W.nsIn K mainGlobals "_law_next" = some (some (.ref f8))) (l8:K.lookup f8=some ⟨oc8,od8,.func (PySem.W.fnOf "_law_next" "_law_next" (defArgs s__law_next) (defBody s__law_next) (defScope s__law_next) .none kV8 dc8 pm8 an8 cd8 ct8),sl8⟩) (c8:PySem.W.codeIn K cd8 "_law_next" = true) (k8:PySem.W.keepIn K (.ref f8)=true)
  {od9 an9:Option Addr} {sl9:Array (Option Value)} {oc9 kV9 dc9 pm9 cd9 ct9:Value}
  (a9:PySem.W.nsIn K mainGlobals "_law_pen_of" = some (some (.ref f9))) (l9:K.lookup f9=some ⟨oc9,od9,.func (PySem.W.fnOf "_law_pen_of" "_law_pen_of" (defArgs s__law_pen_of) (defBody s__law_pen_of) (defScope s__law_pen_of) .none kV9 dc9 pm9 an9 cd9 ct9),sl9⟩) (c9:PySem.W.codeIn K cd9 "_law_pen_of" = true) (k9:PySem.W.keepIn K (.ref f9)=true)
  {od10 an10:Option Addr} {sl10:Array (Option Value)} {oc10 kV10 dc10 pm10 cd10 ct10:Value}
  (a10:PySem.W.nsIn K mainGlobals "_law_draw" = some (some (.ref f10))) (l10:K.lookup f10=some ⟨oc10,od10,.func (PySem.W.fnOf "_law_draw" "_law_draw" (defArgs s__law_draw) (defBody s__law_draw) (defScope s__law_draw) .none kV10 dc10 pm10 an10 cd10 ct10),sl10⟩) (c10:PySem.W.codeIn K cd10 "_law_draw" = true) (k10:PySem.W.keepIn K (.ref f10)=true)
  {od11 an11:Option Addr} {sl11:Array (Option Value)} {oc11 kV11 dc11 pm11 cd11 ct11:Value}
  (a11:PySem.W.nsIn K mainGlobals "_law_whole" = some (some (.ref f11))) (l11:K.lookup f11=some ⟨oc11,od11,.func (PySem.W.fnOf "_law_whole" "_law_whole" (defArgs s__law_whole) (defBody s__law_whole) (defScope s__law_whole) .none kV11 dc11 pm11 an11 cd11 ct11),sl11⟩) (c11:PySem.W.codeIn K cd11 "_law_whole" = true) (k11:PySem.W.keepIn K (.ref f11)=true)
  {od12 an12:Option Addr} {sl12:Array (Option Value)} {oc12 kV12 dc12 pm12 cd12 ct12:Value}
  (a12:PySem.W.nsIn K mainGlobals "_law_plan" = some (some (.ref f12))) (l12:K.lookup f12=some ⟨oc12,od12,.func (PySem.W.fnOf "_law_plan" "_law_plan" (defArgs s__law_plan) (defBody s__law_plan) (defScope s__law_plan) .none kV12 dc12 pm12 an12 cd12 ct12),sl12⟩) (c12:PySem.W.codeIn K cd12 "_law_plan" = true) (k12:PySem.W.keepIn K (.ref f12)=true)
  {od13 an13:Option Addr} {sl13:Array (Option Value)} {oc13 kV13 dc13 pm13 cd13 ct13:Value}
  (a13:PySem.W.nsIn K mainGlobals "_law_house" = some (some (.ref f13))) (l13:K.lookup f13=some ⟨oc13,od13,.func (PySem.W.fnOf "_law_house" "_law_house" (defArgs s__law_house) (defBody s__law_house) (defScope s__law_house) .none kV13 dc13 pm13 an13 cd13 ct13),sl13⟩) (c13:PySem.W.codeIn K cd13 "_law_house" = true) (k13:PySem.W.keepIn K (.ref f13)=true)
  {od14 an14:Option Addr} {sl14:Array (Option Value)} {oc14 kV14 dc14 pm14 cd14 ct14:Value}
  (a14:PySem.W.nsIn K mainGlobals "_law_all" = some (some (.ref f14))) (l14:K.lookup f14=some ⟨oc14,od14,.func (PySem.W.fnOf "_law_all" "_law_all" (defArgs s__law_all) (defBody s__law_all) (defScope s__law_all) .none kV14 dc14 pm14 an14 cd14 ct14),sl14⟩) (c14:PySem.W.codeIn K cd14 "_law_all" = true) (k14:PySem.W.keepIn K (.ref f14)=true)
  {od15 an15:Option Addr} {sl15:Array (Option Value)} {oc15 kV15 dc15 pm15 cd15 ct15:Value}
  (a15:PySem.W.nsIn K mainGlobals "_law_most" = some (some (.ref f15))) (l15:K.lookup f15=some ⟨oc15,od15,.func (PySem.W.fnOf "_law_most" "_law_most" (defArgs s__law_most) (defBody s__law_most) (defScope s__law_most) .none kV15 dc15 pm15 an15 cd15 ct15),sl15⟩) (c15:PySem.W.codeIn K cd15 "_law_most" = true) (k15:PySem.W.keepIn K (.ref f15)=true)
  {od16 an16:Option Addr} {sl16:Array (Option Value)} {oc16 kV16 dc16 pm16 cd16 ct16:Value}
  (a16:PySem.W.nsIn K mainGlobals "law" = some (some (.ref f16))) (l16:K.lookup f16=some ⟨oc16,od16,.func (PySem.W.fnOf "law" "law" (defArgs s_law) (defBody s_law) (defScope s_law) .none kV16 dc16 pm16 an16 cd16 ct16),sl16⟩) (c16:PySem.W.codeIn K cd16 "law" = true) (k16:PySem.W.keepIn K (.ref f16)=true)
  (z_len:PySem.W.nsIn K mainGlobals "len" = some none)
  (z_range:PySem.W.nsIn K mainGlobals "range" = some none)
  (z_enumerate:PySem.W.nsIn K mainGlobals "enumerate" = some none)
  (z_max:PySem.W.nsIn K mainGlobals "max" = some none)
  (z_repr:PySem.W.nsIn K mainGlobals "repr" = some none)
  (z_isinstance:PySem.W.nsIn K mainGlobals "isinstance" = some none)
  (z_all:PySem.W.nsIn K mainGlobals "all" = some none)
  (z_zip:PySem.W.nsIn K mainGlobals "zip" = some none)
  (z_sorted:PySem.W.nsIn K mainGlobals "sorted" = some none)
  (z_tupleT:PySem.W.nsIn K mainGlobals "tuple" = some none)
  (z_intT:PySem.W.nsIn K mainGlobals "int" = some none)
  (z_boolT:PySem.W.nsIn K mainGlobals "bool" = some none)
  {c T:Addr} {ocT:Obj} (hcd:cd5=.ref c) (lc:K.lookup c=some ocT) (hO:HdO ocT T) (hne:c≠T) (gT0:h.get? T=some tab0):∃ fd:FuncData,(∀(s:Shared) (v:Value),BindsTo s fd ⟨[v],[]⟩ [("_law_script",v)])/\∃(c:Addr) (oc:Obj),K.lookup c=some oc/\HdO oc T/\c≠T/\∀ base:Heap,(noTab T K).In base->base.Ns mainGlobals mg->BltAt mg base->PySem.W.CodeHd base c T->FnOk l.prog w (noTab T K) mg base CX0 6 fa fd ["_law_script"] (tabSp "all_places.<locals>.<lambda>" T (cnSp (noTab T K) sp_law)):=by
 have gT:mainGlobals≠T:=glob_tab G gT0
 obtain⟨fd,hb,hF⟩:=all_mk (l:=l) (w:=w) (K:=noTab T K) (c:=c) (T:=T) (drop_in X) G hfa ((drop_ns gT).trans a0) (drop_at X gT0 l0 (fun z=>by cases z)) (drop_code X gT0 c0) (drop_keep X gT0 l0) ((drop_ns gT).trans a1) (drop_at X gT0 l1 (fun z=>by cases z)) (drop_code X gT0 c1) (drop_keep X gT0 l1) ((drop_ns gT).trans a2) (drop_at X gT0 l2 (fun z=>by cases z)) (drop_code X gT0 c2) (drop_keep X gT0 l2) ((drop_ns gT).trans a3) (drop_at X gT0 l3 (fun z=>by cases z)) (drop_code X gT0 c3) (drop_keep X gT0 l3) ((drop_ns gT).trans a4) (drop_at X gT0 l4 (fun z=>by cases z)) (drop_code X gT0 c4) (drop_keep X gT0 l4) ((drop_ns gT).trans a5) (drop_at X gT0 l5 (fun z=>by cases z)) (drop_code X gT0 c5) (drop_keep X gT0 l5) ((drop_ns gT).trans a6) (drop_at X gT0 l6 (fun z=>by cases z)) (drop_code X gT0 c6) (drop_keep X gT0 l6) ((drop_ns gT).trans a7) (drop_at X gT0 l7 (fun z=>by cases z)) (drop_code X gT0 c7) (drop_keep X gT0 l7) ((drop_ns gT).trans a8) (drop_at X gT0 l8 (fun z=>by cases z)) (drop_code X gT0 c8) (drop_keep X gT0 l8) ((drop_ns gT).trans a9) (drop_at X gT0 l9 (fun z=>by cases z)) (drop_code X gT0 c9) (drop_keep X gT0 l9) ((drop_ns gT).trans a10) (drop_at X gT0 l10 (fun z=>by cases z)) (drop_code X gT0 c10) (drop_keep X gT0 l10) ((drop_ns gT).trans a11) (drop_at X gT0 l11 (fun z=>by cases z)) (drop_code X gT0 c11) (drop_keep X gT0 l11) ((drop_ns gT).trans a12) (drop_at X gT0 l12 (fun z=>by cases z)) (drop_code X gT0 c12) (drop_keep X gT0 l12) ((drop_ns gT).trans a13) (drop_at X gT0 l13 (fun z=>by cases z)) (drop_code X gT0 c13) (drop_keep X gT0 l13) ((drop_ns gT).trans a14) (drop_at X gT0 l14 (fun z=>by cases z)) (drop_code X gT0 c14) (drop_keep X gT0 l14) ((drop_ns gT).trans a15) (drop_at X gT0 l15 (fun z=>by cases z)) (drop_code X gT0 c15) (drop_keep X gT0 l15) ((drop_ns gT).trans a16) (drop_at X gT0 l16 (fun z=>by cases z)) (drop_code X gT0 c16) (drop_keep X gT0 l16) ((drop_ns gT).trans z_len) ((drop_ns gT).trans z_range) ((drop_ns gT).trans z_enumerate) ((drop_ns gT).trans z_max) ((drop_ns gT).trans z_repr) ((drop_ns gT).trans z_isinstance) ((drop_ns gT).trans z_all) ((drop_ns gT).trans z_zip) ((drop_ns gT).trans z_sorted) ((drop_ns gT).trans z_tupleT) ((drop_ns gT).trans z_intT) ((drop_ns gT).trans z_boolT) hcd
 exact⟨fd,hb,c,ocT,lc,hO,hne,hF⟩
theorem walk{l:PySem.W.OpenLaw}{q:Program}{loose:List Str}{XP:(Str->Option Value)->Heap->Prop}{YP:World->Heap->Prop}{d:DefRec}{K:Params->PySem.W.Frag}{T:Addr}(hn:l.most=some 63)(hdf:d.params.defaults = [])
  (hY:∀(w:World) (h:Heap),YP w h->(K w.params).In h/\h.get? T=some tab0)
  (F:∀(w:World) (mg:Str->Option Value) (fa:Addr) (h:Heap),(K w.params).In h->h.get? T=some tab0->h.Ns mainGlobals mg->mg d.name=some (.ref fa) ->
   ∃ fd:FuncData,(∀(s:Shared) (u:Value),BindsTo s fd ⟨[u],[]⟩ [("_law_script",u)])/\∃(c:Addr) (oc:Obj),(K w.params).lookup c=some oc/\HdO oc T/\c≠T /\
    ∀ base:Heap,(noTab T (K w.params)).In base->base.Ns mainGlobals mg->BltAt mg base->PySem.W.CodeHd base c T->FnOk l.prog w (noTab T (K w.params)) mg base CX0 6 fa fd ["_law_script"] (tabSp "all_places.<locals>.<lambda>" T (cnSp (noTab T (K w.params)) sp_law))) :
  PySem.W.WalkO q loose XP YP l.row.toRowW d [] (fun f vs=>PySem.call f vs) :=
 L2.walk_ofT (n:=63) (k:=6) (x := "_law_script") (q := "all_places.<locals>.<lambda>") (sp:=fun w=>cnSp (noTab T (K w.params)) sp_law) hn (by decide) hdf ⟨rfl,by decide,by decide,rfl⟩ hY F (fun _ _ a ns hl hS=>⟨[.scr ns],fun r=>r=.val (.bool true),.cons ⟨a,rfl,hS⟩ .nil,⟨ns,rfl,hl,rfl⟩,fun v H' r _ rp e=>by subst e;cases rp;rfl⟩)
end My
namespace PySem.W.Fast
def tw1918576192850076127:=()
def tw2761188382083556472:=()
def tw7918339822413977611:=()
def tw2587316316814117953:=()
def tw3065470517279445678:=()
def tw4847538474657099623:=()
def tw12499150171056483898:=()
def tw7432179219003945933:=()
def tw5706827990598793338:=()
def tw18129320614868261573:=()
def tw17730766276592778659:=()
def tw12131702182695105947:=()
def tw2540453450577330356:=()
def tw12369964409342848245:=()
def tw7815320915019255904:=()
def tw16475657299959886506:=()
def tw13635512833825166760:=()
def tw17318469773557716832:=()
def tw18191136674215443048:=()
def tw15209379667859155458:=()
def tw4859626316116094336:=()
def tw12929346329473612270:=()
def tw7931300341681051494:=()
def tw15779020454965036415:=()
def tw972288712326457595:=()
def tw4137061808011519402:=()
def tw3387860019047886304:=()
def tw6432038988083563277:=()
def tw10835382653414151578:=()
def tw16734155301051714749:=()
def tw4857349359689416913:=()
def tw5224420364977891531:=()
def tw1191713500510159484:=()
def tw16117105514580223900:=()
def tw15655001293088669208:=()
def tw330726159855937364:=()
def tw3277657993257199805:=()
def tw5907341046545788023:=()
def tw14770952628096370453:=()
def tw16051493993063091811:=()
def tw18166681943027515574:=()
def tw6281027191939382358:=()
def tw14696937851873088138:=()
def tw15703399249061630470:=()
def tw7194107965189923327:=()
def tw11774963598605402497:=()
def tw17343799315289249205:=()
def tw15349741823048768164:=()
def tw16023955856501542577:=()
def tw9683574995219420514:=()
def tw15279568699882888168:=()
def tw6285623951957954774:=()
def tw6826271822594191186:=()
def tw12769270729767540119:=()
def tw1273063718024400620:=()
def tw15354372304095720048:=()
def tw7708888199899184385:=()
def tw15542954048029404996:=()
def tw9524504444515472582:=()
end PySem.W.Fast
open PySem PySem.W PyProof.Rows
set_option maxRecDepth 100000 in
set_option maxHeartbeats 0 in
theorem PySem.Challenge.cw_knockpurse_k87_calm_rows_holds : PySem.Challenge.rw_knockpurse_k87_calm_rows.Holds := by
 w_on;o_law;k_head;(case hw=>w_witness2)
 k_fill
 refine My.walk (l:=PySem.Challenge.rw_knockpurse_k87_calm_rows) rfl rfl (fun w h Y=>⟨PySem.W.km_in_of Y,PySem.W.km_tabs_of Y _ (.head _)⟩) ?F
 case F =>
  intro w mg fa h KX GT G hmg
  refine' My.all_mkT KX G hmg ?a0 ?l0 ?c0 ?k0 ?a1 ?l1 ?c1 ?k1 ?a2 ?l2 ?c2 ?k2 ?a3 ?l3 ?c3 ?k3 ?a4 ?l4 ?c4 ?k4 ?a5 ?l5 ?c5 ?k5 ?a6 ?l6 ?c6 ?k6 ?a7 ?l7 ?c7 ?k7 ?a8 ?l8 ?c8 ?k8 ?a9 ?l9 ?c9 ?k9 ?a10 ?l10 ?c10 ?k10 ?a11 ?l11 ?c11 ?k11 ?a12 ?l12 ?c12 ?k12 ?a13 ?l13 ?c13 ?k13 ?a14 ?l14 ?c14 ?k14 ?a15 ?l15 ?c15 ?k15 ?a16 ?l16 ?c16 ?k16 ?z_len ?z_range ?z_enumerate ?z_max ?z_repr ?z_isinstance ?z_all ?z_zip ?z_sorted ?z_tupleT ?z_intT ?z_boolT   ?hcd ?lc ?hO ?hne GT
  (case a0=>k_is);(case l0=>k_is);(case c0=>k_is);(case k0=>k_is)
  (case a1=>k_is);(case l1=>k_is);(case c1=>k_is);(case k1=>k_is)
  (case a2=>k_is);(case l2=>k_is);(case c2=>k_is);(case k2=>k_is)
  (case a3=>k_is);(case l3=>k_is);(case c3=>k_is);(case k3=>k_is)
  (case a4=>k_is);(case l4=>k_is);(case c4=>k_is);(case k4=>k_is)
  (case a5=>k_is);(case l5=>k_is);(case c5=>k_is);(case k5=>k_is)
  (case a6=>k_is);(case l6=>k_is);(case c6=>k_is);(case k6=>k_is)
  (case a7=>k_is);(case l7=>k_is);(case c7=>k_is);(case k7=>k_is)
  (case a8=>k_is);(case l8=>k_is);(case c8=>k_is);(case k8=>k_is)
  (case a9=>k_is);(case l9=>k_is);(case c9=>k_is);(case k9=>k_is)
  (case a10=>k_is);(case l10=>k_is);(case c10=>k_is);(case k10=>k_is)
  (case a11=>k_is);(case l11=>k_is);(case c11=>k_is);(case k11=>k_is)
  (case a12=>k_is);(case l12=>k_is);(case c12=>k_is);(case k12=>k_is)
  (case a13=>k_is);(case l13=>k_is);(case c13=>k_is);(case k13=>k_is)
  (case a14=>k_is);(case l14=>k_is);(case c14=>k_is);(case k14=>k_is)
  (case a15=>k_is);(case l15=>k_is);(case c15=>k_is);(case k15=>k_is)
  (case a16=>k_is);(case l16=>k_is);(case c16=>k_is);(case k16=>k_is)
  (case z_len=>k_is)
  (case z_range=>k_is)
  (case z_enumerate=>k_is)
  (case z_max=>k_is)
  (case z_repr=>k_is)
  (case z_isinstance=>k_is)
  (case z_all=>k_is)
  (case z_zip=>k_is)
  (case z_sorted=>k_is)
  (case z_tupleT=>k_is)
  (case z_intT=>k_is)
  (case z_boolT=>k_is)
  (case hcd=>rfl)
  (case lc=>k_is)
  (case hO=>exact⟨_,_,_,_,_,_,_,_,rfl,rfl,rfl,rfl,rfl,rfl,rfl,rfl⟩)
  (case hne=>decide)
