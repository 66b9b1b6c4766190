import PyProof.Rows.All
import PyProof.StrReplace2
import Wide.All
import OpenK.AllK
import Wide.FinOn
import Lean
import PyProof.EqAt
import PyProof.EqKinds
import PyProof.TupleCall
import PyProof.ListMulRoad
import PyProof.Lay0
import PyProof.Rows.EqDataRows
import PyProof.ReprRoads
import PyProof.Rows.MinMaxN
import PyProof.ReprLen
import PyProof.FitsInt
import PyProof.MinMaxWalk
import KE.KRevSl
import KE.KRevIter
import PyProof.ListRange
import PyProof.Sched
import PyProof.Rows.SortShellK
import PyProof.Rows.SortRunK
import PyProof.Rows.SortRuns
import PyProof.TupleOfSeq
import PyProof.RulesAs
import OpenK.KDescr
import OpenK.KOwn
import KE.KIsNot
import KE.KIsAll
import PyProof.Rows.SetFrom
import PyProof.WalksMore
import PyProof.CollectWalk
import KE.KLam
import KE.KMinKey
import KE.KSortKey
import KE.KDictList
import KE.KDictOf
import PyProof.Rows.Range3
import PyProof.FactsAll.range
import PyProof.Rows.StrLen
import PyProof.Rows.StrCase
import PyProof.StrBlock2
import PyProof.Rows.StrRules
import PyProof.Rows.RegReprOcc
import PyProof.AttrMissSeq
import PyProof.DictWalks
import KE.KEqDict
import PyProof.ExcInit
import PyProof.ExcClass3
import PyProof.InstStoreFacts
import PySem.Challenge.RW_knockpurse_k16_looks_at_a_house
set_option Elab.async false
set_option linter.all false
set_option maxRecDepth 100000
namespace L2
open PySem PySem.Spec PyProof.Rows
abbrev Key:=Sum Int Str
def keyIs:Key->Value->Bool
 | .inl k,v=>Value.isInt k v
 | .inr x,v=>Value.isStrOf x v
def keyH(w:World):Key->Int
 | .inl k=>hashInt k
 | .inr x=>hashStr w x
theorem keyIs_shape:∀{k:Key} {v:Value},keyIs k v=true->(∃ i t,k=Sum.inl i/\v=Value.int i t)\/(∃ x t,k=Sum.inr x/\v=Value.str x t)
 | .inl i,v,h=>by
  obtain⟨t,e⟩:=Value.isInt_shape (k:=i) (v:=v) h
  exact .inl ⟨i,t,rfl,e⟩
 | .inr x,v,h=>by
  obtain⟨t,e⟩:=Value.isStrOf_shape (x:=x) (v:=v) h
  exact .inr ⟨x,t,rfl,e⟩
theorem keyIs_int(i:Int)(t:Tok):keyIs (.inl i) (.int i t)=true:=by simp [keyIs,Value.isInt]
theorem keyIs_str(x:Str)(t:Tok):keyIs (.inr x) (.str x t)=true:=by simp [keyIs,Value.isStrOf]
theorem key_ll(a b:Int):decide ((Sum.inl a:Key)=Sum.inl b)=(a == b):=by
 by_cases e:a=b
 ·subst e;simp
 ·have h:¬ (Sum.inl a:Key)=Sum.inl b:=fun q=>e (Sum.inl.inj q)
  rw [decide_eq_false h]
  exact(beq_eq_false_iff_ne.mpr e).symm
theorem key_rr(a b:Str):decide ((Sum.inr a:Key)=Sum.inr b)=decide (a=b):=by
 by_cases e:a=b
 ·subst e;simp
 ·have h:¬ (Sum.inr a:Key)=Sum.inr b:=fun q=>e (Sum.inr.inj q)
  rw [decide_eq_false h,decide_eq_false e]
theorem key_lr(a:Int)(b:Str):decide ((Sum.inl a:Key)=Sum.inr b)=false:=decide_eq_false (fun q=>nomatch q)
theorem key_rl(a:Str)(b:Int):decide ((Sum.inr a:Key)=Sum.inl b)=false:=decide_eq_false (fun q=>nomatch q)
def mixKind(prog:Program)(w:World):PySem.KeyKind prog w Key where
 is:=keyIs
 hash:=keyH w
 inj:=fun v a b ha hb=>by
  rcases keyIs_shape ha with⟨i,t,rfl,rfl⟩ | ⟨x,t,rfl,rfl⟩
  ·rcases keyIs_shape hb with⟨j,u,rfl,e⟩ | ⟨y,u,rfl,e⟩
   ·injection e with e1 _;rw [e1]
   ·exact nomatch e
  ·rcases keyIs_shape hb with⟨j,u,rfl,e⟩ | ⟨y,u,rfl,e⟩
   ·exact nomatch e
   ·injection e with e1 _;rw [e1]
 byValue:=fun k v h=>by
  rcases keyIs_shape h with⟨i,t,rfl,rfl⟩ | ⟨x,t,rfl,rfl⟩ <;> rfl
 pyHash:=fun hv h=>by
  rcases keyIs_shape hv with⟨i,t,rfl,rfl⟩ | ⟨x,t,rfl,rfl⟩
  ·exact wpAny_pyHash_int h
  ·exact wpAny_pyHash_str h
 eqBool:=fun hu hv h=>by
  rcases keyIs_shape hu with⟨i,t,rfl,rfl⟩ | ⟨x,t,rfl,rfl⟩
  ·rcases keyIs_shape hv with⟨j,u,rfl,rfl⟩ | ⟨y,u,rfl,rfl⟩
   ·rw [key_ll] at h;exact wpAny_eqBool_int h
   ·rw [key_lr] at h;exact SeqAt.EqAt.int_str i t y u _ _ _ _ h
  ·rcases keyIs_shape hv with⟨j,u,rfl,rfl⟩ | ⟨y,u,rfl,rfl⟩
   ·rw [key_rl] at h;exact SeqAt.EqAt.str_int x t j u _ _ _ _ h
   ·rw [key_rr] at h;exact wpAny_eqBool_str h
 «strs»:=fun k x t v h=>by
  rcases keyIs_shape h with⟨i,u,rfl,e⟩ | ⟨y,u,rfl,e⟩
  ·exact nomatch e
  ·injection e with e1 _
   subst e1
   cases v <;> rfl
theorem mixKind_is(prog:Program)(w:World)(k:Key)(v:Value):(mixKind prog w).is k v=keyIs k v:=rfl
theorem mixKind_int(prog:Program)(w:World)(i:Int)(t:Tok):(mixKind prog w).is (.inl i) (.int i t)=true:=keyIs_int i t
theorem mixKind_str(prog:Program)(w:World)(x:Str)(t:Tok):(mixKind prog w).is (.inr x) (.str x t)=true:=keyIs_str x t
inductive V where
 | non | bl (b:Bool) | int (i:Int) | str (x:Str) | byt (b:Array UInt8) | flt (b:UInt64) | ref (a:Addr) | ty (n:String)
 deriving DecidableEq
def RelV:V->Value->Prop
 | .non,u=>u=Value.none
 | .bl b,u=>u=Value.bool b
 | .int i,u=>∃ t,u=Value.int i t
 | .str x,u=>∃ t,u=Value.str x t
 | .byt b,u=>∃ t,u=Value.bytes b t
 | .flt b,u=>∃ t,u=Value.float b t
 | .ref a,u=>u=Value.ref a
 | .ty n,u=>u=Value.type n
abbrev Vals:List V->List Value->Prop:=Paired RelV
theorem Vals.length{xs:List V}{us:List Value}(r:Vals xs us):xs.length=us.length:=Paired.length r
theorem Vals.get:∀{xs:List V} {us:List Value} {i:Nat} {x:V},Vals xs us->xs[i]?=some x->∃ u,us[i]?=some u/\RelV x u
 | _,_,_,_,.nil,e=>by simp at e
 | _,_,0,_,.cons r _,e=>by simp at e;subst e;exact⟨_,rfl,r⟩
 | _,_,i+1,x,.cons _ t,e=>by
  obtain⟨u,h1,h2⟩:=Vals.get (i:=i) (x:=x) t (by simpa using e)
  exact⟨u,by simpa using h1,h2⟩
theorem Vals.set{x:V}{u:Value}(r:RelV x u):∀{xs:List V} {us:List Value} (i:Nat),Vals xs us->Vals (xs.set i x) (us.set i u)
 | _,_,_,.nil=>.nil
 | _,_,0,.cons _ t=>.cons r t
 | _,_,i+1,.cons q t=>.cons q (Vals.set r i t)
theorem Vals.append:∀{xs ys:List V} {us ws:List Value},Vals xs us->Vals ys ws->Vals (xs++ys) (us++ws)
 | _,_,_,_,.nil,s=>s
 | _,_,_,_,.cons r t,s=>.cons r (Vals.append t s)
theorem Vals.take:∀{xs:List V} {us:List Value} (n:Nat),Vals xs us->Vals (xs.take n) (us.take n)
 | _,_,0,_=>.nil
 | _,_,_+1,.nil=>.nil
 | _,_,n+1,.cons r t=>.cons r (Vals.take n t)
theorem Vals.drop:∀{xs:List V} {us:List Value} (n:Nat),Vals xs us->Vals (xs.drop n) (us.drop n)
 | _,_,0,r=>r
 | _,_,_+1,.nil=>.nil
 | _,_,n+1,.cons _ t=>Vals.drop n t
def RelO:Option V->Option Value->Prop
 | some v,some u=>RelV v u
 | none,none=>True
 | _,_=>False
def KV{κ:Type}:List (κ×V)->List (κ×Value)->Prop:=Paired fun(p:κ×V) (q:κ×Value)=>p.1=q.1/\RelV p.2 q.2
def kV:Key->V
 | .inl i=>.int i
 | .inr x=>.str x
inductive HO where
  | lst (xs:List V)
  | tup (xs:List V)
  | dK (kvs:List (Key×V)) | dT (kvs:List (List Key×V))
  | set (S:Int->Bool) (n:Nat)
  | ins (C dx:Addr) (fs:List (Str×V))
  | own (x:Addr)
  | xd (fs:List (Str×V))
  | met (f x:Addr)
  | rng (lo hi:Int)
  | frz (o:Obj) (u:HO)
  | tbl (ps:Array Value)
  | ext (φ:Heap->Prop)
abbrev Hp:=Addr->Option HO
def upd(H:Hp)(a:Addr)(o:HO):Hp:=fun b=>if b=a then some o else H b
theorem upd_same{H:Hp}{a:Addr}{o:HO}:upd H a o a=some o:=by unfold upd;rw [if_pos rfl]
theorem upd_ne{H:Hp}{a b:Addr}{o:HO}(h:b≠a):upd H a o b=H b:=by unfold upd;rw [if_neg h]
theorem ne_of{H:Hp}{a b:Addr}{o u:HO}(h:H a=some o)(h':H b=some u)(d:o≠u):a≠b:=by
 intro e;subst e;rw [h] at h';exact d (Option.some.inj h')
theorem ne_of_none{H:Hp}{a b:Addr}{o:HO}(h:H a=some o)(h':H b=none):a≠b:=by
 intro e;subst e;rw [h] at h';cases h'
def TupD(h:Heap)(a:Addr)(items:Array Value):Prop:=∃ o,h.get? a=some o/\o.cls=.type "tuple" /\(∃ n,o.data=.seq items n)/\o.dict=none
theorem TupD.isTup{h:Heap}{a:Addr}{items:Array Value}(x:TupD h a items):IsTup h a items:=let ⟨o,e,c,d,_⟩:=x;⟨o,e,c,d⟩
theorem TupD.lt{h:Heap}{a:Addr}{items:Array Value}(x:TupD h a items):a<h.objs.size:=x.isTup.lt
theorem TupD.new(h:Heap)(items:Array Value):TupD (h.push { cls:=.type "tuple",data:=.seq items }) h.objs.size items:=⟨_,Heap.get?_push_size _ rfl,rfl,⟨_,rfl⟩,rfl⟩
def CodeO(oc:Obj)(q:Str):Prop:=∃ vs t,oc.data=.fields vs/\vs[1]?=some (.str q t)
def TabOk(H:Hp)(h:Heap)(a:Addr)(lab:Array Value):Prop:=∃(ps:Array Value) (q:Str) (t:Tok),lab = #[.str q t]/\h.get? a=some { cls:=.none,data:=.fields ps }/\TriplesOk ps.toList /\
 ∀ pos cv,codeAmong pos ps.toList=some cv->∃ c' oc u,cv=.ref c'/\H c'=some (.frz oc u)/\CodeO oc q
section
variable (P:Program)(w:World)
def ObjOk(H:Hp)(h:Heap)(a:Addr):HO->Prop
 | .lst xs=>xs.length<=sizeLine/\∃(its:List Value) (n:Nat),Vals xs its/\h.get? a=some { cls:=.type "list",data:=.seq its.toArray n }
 | .tup xs=>xs.length<=sizeLine/\∃ its:List Value,Vals xs its/\TupD h a its.toArray
 | .dK kvs=>kvs.length<=sizeLine/\(a == sysModules)=false/\∃ vs,KV kvs vs/\h.DictOf (mixKind P w) a vs
 | .dT kvs=>kvs.length<=sizeLine/\(a == sysModules)=false/\∃ xs:List (List Key×Addr×Value),
   Paired (fun(p:List Key×V) (q:List Key×Addr×Value)=>p.1=q.1/\H q.2.1=some (.tup (p.1.map kV))/\RelV p.2 q.2.2) kvs xs /\
   ∃ o es ep,h.get? a=some o/\o.ExactDict/\o.data=.dict es ep/\es.toList=xs.map (entryOfKey (tupleKind (mixKind P w)))/\(xs.map (·.1)).Nodup
 | .set S n=>h.SetOf (intKind P w) a S n
 | .ins C dx fs=>H dx=some (.own a)/\fs.length<=1000/\dx≠a/\h.get? a=some (PySem.W.instObj C dx) /\
   ∃ mA,h.Ns1 dx mA/\(∀ f,RelO (fs.lookup f) (mA f))/\PySem.Within mA (fs.map (·.1))
 | .own _=>∃ o,h.get? a=some o
 | .xd fs=>∃ mA,h.Ns1 a mA/\∀ f,RelO (fs.lookup f) (mA f)
 | .rng lo hi=>∃ t u v,h.get? a=some { cls:=.type "range",data:=.fields #[.int lo t,.int hi u,.int 1 v] }
 | .frz o u=>h.get? a=some o/\ObjOk H h a u
 | .tbl ps=>TabOk H h a ps
 | .met f x=>h.get? a=some (PySem.W.methodObj (.ref f) (.ref x))
 | .ext φ=>φ h/\(∃ o,h.get? a=some o)/\∀ h1 h2:Heap,φ h1->(∀ o,h1.get? a=some o->h2.get? a=some o)->φ h2
def HOk(H:Hp)(h:Heap):Prop:=∀ a o,H a=some o->ObjOk P w H h a o
end
section
variable {P:Program}{w:World}{H H':Hp}{h h':Heap}{a:Addr}{o:HO}
theorem ObjOk.lt(x:ObjOk P w H h a o):a<h.objs.size:=by
 cases o with
 | lst xs=>obtain⟨_,_,_,_,e⟩:=x;exact Heap.lt_size e
 | tup xs=>obtain⟨_,_,_,p⟩:=x;exact p.lt
 | dK kvs=>obtain⟨_,_,_,_,o,_,_,e,_⟩:=x;exact Heap.lt_size e
 | dT kvs=>obtain⟨_,_,_,_,o,_,_,e,_⟩:=x;exact Heap.lt_size e
 | set S n=>obtain⟨o,_,_,_,e,_⟩:=x;exact Heap.lt_size e
 | ins C dx fs=>obtain⟨_,_,_,e,_⟩:=x;exact Heap.lt_size e
 | own y=>obtain⟨_,e⟩:=x;exact Heap.lt_size e
 | xd fs=>obtain⟨_,⟨_,_,_,e,_⟩,_⟩:=x;exact Heap.lt_size e
 | rng lo hi=>obtain⟨_,_,_,e⟩:=x;exact Heap.lt_size e
 | frz ob u=>obtain⟨e,_⟩:=x;exact Heap.lt_size e
 | tbl ps=>obtain⟨_,_,_,_,e,_⟩:=x;exact Heap.lt_size e
 | met f y=>exact Heap.lt_size (show h.get? a=some _ from x)
 | ext φ=>obtain⟨_,⟨_,e⟩,_⟩:=x;exact Heap.lt_size e
theorem Paired.mapP{α β:Type}{F G:α->β->Prop}:∀{l₁:List α} {l₂:List β},Paired F l₁ l₂->(∀ a b,F a b->G a b)->Paired G l₁ l₂
 | _,_,.nil,_=>.nil
 | _,_,.cons r t,f=>.cons (f _ _ r) (Paired.mapP t f)
theorem ObjOk.stay(x:ObjOk P w H h a o)(k:∀ b u,(b=a\/H b=some (.own a))->h.get? b=some u->h'.get? b=some u)
  (ho:∀ b,H b=some (.own a)->H' b=some (.own a)) (ht:∀ b xs,H b=some (.tup xs)->H' b=some (.tup xs)) (hf:∀ b o u,H b=some (.frz o u)->H' b=some (.frz o u):=by exact fun _ _ _ q=>q):ObjOk P w H' h' a o:=by
 induction o with
 | lst xs=>obtain⟨z,its,n,r,e⟩:=x;exact⟨z,its,n,r,k _ _ (.inl rfl) e⟩
 | tup xs=>obtain⟨z,its,r,ob,e,c⟩:=x;exact⟨z,its,r,ob,k _ _ (.inl rfl) e,c⟩
 | dK kvs=>obtain⟨z,y,vs,r,ob,es,ep,e,c⟩:=x;exact⟨z,y,vs,r,ob,es,ep,k _ _ (.inl rfl) e,c⟩
 | dT kvs =>
  obtain⟨z,y,xs,r,ob,es,ep,e,c⟩:=x
  exact⟨z,y,xs,Paired.mapP r fun p q z=>⟨z.1,ht _ _ z.2.1,z.2.2⟩,ob,es,ep,k _ _ (.inl rfl) e,c⟩
 | set S n=>obtain⟨ob,es,ep,t,e,c⟩:=x;exact⟨ob,es,ep,t,k _ _ (.inl rfl) e,c⟩
 | ins C dx fs =>
  obtain⟨d,z,ne,e,mA,⟨od,es,ep,e2,c⟩,r⟩:=x
  exact⟨ho _ d,z,ne,k _ _ (.inl rfl) e,mA,⟨od,es,ep,k _ _ (.inr d) e2,c⟩,r⟩
 | own y=>obtain⟨ob,e⟩:=x;exact⟨ob,k _ _ (.inl rfl) e⟩
 | xd fs=>obtain⟨mA,⟨od,es,ep,e,c⟩,r⟩:=x;exact⟨mA,⟨od,es,ep,k _ _ (.inl rfl) e,c⟩,r⟩
 | rng lo hi=>obtain⟨t,u,v,e⟩:=x;exact⟨t,u,v,k _ _ (.inl rfl) e⟩
 | frz ob u ih=>obtain⟨e,q⟩:=x;exact⟨k _ _ (.inl rfl) e,ih q⟩
 | tbl ps =>
  obtain⟨rs,q,t,z,e,tr,r⟩:=x
  exact⟨rs,q,t,z,k a _ (.inl rfl) e,tr,fun pos cv y=>let ⟨c',oc,u,r1,r2,r3⟩:=r pos cv y;⟨c',oc,u,r1,hf _ _ _ r2,r3⟩⟩
 | met f y =>
  have e:h.get? a=some (PySem.W.methodObj (.ref f) (.ref y)):=x
  show h'.get? a=some (PySem.W.methodObj (.ref f) (.ref y))
  exact k a _ (.inl rfl) e
 | ext φ=>obtain⟨p,⟨o,e⟩,st⟩:=x;exact⟨st _ _ p fun o q=>k _ _ (.inl rfl) q,⟨o,k _ _ (.inl rfl) e⟩,st⟩
theorem HOk.lt(x:HOk P w H h)(e:H a=some o):a<h.objs.size:=(x a o e).lt
theorem HOk.fresh(x:HOk P w H h)(e:h.objs.size<=a):H a=none:=by
 cases q:H a with
 | none=>rfl
 | some u=>exact absurd (Nat.lt_of_lt_of_le (x.lt q) e) (Nat.lt_irrefl _)
theorem HOk.kept(x:HOk P w H h)(k:∀ b u,h.get? b=some u->h'.get? b=some u):HOk P w H h':=fun a o e =>
 (x a o e).stay (fun b u _ q=>k b u q) (fun _ q=>q) fun _ _ q=>q
theorem HOk.laid(x:HOk P w H h)(k:∀ b u,h.get? b=some u->h'.get? b=some u)(hp:h.objs.size<=a)(new:ObjOk P w (upd H a o) h' a o):HOk P w (upd H a o) h':=fun b u e=>by
 have hn:=x.fresh hp
 by_cases hb:b=a
 ·subst hb;rw [upd_same] at e;cases e;exact new
 ·rw [upd_ne hb] at e
  exact(x b u e).stay (fun c v _ q=>k c v q) (fun c q=>by rw [upd_ne (ne_of_none q hn)];exact q) (fun c xs q=>by rw [upd_ne (ne_of_none q hn)];exact q) fun c _ _ q=>by rw [upd_ne (ne_of_none q hn)];exact q
end
def Rd(H:Hp)(a:Addr)(u:HO):Prop:=H a=some u\/∃ o,H a=some (.frz o u)
theorem Rd.of{H:Hp}{a:Addr}{u:HO}(h:H a=some u):Rd H a u:=.inl h
theorem Rd.ok{P:Program}{w:World}{H:Hp}{h:Heap}{a:Addr}{u:HO}(r:Rd H a u)(x:HOk P w H h):ObjOk P w H h a u:=by
 rcases r with r | ⟨o,r⟩
 ·exact x a u r
 ·obtain⟨_,q⟩:=x a _ r
  exact q
def Mut:Option HO->Prop
 | some (.lst _)=>True
 | some (.dK _)=>True
 | some (.dT _)=>True
 | some (.set _ _)=>True
 | some (.ins _ _ _)=>True
 | some (.ext _)=>True
 | _=>False
section
variable {P:Program}{w:World}{H:Hp}{h h':Heap}{x e:Addr}{o':HO}
theorem HOk.write(ok:HOk P w H h)(mu:Mut (H x))(he:e=x\/H e=some (.own x))(k:∀ b u,b≠e->h.get? b=some u->h'.get? b=some u)(heo:∃ u,h'.get? e=some u)
  (new:ObjOk P w (upd H x o') h' x o'):HOk P w (upd H x o') h':=fun b u q=>by
 have nown:∀ c y,H c=some (.own y)->c≠x:=fun c y r z=>by subst z;rw [r] at mu;exact mu
 have ntup:∀ c xs,H c=some (.tup xs)->c≠x:=fun c xs r z=>by subst z;rw [r] at mu;exact mu
 have nfrz:∀ c o u,H c=some (.frz o u)->c≠x:=fun c o u r z=>by subst z;rw [r] at mu;exact mu
 by_cases hb:b=x
 ·subst hb;rw [upd_same] at q;cases q;exact new
 ·rw [upd_ne hb] at q
  by_cases hbe:b=e
  ·have q':H b=some (.own x):=by
    rcases he with z | z
    ·exact absurd (hbe.trans z) hb
    ·rw [hbe];exact z
   rw [q] at q';cases q'
   obtain⟨v,hv⟩:=heo
   exact⟨v,by rw [hbe];exact hv⟩
  ·refine(ok b u q).stay (fun c v hc r=>k c v ?_ r) (fun c r=>by rw [upd_ne (nown c b r)];exact r) (fun c xs r=>by rw [upd_ne (ntup c xs r)];exact r) (fun c o u r=>by rw [upd_ne (nfrz c o u r)];exact r)
   rcases hc with rfl | hc
   ·exact hbe
   ·rintro rfl
    rcases he with z | z
    ·exact nown c b hc z
    ·rw [hc] at z;cases z;exact hb rfl
end
structure Un(fs ex:List Addr)(H H':Hp)(h h':Heap):Prop where
 keep:∀ b o,h.get? b=some o->H b=none->b∉fs->b∉ex->h'.get? b=some o
 slot:∀ b o,h.get? b=some o->H b=none->b∈fs->b∉ex->∃ sl,h'.get? b=some { o with slots:=sl }
 free:∀ b o,h.get? b=some o->H b=none->b∉ex->H' b=none
 there:∀ b o,h.get? b=some o->b∉ex->∃ o',h'.get? b=some o'
 tups:∀ b xs,H b=some (.tup xs)->H' b=some (.tup xs)
 frzs:∀ b o u,H b=some (.frz o u)->H' b=some (.frz o u)
 tbls:∀ b ps,H b=some (.tbl ps)->∃ more,H' b=some (.tbl (ps++more))
section
variable {fs fs' ex ex':List Addr}{H H1 H2:Hp}{h h1 h2 h':Heap}{a x e:Addr}{o:HO}
theorem Un.any(u:Un fs ex H H1 h h1){b:Addr}{ob:Obj}(q:h.get? b=some ob)(n:H b=none)(hx:b∉ex):∃ sl,h1.get? b=some { ob with slots:=sl }:=by
 by_cases hb:b∈fs
 ·exact u.slot b ob q n hb hx
 ·exact⟨ob.slots,u.keep b ob q n hb hx⟩
theorem Un.trans(a:Un fs ex H H1 h h1)(b:Un fs ex H1 H2 h1 h2):Un fs ex H H2 h h2 where
 keep:=fun c ob q n hc hx=>b.keep c ob (a.keep c ob q n hc hx) (a.free c ob q n hx) hc hx
 slot:=fun c ob q n hc hx=>by
  obtain⟨sl,e1⟩:=a.slot c ob q n hc hx
  obtain⟨sl',e2⟩:=b.slot c _ e1 (a.free c ob q n hx) hc hx
  exact⟨sl',e2⟩
 free:=fun c ob q n hx=>by
  obtain⟨o',e1⟩:=a.there c ob q hx
  exact b.free c o' e1 (a.free c ob q n hx) hx
 there:=fun c ob q hx=>by
  obtain⟨o',e1⟩:=a.there c ob q hx
  exact b.there c o' e1 hx
 tups:=fun c xs q=>b.tups c xs (a.tups c xs q)
 frzs:=fun c ob xs q=>b.frzs c ob xs (a.frzs c ob xs q)
 tbls:=fun c ps q=>by
  obtain⟨m1,e1⟩:=a.tbls c ps q
  obtain⟨m2,e2⟩:=b.tbls c _ e1
  exact⟨m1++m2,by rw [e2,Array.append_assoc]⟩
theorem Un.kept(k:∀ b u,h.get? b=some u->h'.get? b=some u):Un fs ex H H h h' :=
 ⟨fun b ob q _ _ _=>k b ob q,fun b ob q _ _ _=>⟨ob.slots,k b ob q⟩,fun _ _ _ n _=>n,fun b ob q _=>⟨ob,k b ob q⟩,fun _ _ q=>q,fun _ _ _ q=>q,fun _ ps q=>⟨#[],by rw [q];simp⟩⟩
theorem Un.refl:Un fs ex H H h h:=Un.kept fun _ _ q=>q
theorem Un.laid(k:∀ b u,h.get? b=some u->h'.get? b=some u)(hp:h.objs.size<=a)(hn:H a=none):Un fs ex H (upd H a o) h h' where
 keep:=fun b u q _ _ _=>k b u q
 slot:=fun b u q _ _ _=>⟨u.slots,k b u q⟩
 free:=fun b u q n _=>by rw [upd_ne (Nat.ne_of_lt (Nat.lt_of_lt_of_le (Heap.lt_size q) hp))];exact n
 there:=fun b u q _=>⟨u,k b u q⟩
 tups:=fun b xs q=>by rw [upd_ne (ne_of_none q hn)];exact q
 frzs:=fun b u xs q=>by rw [upd_ne (ne_of_none q hn)];exact q
 tbls:=fun b ps q=>⟨#[],by rw [upd_ne (ne_of_none q hn),q];simp⟩
theorem Un.write(mu:Mut (H x))(he:e=x\/H e=some (.own x))(k:∀ b u,b≠e->h.get? b=some u->h'.get? b=some u)(heo:∃ u,h'.get? e=some u):Un fs ex H (upd H x o) h h':=by
 have hx:∀ b,H b=none->b≠x:=fun b n z=>by subst z;rw [n] at mu;exact mu
 have hb:∀ b,H b=none->b≠e:=fun b n z=>by
  subst z
  rcases he with r | r
  ·exact hx b n r
  ·rw [n] at r;cases r
 have hm:∀ b u,H b=some u->¬ Mut (some u)->b≠x:=fun b u q nm z=>by subst z;rw [q] at mu;exact nm mu
 refine⟨fun b u q n _ _=>k b u (hb b n) q,fun b u q n _ _=>⟨u.slots,k b u (hb b n) q⟩,fun b u q n _=>by rw [upd_ne (hx b n)];exact n,fun b u q _=>?_,
  fun b xs q=>by rw [upd_ne (hm b _ q fun z=>z)];exact q,fun b u xs q=>by rw [upd_ne (hm b _ q fun z=>z)];exact q,fun b ps q=>⟨#[],by rw [upd_ne (hm b _ q fun z=>z),q];simp⟩⟩
 by_cases hbe:b=e
 ·subst hbe;exact heo
 ·exact⟨u,k b u hbe q⟩
theorem Un.mono(u:Un fs ex H H1 h h1)(hs:∀ b∈fs,b∈fs')(hx:∀ b∈ex,b∈ex'):Un fs' ex' H H1 h h1 :=
 ⟨fun b ob q n hb he=>u.keep b ob q n (fun z=>hb (hs b z)) fun z=>he (hx b z),fun _ _ q n _ he=>u.any q n fun z=>he (hx _ z),fun b ob q n he=>u.free b ob q n fun z=>he (hx b z),fun b ob q he=>u.there b ob q fun z=>he (hx b z),u.tups,u.frzs,u.tbls⟩
end
def trk(h:Heap)(H:Hp):List Addr:=(List.range h.objs.size).filter fun a=>(H a).isSome
def hidT(h:Heap)(H:Hp):Heap:=PySem.W.hideAll h (trk h H)
theorem hidT_size(h:Heap)(H:Hp):(hidT h H).objs.size=h.objs.size:=PySem.W.hideAll_size _ _
theorem hidT_get{h:Heap}{H:Hp}{b:Addr}{o:Obj}(e:h.get? b=some o)(n:H b=none):(hidT h H).get? b=some o :=
 PySem.W.hideAll_get _ e fun hm=>by
  have q:(H b).isSome=true:=(List.mem_filter.mp hm).2
  rw [n] at q;simp at q
theorem of_hidT{h:Heap}{H:Hp}{b:Addr}{o:Obj}(e:(hidT h H).get? b=some o):h.get? b=some o/\H b=none:=by
 have e':h.get? b=some o:=PySem.W.of_hideAll (trk h H) e
 refine⟨e',?_⟩
 cases q:H b with
 | none=>rfl
 | some x =>
  have hm:b∈trk h H:=List.mem_filter.mpr ⟨List.mem_range.mpr (Heap.lt_size e'),by simp [q]⟩
  have z:(hidT h H).get? b=none:=PySem.W.hideAll_none (trk h H) hm
  rw [z] at e;cases e
def allNews(g h:Heap)(L:Addr):List (Addr×Obj):=(List.range h.objs.size).filterMap fun a=>if a=L\/(g.get? a).isSome=true then none else (h.get? a).map fun o=>(a,o)
def rest(g h:Heap)(L d:Addr):List (Addr×Obj):=(allNews g h L).filter fun p=>decide (p.1≠d)
structure Mod(K:PySem.W.Frag)(mg:Str->Option Value)(base:Heap):Prop where
 kin:K.In base
 glob:base.Ns mainGlobals mg
 blt:∃ mb,base.Ns builtinsNs mb/\∀ x:Str,x ≠ "__name__" -> mb x=bootBuiltins x
 nolimit:base.NoLimit
structure Cx where
 prog:Program
 w:World
 K:PySem.W.Frag
 mg:Str->Option Value
 base:Heap
 A:Around
 N:List Str
 s₀:Shared
 H₀:Hp
 env:Env
 outer:List Env
 stack:List Env
 ex:List Addr
 fn:Str->Bool
 calm:Bool
 pn:List (Addr×Obj)
 xe:Value->Shared->Prop
def frs(l:List Env):List Addr:=l.filterMap (·.frame)
abbrev Cx.fs(X:Cx):List Addr:=frs X.outer
def Vis(sc:Scope)(x:Str):Prop:=sc.names.lookup x=some .local\/sc.names.lookup x=some .cell\/sc.names.lookup x=some .free
def Loc(sc:Scope)(x:Str):Prop:=sc.names.lookup x=some .local\/sc.names.lookup x=some .cell
def Look(env:Env)(h:Heap)(m:Str->Option Value)(x:Str)(u:Value):Prop :=
 (env.kindOf x=some .local/\m x=some u)\/((env.kindOf x=some .cell\/env.kindOf x=some .free)/\∃ c,env.cells.lookup x=some c/\h.IsCell c (some u))
structure Cx.Ok(X:Cx):Prop where
 mod:Mod X.K X.mg X.base
 kind:X.env.scope.kind=.function
 glob:X.env.globals=mainGlobals
 blt:X.env.builtins=builtinsNs
 above:X.s₀.heap.objs.size<=X.env.locals
 inj:∀ x y c,X.env.cells.lookup x=some c->X.env.cells.lookup y=some c->x=y
 has:∀ x,(X.env.kindOf x=some .cell\/X.env.kindOf x=some .free)->∃ c,X.env.cells.lookup x=some c
 cab:∀ x c,X.fn x=true->X.env.cells.lookup x=some c->X.s₀.heap.objs.size<=c
 hd:X.calm=true->X.A.handled=none
 frames:X.A.frames=some X.stack
 stk:X.stack=X.outer\/(X.stack=X.env::X.outer/\X.env.frame=some X.env.locals)
 exf:∀ b∈X.ex,b≠X.env.locals/\∀ x c,X.env.cells.lookup x=some c->c≠b
 bs:∀ b o,X.base.get? b=some o->X.s₀.heap.get? b=some o/\X.H₀ b=none
 bsz:X.base.objs.size<=X.s₀.heap.objs.size
 noex:∀ b o,X.base.get? b=some o->b∉X.ex
 exfs:∀ b∈X.ex,b∉X.fs
 funs:X.s₀.heap.FunFrames X.base X.outer
 frf:∀ b∈X.fs,X.H₀ b=none
structure Inv(X:Cx)(pins:List (Addr×Obj))(σ:List (Option V))(H:Hp)(s:Shared):Prop where
 ok:X.Ok
 os:s.os=X.s₀.os
 bare:AllBare s.gens
 base:Un X.fs X.ex X.H₀ H X.s₀.heap s.heap
 loc:∃ m,s.heap.Ns X.env.locals m/\∀(i:Nat) (x:Str) (v:V),X.N[i]?=some x->σ[i]?=some (some v)->Vis X.env.scope x->∃ u,RelV v u/\Look X.env s.heap m x u
 cell:∀ x c,X.env.cells.lookup x=some c->∃ v,s.heap.IsCell c v
 free:H X.env.locals=none
 freeC:∀ x c,X.env.cells.lookup x=some c->H c=none
 pin:∀ p∈X.pn++pins,s.heap.get? p.1=some p.2/\H p.1=none/\p.1≠X.env.locals/\p.1∉X.fs/\∀ v,p.2.data ≠ .cell v
 hok:HOk X.prog X.w H s.heap
 len:σ.length=X.N.length
section
variable {X:Cx}{pins:List (Addr×Obj)}{σ:List (Option V)}{H H':Hp}{s:Shared}{h':Heap}
theorem Cx.Ok.nofr(ok:X.Ok){b:Addr}{o:Obj}(e:X.base.get? b=some o):b∉X.fs:=fun hb=>by
 have:=(ok.funs.mem hb).1
 rw [e] at this;cases this
theorem Inv.bs(I:Inv X pins σ H s):∀ b o,X.base.get? b=some o->s.heap.get? b=some o/\H b=none:=fun b o e =>
 ⟨I.base.keep b o (I.ok.bs b o e).1 (I.ok.bs b o e).2 (I.ok.nofr e) (I.ok.noex b o e),I.base.free b o (I.ok.bs b o e).1 (I.ok.bs b o e).2 (I.ok.noex b o e)⟩
theorem Inv.bk(I:Inv X pins σ H s):∀ b o,X.base.get? b=some o->s.heap.get? b=some o:=fun b o e=>(I.bs b o e).1
theorem Inv.mod(I:Inv X pins σ H s):Mod X.K X.mg X.base:=I.ok.mod
theorem Inv.kIn(I:Inv X pins σ H s):X.K.In s.heap:=I.ok.mod.kin.keeps I.bk
theorem Inv.lt(I:Inv X pins σ H s):X.env.locals<s.heap.objs.size:=let ⟨_,hn,_⟩:=I.loc;hn.lt
theorem Inv.sz(I:Inv X pins σ H s):X.s₀.heap.objs.size<=s.heap.objs.size:=Nat.le_trans I.ok.above (Nat.le_of_lt I.lt)
theorem Inv.nofs(I:Inv X pins σ H s){a:Addr}(h:s.heap.objs.size<=a):a∉X.fs:=fun hb=>by
 obtain⟨_,o,ho,_⟩:=I.ok.funs.mem hb
 exact absurd (Nat.lt_of_lt_of_le (Heap.lt_size ho) (Nat.le_trans I.sz h)) (Nat.lt_irrefl _)
theorem Inv.cne(I:Inv X pins σ H s):∀ x c,X.env.cells.lookup x=some c->c≠X.env.locals:=fun x c e z=>by
 obtain⟨v,o,ho,hd⟩:=I.cell x c e
 obtain⟨m,⟨o',es,ep,ho',hd',_⟩,_⟩:=I.loc
 rw [z,ho'] at ho;cases ho;rw [hd'] at hd;cases hd
theorem Inv.funs(I:Inv X pins σ H s):s.heap.FunFrames X.base X.outer:=by
 have all:∀(l:List Env),(∀ b∈frs l,b∈X.fs)->X.s₀.heap.FunFrames X.base l->s.heap.FunFrames X.base l:=by
  intro l
  induction l with
  | nil=>intro _ _;trivial
  | cons env r ih =>
   intro hs hl
   obtain⟨hk,⟨L,o,hf,hn,ho,hd⟩,hr⟩:=hl
   have hL:L∈X.fs:=hs L (by unfold frs;rw [List.filterMap_cons,hf];exact List.mem_cons_self)
   obtain⟨sl,e⟩:=I.base.slot L o ho (I.ok.frf L hL) hL fun z=>I.ok.exfs L z hL
   exact⟨hk,⟨L,_,hf,hn,e,hd⟩,ih (fun b hb=>hs b (by unfold frs;rw [List.filterMap_cons,hf];exact List.mem_cons_of_mem _ hb)) hr⟩
 exact all X.outer (fun _ hb=>hb) I.ok.funs
theorem Inv.stack(I:Inv X pins σ H s):s.heap.FunFrames X.base X.stack:=by
 rcases I.ok.stk with e | ⟨e,hf⟩
 ·rw [e];exact I.funs
 ·rw [e]
  obtain⟨m,hn,_⟩:=I.loc
  refine .cons (by rw [I.ok.kind];decide) hf hn ?_ I.funs
  exact Heap.get?_none_of_le (Nat.le_trans I.ok.bsz I.ok.above)
theorem Inv.stkSub(I:Inv X pins σ H s):∀ b∈frs X.stack,b∈X.env.locals::X.fs:=fun b hb=>by
 rcases I.ok.stk with e | ⟨e,hf⟩
 ·rw [e] at hb;exact List.mem_cons_of_mem _ hb
 ·rw [e] at hb
  unfold frs at hb
  rw [List.filterMap_cons,hf] at hb
  exact hb
theorem Inv.stkFree(I:Inv X pins σ H s):∀ b∈frs X.stack,H b=none:=fun b hb=>by
 rcases List.mem_cons.mp (I.stkSub b hb) with e | hb
 ·rw [e];exact I.free
 ·obtain⟨_,o,ho,_⟩:=I.ok.funs.mem hb
  exact I.base.free b o ho (I.ok.frf b hb) fun z=>I.ok.exfs b z hb
theorem Inv.step{g':Array GenState}{t':Nat}{d':Drawn}{ch:List Addr}(I:Inv X pins σ H s)
  (hch:∀ b∈ch,(b∈X.ex\/X.s₀.heap.objs.size<=b)/\b≠X.env.locals/\(∀ x c,X.env.cells.lookup x=some c->c≠b)/\∀ p∈X.pn++pins,p.1≠b)
  (keep:∀ b o,b≠X.env.locals->b∉X.fs->b∉ch->s.heap.get? b=some o->H b=none->h'.get? b=some o)
  (slot:∀ b o,b≠X.env.locals->b∈X.fs->b∉ch->s.heap.get? b=some o->H b=none->∃ sl,h'.get? b=some { o with slots:=sl }) (free:∀ b o,b∉ch->s.heap.get? b=some o->H b=none->H' b=none)
  (there:∀ b o,b∉ch->s.heap.get? b=some o->∃ o',h'.get? b=some o')
  (tups:∀ b xs,H b=some (.tup xs)->H' b=some (.tup xs)) (frzs:∀ b o u,H b=some (.frz o u)->H' b=some (.frz o u)) (tbls:∀ b ps,H b=some (.tbl ps)->∃ more,H' b=some (.tbl (ps++more)))
  (ns:∀ m,s.heap.Ns X.env.locals m->h'.Ns X.env.locals m) (hok:HOk X.prog X.w H' h') (hg:AllBare g') :
  Inv X pins σ H' { s with heap:=h',gens:=g',drawn:=d',toks:=t' }:=by
 have neL:∀ b o,X.s₀.heap.get? b=some o->b≠X.env.locals:=fun b o e=>Nat.ne_of_lt (Nat.lt_of_lt_of_le (Heap.lt_size e) I.ok.above)
 have neC:∀ b o,X.s₀.heap.get? b=some o->b∉X.ex->b∉ch:=fun b o e hx hb=>by
  rcases (hch b hb).1 with z | z
  ·exact hx z
  ·exact absurd (Nat.lt_of_lt_of_le (Heap.lt_size e) z) (Nat.lt_irrefl _)
 have cellK:∀ x c,X.env.cells.lookup x=some c->∀ v,s.heap.IsCell c v->h'.IsCell c v:=fun x c e v ⟨o,ho,hd⟩=>by
  have nch:c∉ch:=fun z=>(hch c z).2.2.1 x c e rfl
  by_cases hc:c∈X.fs
  ·obtain⟨sl,q⟩:=slot c o (I.cne x c e) hc nch ho (I.freeC x c e)
   exact⟨_,q,hd⟩
  ·exact⟨o,keep c o (I.cne x c e) hc nch ho (I.freeC x c e),hd⟩
 refine⟨I.ok,I.os,hg,⟨fun b o e n hb hx=>?_,fun b o e n hb hx=>?_,fun b o e n hx=>?_,fun b o e hx=>?_,fun b xs e=>tups b xs (I.base.tups b xs e),fun b o xs e=>frzs b o xs (I.base.frzs b o xs e),fun b ps e=>?_⟩,?_,fun x c e=>?_,?_,fun x c e=>?_,fun p hp=>?_,hok,I.len⟩
 ·exact keep b o (neL b o e) hb (neC b o e hx) (I.base.keep b o e n hb hx) (I.base.free b o e n hx)
 ·obtain⟨sl,e1⟩:=I.base.slot b o e n hb hx
  obtain⟨sl',e2⟩:=slot b _ (neL b o e) hb (neC b o e hx) e1 (I.base.free b o e n hx)
  exact⟨sl',e2⟩
 ·obtain⟨o',e1⟩:=I.base.there b o e hx
  exact free b o' (neC b o e hx) e1 (I.base.free b o e n hx)
 ·obtain⟨o',e1⟩:=I.base.there b o e hx
  exact there b o' (neC b o e hx) e1
 ·obtain⟨m1,e1⟩:=I.base.tbls b ps e
  obtain⟨m2,e2⟩:=tbls b _ e1
  exact⟨m1++m2,by rw [e2,Array.append_assoc]⟩
 ·obtain⟨m,hn,hl⟩:=I.loc
  refine⟨m,ns m hn,fun i x v e1 e2 e3=>?_⟩
  obtain⟨u,r,l⟩:=hl i x v e1 e2 e3
  refine⟨u,r,?_⟩
  rcases l with l | ⟨k,c,e,z⟩
  ·exact .inl l
  ·exact .inr ⟨k,c,e,cellK x c e _ z⟩
 ·obtain⟨v,z⟩:=I.cell x c e
  exact⟨v,cellK x c e v z⟩
 ·obtain⟨m,⟨o,_,_,ho,_⟩,_⟩:=I.loc
  exact free _ o (fun z=>(hch _ z).2.1 rfl) ho I.free
 ·obtain⟨v,o,ho,hd⟩:=I.cell x c e
  exact free c o (fun z=>(hch c z).2.2.1 x c e rfl) ho (I.freeC x c e)
 ·obtain⟨e,n,ne,nf,d⟩:=I.pin p hp
  have nch:p.1∉ch:=fun z=>(hch p.1 z).2.2.2 p hp rfl
  exact⟨keep p.1 p.2 ne nf nch e n,free p.1 p.2 nch e n,ne,nf,d⟩
theorem Inv.un{t':Nat}(I:Inv X pins σ H s)(u:Un X.fs [] H H' s.heap h')(hok:HOk X.prog X.w H' h'):Inv X pins σ H' { s with heap:=h',toks:=t' }:=by
 obtain⟨m,⟨o,es,ep,ho,r⟩,_⟩:=id I.loc
 obtain⟨sl,hL⟩:=u.any ho I.free (by simp)
 exact I.step (g':=s.gens) (d':=s.drawn) (ch:=[]) (fun _ z=>nomatch z) (fun b o _ hb _ e n=>u.keep b o e n hb (by simp)) (fun b o _ hb _ e n=>u.slot b o e n hb (by simp)) (fun b o _ e n=>u.free b o e n (by simp)) (fun b o _ e=>u.there b o e (by simp)) u.tups u.frzs u.tbls (fun m' hm=>by
  obtain⟨o',es',ep',ho',r'⟩:=hm
  rw [ho] at ho';cases ho'
  exact⟨_,es',ep',hL,r'⟩) hok I.bare
theorem Inv.call{g':Array GenState}{t':Nat}{d':Drawn}{ch:List Addr}(I:Inv X pins σ H s)(u:Un (frs X.stack) ch H H' s.heap h')(hok:HOk X.prog X.w H' h')(hg:AllBare g')
  (hch:∀ b∈ch,(b∈X.ex\/X.s₀.heap.objs.size<=b)/\b≠X.env.locals/\(∀ x c,X.env.cells.lookup x=some c->c≠b)/\∀ p∈X.pn++pins,p.1≠b) :
  Inv X pins σ H' { s with heap:=h',gens:=g',drawn:=d',toks:=t' }:=by
 obtain⟨m,⟨o,es,ep,ho,r⟩,_⟩:=id I.loc
 obtain⟨sl,hL⟩:=u.any ho I.free fun z=>(hch _ z).2.1 rfl
 exact I.step (ch:=ch) hch (fun b o hL hb hc e n=>u.keep b o e n (fun z=>(List.mem_cons.mp (I.stkSub b z)).elim hL hb) hc) (fun b o _ _ hc e n=>u.any e n hc) (fun b o hc e n=>u.free b o e n hc) (fun b o hc e=>u.there b o e hc) u.tups u.frzs u.tbls (fun m' hm=>by
  obtain⟨o',es',ep',ho',r'⟩:=hm
  rw [ho] at ho';cases ho'
  exact⟨_,es',ep',hL,r'⟩) hok hg
theorem Inv.turned{t':Nat}{it:Addr}(I:Inv X pins σ H s)(k:∀ b o,b≠it->s.heap.get? b=some o->h'.get? b=some o)(hn:H it=none)(hL:it≠X.env.locals)
  (h1:it∈X.ex\/X.s₀.heap.objs.size<=it) (h2:∀ x c,X.env.cells.lookup x=some c->c≠it) (h3:∀ p∈X.pn++pins,p.1≠it):Inv X pins σ H { s with heap:=h',toks:=t' }:=by
 have nit:∀ b u,H b=some u->b≠it:=fun b u e z=>by rw [z,hn] at e;cases e
 refine I.step (g':=s.gens) (d':=s.drawn) (ch:=[it]) (fun b hb=>?_) (fun b o _ _ hc e _=>k b o (fun z=>hc (by simp [z])) e) (fun b o _ _ hc e _=>⟨o.slots,k b o (fun z=>hc (by simp [z])) e⟩) (fun _ _ _ _ n=>n)
  (fun b o hc e=>⟨o,k b o (fun z=>hc (by simp [z])) e⟩) (fun _ _ e=>e) (fun _ _ _ e=>e) (fun b ps e=>⟨#[],by rw [e];simp⟩) (fun m hm=>?_) (fun b u e=>?_) I.bare
 ·have e:b=it:=by simpa using hb
  subst e
  exact⟨h1,hL,h2,h3⟩
 ·obtain⟨o,es,ep,ho,r⟩:=hm
  exact⟨o,es,ep,k _ o (Ne.symm hL) ho,r⟩
 ·refine(I.hok b u e).stay (fun c v hc q=>k c v ?_ q) (fun _ q=>q) fun _ _ q=>q
  rcases hc with z | z
  ·rw [z];exact nit b u e
  ·exact nit c _ z
theorem Inv.tok(I:Inv X pins σ H s)(t:Nat):Inv X pins σ H { s with toks:=t }:=I.un (h':=s.heap) (t':=t) Un.refl I.hok
theorem Inv.kept{t':Nat}(I:Inv X pins σ H s)(k:∀ b u,s.heap.get? b=some u->h'.get? b=some u):Inv X pins σ H { s with heap:=h',toks:=t' }:=I.un (Un.kept k) (I.hok.kept k)
theorem Inv.laid{a:Addr}{o:HO}{t':Nat}(I:Inv X pins σ H s)(k:∀ b u,s.heap.get? b=some u->h'.get? b=some u)(hp:s.heap.objs.size<=a)(new:ObjOk X.prog X.w (upd H a o) h' a o):
  Inv X pins σ (upd H a o) { s with heap:=h',toks:=t' }:=I.un (Un.laid k hp (I.hok.fresh hp)) (I.hok.laid k hp new)
theorem Inv.write{x e:Addr}{o:HO}{t':Nat}(I:Inv X pins σ H s)(mu:Mut (H x))(he:e=x\/H e=some (.own x))(k:∀ b u,b≠e->s.heap.get? b=some u->h'.get? b=some u)(heo:∃ u,h'.get? e=some u)
  (new:ObjOk X.prog X.w (upd H x o) h' x o):Inv X pins σ (upd H x o) { s with heap:=h',toks:=t' }:=I.un (Un.write mu he k heo) (I.hok.write mu he k heo new)
theorem Inv.pins_of{pins':List (Addr×Obj)}(I:Inv X pins σ H s)(h:∀ p∈pins',s.heap.get? p.1=some p.2/\H p.1=none/\p.1≠X.env.locals/\p.1∉X.fs/\∀ v,p.2.data ≠ .cell v):Inv X pins' σ H s :=
 ⟨I.ok,I.os,I.bare,I.base,I.loc,I.cell,I.free,I.freeC,fun p hp=>(List.mem_append.mp hp).elim (fun z=>I.pin p (List.mem_append_left _ z)) (h p),I.hok,I.len⟩
theorem nodup_ix{N:List Str}(hN:N.Nodup){i j:Nat}{x:Str}(a:N[i]?=some x)(b:N[j]?=some x):i=j:=by
 obtain⟨h1,e1⟩:=List.getElem?_eq_some_iff.mp a
 obtain⟨h2,e2⟩:=List.getElem?_eq_some_iff.mp b
 exact(List.getElem_inj hN).mp (e1.trans e2.symm)
theorem store_ok2{M:Model}{A:Around}{E:Value->Shared->Prop}{i:Nat}{x:Str}{v:V}{u:Value}{Q:Unit->Shared->Prop}(I:Inv X pins σ H s)(hN:X.N.Nodup)(hi:X.N[i]?=some x)(hx:Loc X.env.scope x)(r:RelV v u)
  (h:∀ s',Inv X pins (σ.set i (some v)) H s'->(∃ a,Heap.SameBut a s.heap s'.heap/\(a=X.env.locals\/X.env.cells.lookup x=some a))->Q () s') (hf:X.fn x=true\/X.env.scope.names.lookup x=some .local:=by first | exact .inl rfl | exact .inr rfl | assumption):wpAny M A (storeName X.env x u) Q E s:=by
 obtain⟨m,hn,hl⟩:=id I.loc
 have hcls:(X.env.scope.kind == .class || (X.env.scope.kind == .module && X.env.locals != X.env.globals))=false:=by rw [I.ok.kind];rfl
 have hiσ:i<σ.length:=by rw [I.len];exact(List.getElem?_eq_some_iff.mp hi).1
 have cne:=I.cne
 have tracked:∀{a:Addr} {h':Heap},(∃ o,s.heap.get? a=some o/\H a=none)->Heap.SameBut a s.heap h'->HOk X.prog X.w H h':=fun{a h'} ha hs b ob e=>by
  obtain⟨_,_,hfree⟩:=ha
  refine(I.hok b ob e).stay (fun c w' hc q=>(hs.2 c ?_).trans q) (fun _ q=>q) fun _ _ q=>q
  rintro rfl
  rcases hc with rfl | hc
  ·rw [hfree] at e;cases e
  ·rw [hfree] at hc;cases hc
 rcases hx with hk | hk
 ·refine wpAny_storeName_local hk hn (fun h' hn' hs=>?_) hcls
  obtain⟨oL,_,_,hoL,_⟩:=id hn
  refine h _ ⟨I.ok,I.os,I.bare,⟨fun b o e n hb hx=>?_,fun b o e n hb hx=>?_,I.base.free,fun b o e hx=>?_,I.base.tups,I.base.frzs,I.base.tbls⟩,⟨_,hn',fun j y v' e1 e2 e3=>?_⟩,fun y c e=>?_,I.free,I.freeC,fun p hp=>?_,tracked ⟨oL,hoL,I.free⟩ hs,by simpa using I.len⟩ ⟨_,hs,.inl rfl⟩
  ·exact(hs.2 b (Nat.ne_of_lt (Nat.lt_of_lt_of_le (Heap.lt_size e) I.ok.above))).trans (I.base.keep b o e n hb hx)
  ·obtain⟨sl,e1⟩:=I.base.slot b o e n hb hx
   exact⟨sl,(hs.2 b (Nat.ne_of_lt (Nat.lt_of_lt_of_le (Heap.lt_size e) I.ok.above))).trans e1⟩
  ·obtain⟨o',e1⟩:=I.base.there b o e hx
   exact⟨o',(hs.2 b (Nat.ne_of_lt (Nat.lt_of_lt_of_le (Heap.lt_size e) I.ok.above))).trans e1⟩
  ·by_cases hj:j=i
   ·subst hj
    rw [hi] at e1;cases e1
    rw [List.getElem?_set_self hiσ] at e2
    cases e2
    exact⟨u,r,.inl ⟨hk,by simp⟩⟩
   ·rw [List.getElem?_set_ne (Ne.symm hj)] at e2
    obtain⟨u',r',q⟩:=hl j y v' e1 e2 e3
    refine⟨u',r',?_⟩
    rcases q with⟨k,e⟩ | ⟨k,c,e,z⟩
    ·refine .inl ⟨k,?_⟩
     have:y≠x:=fun e=>hj (nodup_ix hN e1 (e ▸ hi))
     simp [this,e]
    ·exact .inr ⟨k,c,e,z.sameBut hs (cne y c e)⟩
  ·obtain⟨w',z⟩:=I.cell y c e
   exact⟨w',z.sameBut hs (cne y c e)⟩
  ·obtain⟨e,n,ne,nf,d⟩:=I.pin p hp
   exact⟨(hs.2 p.1 ne).trans e,n,ne,nf,d⟩
 ·have hfn:X.fn x=true:=by
   rcases hf with z | z
   ·exact z
   ·rw [z] at hk;cases hk
  obtain⟨c,hc⟩:=I.ok.has x (.inl hk)
  obtain⟨w',z⟩:=I.cell x c hc
  refine wpAny_storeName_cell I.ok.kind hk hc z (fun h' hc' hs=>?_)
  obtain⟨oc,hoc,hocd⟩:=id z
  refine h { s with heap:=h' } ⟨I.ok,I.os,I.bare,⟨fun b o e n hb hx=>?_,fun b o e n hb hx=>?_,I.base.free,fun b o e hx=>?_,I.base.tups,I.base.frzs,I.base.tbls⟩,⟨m,hn.sameBut hs (Ne.symm (cne x c hc)),fun j y v' e1 e2 e3=>?_⟩,fun y c' e=>?_,I.free,I.freeC,fun p hp=>?_,tracked ⟨oc,hoc,I.freeC x c hc⟩ hs,by simpa using I.len⟩ ⟨c,hs,.inr hc⟩
  ·exact(hs.2 b (Nat.ne_of_lt (Nat.lt_of_lt_of_le (Heap.lt_size e) (I.ok.cab x c hfn hc)))).trans (I.base.keep b o e n hb hx)
  ·obtain⟨sl,e1⟩:=I.base.slot b o e n hb hx
   exact⟨sl,(hs.2 b (Nat.ne_of_lt (Nat.lt_of_lt_of_le (Heap.lt_size e) (I.ok.cab x c hfn hc)))).trans e1⟩
  ·obtain⟨o',e1⟩:=I.base.there b o e hx
   exact⟨o',(hs.2 b (Nat.ne_of_lt (Nat.lt_of_lt_of_le (Heap.lt_size e) (I.ok.cab x c hfn hc)))).trans e1⟩
  ·by_cases hj:j=i
   ·subst hj
    rw [hi] at e1;cases e1
    rw [List.getElem?_set_self hiσ] at e2
    cases e2
    exact⟨u,r,.inr ⟨.inl hk,c,hc,hc'⟩⟩
   ·rw [List.getElem?_set_ne (Ne.symm hj)] at e2
    obtain⟨u',r',q⟩:=hl j y v' e1 e2 e3
    refine⟨u',r',?_⟩
    rcases q with q | ⟨k,c',e,z'⟩
    ·exact .inl q
    ·refine .inr ⟨k,c',e,z'.sameBut hs ?_⟩
     rintro rfl
     exact hj (nodup_ix hN e1 (I.ok.inj _ _ _ e hc ▸ hi))
  ·by_cases hcc:c'=c
   ·subst hcc;exact⟨_,hc'⟩
   ·obtain⟨w2,z2⟩:=I.cell y c' e
    exact⟨w2,z2.sameBut hs hcc⟩
  ·obtain⟨e,n,ne,nf,d⟩:=I.pin p hp
   refine⟨(hs.2 p.1 ?_).trans e,n,ne,nf,d⟩
   intro q
   rw [q,hoc] at e
   have q':oc=p.2:=Option.some.inj e
   exact d w' (by rw [<-q'];exact hocd)
theorem store_ok{M:Model}{A:Around}{E:Value->Shared->Prop}{i:Nat}{x:Str}{v:V}{u:Value}{Q:Unit->Shared->Prop}(I:Inv X pins σ H s)(hN:X.N.Nodup)(hi:X.N[i]?=some x)(hx:Loc X.env.scope x)(r:RelV v u)
  (h:∀ s',Inv X pins (σ.set i (some v)) H s'->Q () s') (hf:X.fn x=true\/X.env.scope.names.lookup x=some .local:=by first | exact .inl rfl | exact .inr rfl | assumption):wpAny M A (storeName X.env x u) Q E s :=
 store_ok2 I hN hi hx r (fun s' I' _=>h s' I') hf
theorem Inv.call'{s':Shared}{ch:List Addr}(I:Inv X pins σ H s)(ho:s'.os=s.os)(u:Un (frs X.stack) ch H H' s.heap s'.heap)(hok:HOk X.prog X.w H' s'.heap)(hg:AllBare s'.gens)
  (hch:∀ b∈ch,(b∈X.ex\/X.s₀.heap.objs.size<=b)/\b≠X.env.locals/\(∀ x c,X.env.cells.lookup x=some c->c≠b)/\∀ p∈X.pn++pins,p.1≠b):Inv X pins σ H' s':=by
 obtain⟨h',g',d',t',o'⟩:=s'
 have e:o'=s.os:=ho
 subst e
 exact I.call (g':=g') (t':=t') (d':=d') u hok hg hch
end
abbrev XK:=Value->Option Addr->Hp->Prop
abbrev St:=List (Option V)
abbrev VK:=V->Hp->Prop
abbrev TE:=St->Hp->VK->Prop
abbrev TT:=St->Hp->(Bool->Hp->Prop)->Prop
abbrev TA:=St->Hp->(List V->Hp->Prop)->Prop
structure Ends where
 nx:St->Hp->Prop
 rt:VK
 bk:St->Hp->Prop:=fun _ _=>False
 ct:St->Hp->Prop:=fun _ _=>False
abbrev TS:=Ends->St->Hp->Prop
def EP(X:Cx)(pins:List (Addr×Obj))(σ:St)(Q:VK)(u:Value)(s':Shared):Prop:=∃ v H',Inv X pins σ H' s'/\RelV v u/\Q v H'
def TP(X:Cx)(pins:List (Addr×Obj))(σ:St)(Q:Bool->Hp->Prop)(b:Bool)(s':Shared):Prop:=∃ H',Inv X pins σ H' s'/\Q b H'
def AP(X:Cx)(pins:List (Addr×Obj))(σ:St)(Q:List V->Hp->Prop)(us:List Value)(s':Shared):Prop:=∃ vs H',Inv X pins σ H' s'/\Vals vs us/\Q vs H'
def SP(X:Cx)(pins:List (Addr×Obj))(D:Ends)(f:Flow)(s':Shared):Prop :=
 match f with
 | .next=>∃ σ' H',Inv X pins σ' H' s'/\D.nx σ' H'
 | .brk=>∃ σ' H',Inv X pins σ' H' s'/\D.bk σ' H'
 | .cont=>∃ σ' H',Inv X pins σ' H' s'/\D.ct σ' H'
 | .ret u=>∃ v σ' H',Inv X pins σ' H' s'/\RelV v u/\D.rt v H'
def PE(X:Cx)(e:Expr)(t:TE):Prop :=
 ∀(pins:List (Addr×Obj)) (s:Shared) (σ:St) (H:Hp) (Q:VK),Inv X pins σ H s->t σ H Q->wpAny (model X.prog X.w) X.A (eval e X.env) (EP X pins σ Q) X.xe s
def PT(X:Cx)(e:Expr)(t:TT):Prop :=
 ∀(pins:List (Addr×Obj)) (s:Shared) (σ:St) (H:Hp) (Q:Bool->Hp->Prop),Inv X pins σ H s->t σ H Q->wpAny (model X.prog X.w) X.A (isTrue e X.env (eval e X.env)) (TP X pins σ Q) X.xe s
def PW(X:Cx)(e:Expr)(t:TT):Prop :=
 ∀(whole:Sem Value) (pins:List (Addr×Obj)) (s:Shared) (σ:St) (H:Hp) (Q:Bool->Hp->Prop),Inv X pins σ H s->t σ H Q->wpAny (model X.prog X.w) X.A (isTrue e X.env whole) (TP X pins σ Q) X.xe s
theorem PW.pt{X:Cx}{e:Expr}{t:TT}(h:PW X e t):PT X e t:=h _
def PA(X:Cx)(es:List Expr)(t:TA):Prop :=
 ∀(pos:Pos) (pins:List (Addr×Obj)) (s:Shared) (σ:St) (H:Hp) (Q:List V->Hp->Prop),Inv X pins σ H s->t σ H Q->wpAny (model X.prog X.w) X.A (spliced (backTo pos (starEach es X.env))) (AP X pins σ Q) X.xe s
def PS(X:Cx)(st:Stmt)(t:TS):Prop :=
 ∀(pins:List (Addr×Obj)) (s:Shared) (σ:St) (H:Hp) (D:Ends),Inv X pins σ H s->t D σ H->wpAny (model X.prog X.w) X.A (exec st X.env) (SP X pins D) X.xe s
def PSs(X:Cx)(st:List Stmt)(t:TS):Prop :=
 ∀(pins:List (Addr×Obj)) (s:Shared) (σ:St) (H:Hp) (D:Ends),Inv X pins σ H s->t D σ H->wpAny (model X.prog X.w) X.A (execs st X.env) (SP X pins D) X.xe s
theorem thn{α:Type}{t:Sem α}{Q Q':α->Shared->Prop}{M:Model}{A:Around}{E:Value->Shared->Prop}{s:Shared}(h:wpAny M A t Q E s)(hQ:∀ a s,Q a s->Q' a s):wpAny M A t Q' E s:=wpAny_mono h hQ fun _ _ x=>x
section
variable {X:Cx}
def tVar(i:Nat):TE:=fun σ H Q=>∃ v,σ[i]?=some (some v)/\Q v H
def tC(v:V):TE:=fun _ H Q=>Q v H
theorem pe_var{i:Nat}{x:Str}{pos:Pos}(hN:X.N[i]?=some x)(hv:Vis X.env.scope x)(hd:(x == ("__debug__" : Str))=false:=by decide)(hcd:(x == ("__classdict__" : Str))=false:=by decide):PE X (.Name x pos) (tVar i):=by
 intro pins s σ H Q I h
 obtain⟨v,e,h⟩:=h
 obtain⟨m,hn,hl⟩:=I.loc
 obtain⟨u,r,l⟩:=hl i x v hN e hv
 have fin:EP X pins σ Q u s:=⟨v,H,I,r,h⟩
 rcases l with⟨hk,hm⟩ | ⟨hk,c,hc,hcell⟩
 ·exact wpAny_Name (wpAny_loadName_local I.ok.kind hk hn hm fin) hd
 ·rcases hk with hk | hk
  ·exact wpAny_Name (wpAny_loadName_cell I.ok.kind hk hc hcell fin) hd
  ·exact wpAny_Name (wpAny_loadName_free I.ok.kind hk hc hcell fin hcd) hd
theorem pe_int{i j pos}:PE X (.Constant (.int i) j pos) (tC (.int i)):=fun _ _ _ H _ I h=>wpAny_Constant_int ⟨.int i,H,I.tok _,⟨_,rfl⟩,h⟩
theorem pe_bl{b j pos}:PE X (.Constant (.bool b) j pos) (tC (.bl b)):=fun _ _ _ H _ I h=>Constant_bool ⟨.bl b,H,I,rfl,h⟩
theorem pe_non{j pos}:PE X (.Constant .none j pos) (tC .non):=fun _ _ _ H _ I h=>Constant_none ⟨.non,H,I,rfl,h⟩
theorem pe_str{x j pos}:PE X (.Constant (.str x) j pos) (tC (.str x)):=fun _ _ _ H _ I h=>Calls.Constant_str ⟨.str x,H,I.tok _,⟨_,rfl⟩,h⟩
def Gl(X:Cx)(x:Str):Prop:=X.env.kindOf x=some .globalImplicit
theorem ld_glob{E:Value->Shared->Prop}{pins:List (Addr×Obj)}{s:Shared}{σ:St}{H:Hp}{x:Str}{u:Value}{pos:Pos}{Q:Value->Shared->Prop}(I:Inv X pins σ H s)(hg:Gl X x)(hm:X.mg x=some u)(h:Q u s)
  (hd:(x == ("__debug__" : Str))=false:=by decide):wpAny (model X.prog X.w) X.A (eval (.Name x pos) X.env) Q E s :=
 Calls.Name_function_global I.ok.kind hg (Calls.loadGlobal_global (by rw [I.ok.glob];exact I.mod.glob.keeps I.bk) hm h) hd
theorem ld_blt{E:Value->Shared->Prop}{pins:List (Addr×Obj)}{s:Shared}{σ:St}{H:Hp}{x:Str}{u:Value}{pos:Pos}{Q:Value->Shared->Prop}(I:Inv X pins σ H s)(hg:Gl X x)(hm:X.mg x=none)(hv:bootBuiltins x=some u)(h:Q u s)
  (hn:x ≠ "__name__" := by decide) (hd:(x == ("__debug__" : Str))=false:=by decide):wpAny (model X.prog X.w) X.A (eval (.Name x pos) X.env) Q E s:=by
 obtain⟨mb,h1,h2⟩:=I.mod.blt
 exact Calls.Name_function_global I.ok.kind hg (Calls.loadGlobal_builtin (by rw [I.ok.glob];exact I.mod.glob.keeps I.bk) hm (by rw [I.ok.blt];exact h1.keeps I.bk) ((h2 x hn).trans hv) h) hd
theorem pe_glob{x:Str}{v:V}{u:Value}{pos:Pos}(hg:Gl X x)(hm:X.mg x=some u)(r:RelV v u)(hd:(x == ("__debug__" : Str))=false:=by decide):PE X (.Name x pos) (tC v) :=
 fun _ _ _ H _ I h=>ld_glob I hg hm ⟨v,H,I,r,h⟩ hd
theorem pe_bltn{x:Str}{v:V}{u:Value}{pos:Pos}(hg:Gl X x)(hm:X.mg x=none)(hv:bootBuiltins x=some u)(r:RelV v u)(hn:x ≠ "__name__" := by decide)(hd:(x == ("__debug__" : Str))=false:=by decide):PE X (.Name x pos) (tC v) :=
 fun _ _ _ H _ I h=>ld_blt I hg hm hv ⟨v,H,I,r,h⟩ hn hd
variable {a b:Expr}{ta tb:TE}{pos:Pos}
variable {tA tB':TT}{rest:List Expr}
def tAnd(t u:TT):TT:=fun σ H Q=>t σ H fun c H1=>if c=true then u σ H1 Q else Q false H1
theorem pw_and1(ha:PT X a tA):PW X (.BoolOp .And [a] pos) tA:=by
 intro wh pins s σ H Q I h
 refine isTrue_and (thn (ha pins s σ H Q I h) fun c s1 e=>?_)
 cases c with
 | true=>exact isTrue_and_nil e
 | false=>exact e
theorem pw_and(ha:PT X a tA)(hb:PW X (.BoolOp .And (b::rest) pos) tB'):PW X (.BoolOp .And (a::b::rest) pos) (tAnd tA tB'):=by
 intro wh pins s σ H Q I h
 refine isTrue_and (thn (ha pins s σ H _ I h) fun c s1 ⟨H1,I1,q1⟩=>?_)
 cases c with
 | true=>exact hb wh pins s1 σ H1 Q I1 q1
 | false=>exact⟨H1,I1,q1⟩
def tNotV(ta:TE):TE:=fun σ H Q=>ta σ H fun x H1=>∃ c,x=.bl c/\Q (.bl (!c)) H1
theorem pe_not(ha:PE X a ta):PE X (.UnaryOp .Not a pos) (tNotV ta):=by
 intro pins s σ H Q I h
 refine UnaryOp_ (thn (ha pins s σ H _ I h) fun v s1 ⟨x,H1,I1,r1,q1⟩=>?_)
 obtain⟨c,rfl,q1⟩:=q1
 cases r1
 exact not_of (wpAny_truthy_bool ⟨.bl (!c),H1,I1,rfl,q1⟩)
def tIf(t:TT)(ta tb:TE):TE:=fun σ H Q=>t σ H fun c H1=>if c=true then ta σ H1 Q else tb σ H1 Q
theorem pe_ifExp{c:Expr}(hc:PT X c tA)(ha:PE X a ta)(hb:PE X b tb):PE X (.IfExp c a b pos) (tIf tA ta tb):=by
 intro pins s σ H Q I h
 refine wpAny_IfExp (thn (hc pins s σ H _ I h) fun d s1 ⟨H1,I1,q1⟩=>?_)
 cases d with
 | true=>exact ha pins s1 σ H1 Q I1 q1
 | false=>exact hb pins s1 σ H1 Q I1 q1
end
def SqL(K:PySem.W.Frag)(H:Hp)(a:Addr)(xs:List V):Prop :=
 Rd H a (.lst xs) \/
  ∃(o:Obj) (its:Array Value) (n:Nat),K.lookup a=some o/\o.cls=.type "list" /\ o.dict=none/\o.data=.seq its n/\its.size<=sizeLine/\Vals xs its.toList
def SqT(K:PySem.W.Frag)(H:Hp)(a:Addr)(xs:List V):Prop :=
 Rd H a (.tup xs) \/
  ∃(o:Obj) (its:Array Value) (n:Nat),K.lookup a=some o/\o.cls=.type "tuple" /\ o.dict=none/\o.data=.seq its n/\its.size<=sizeLine/\Vals xs its.toList
def absV:Value->Option V
 | .none=>some .non
 | .bool b=>some (.bl b)
 | .int i _=>some (.int i)
 | .str x _=>some (.str x)
 | .bytes b _=>some (.byt b)
 | .float b _=>some (.flt b)
 | .ref a=>some (.ref a)
 | .type n=>some (.ty n)
 | _=>none
theorem RelV.abs{x:V}{u:Value}(r:RelV x u):absV u=some x:=by
 cases x with
 | non=>cases r;rfl
 | bl _=>cases r;rfl
 | int _=>obtain⟨t,rfl⟩:=r;rfl
 | str _=>obtain⟨t,rfl⟩:=r;rfl
 | byt _=>obtain⟨t,rfl⟩:=r;rfl
 | flt _=>obtain⟨t,rfl⟩:=r;rfl
 | ref _=>cases r;rfl
 | ty _=>cases r;rfl
theorem RelV.inj{x y:V}{u:Value}(r:RelV x u)(q:RelV y u):x=y:=Option.some.inj (r.abs.symm.trans q.abs)
theorem Vals.inj:∀{xs ys:List V} {us:List Value},Vals xs us->Vals ys us->xs=ys
 | _,_,_,.nil,.nil=>rfl
 | _,_,_,.cons r t,.cons r' t'=>by rw [r.inj r',Vals.inj t t']
section
variable {X:Cx}{pins:List (Addr×Obj)}{σ:St}{H:Hp}{s:Shared}{a:Addr}{xs ys:List V}
theorem SqL.of{K:PySem.W.Frag}(h:H a=some (.lst xs)):SqL K H a xs:=.inl (.inl h)
theorem SqT.of{K:PySem.W.Frag}(h:H a=some (.tup xs)):SqT K H a xs:=.inl (.inl h)
theorem Inv.list(I:Inv X pins σ H s)(h:SqL X.K H a xs):∃ its:List Value,Vals xs its/\PlainL s.heap a its.toArray/\xs.length<=sizeLine:=by
 rcases h with h | ⟨o,its,n,hk,hc,hd,hs,hz,r⟩
 ·obtain⟨z,its,n,r,e⟩:=h.ok I.hok
  exact⟨its,r,⟨_,n,e,rfl,rfl,rfl⟩,z⟩
 ·refine⟨its.toList,r,⟨o,n,I.kIn a o hk,hc,hd,by simpa using hs⟩,?_⟩
  have e:=r.length
  simp only [Array.length_toList] at e
  omega
theorem Inv.tupleD(I:Inv X pins σ H s)(h:SqT X.K H a xs):∃ its:List Value,Vals xs its/\TupD s.heap a its.toArray/\xs.length<=sizeLine:=by
 rcases h with h | ⟨o,its,n,hk,hc,hd,hs,hz,r⟩
 ·obtain⟨z,its,r,p⟩:=h.ok I.hok
  exact⟨its,r,p,z⟩
 ·refine⟨its.toList,r,⟨o,I.kIn a o hk,hc,⟨n,by simpa using hs⟩,hd⟩,?_⟩
  have e:=r.length
  simp only [Array.length_toList] at e
  omega
theorem Inv.tuple(I:Inv X pins σ H s)(h:SqT X.K H a xs):∃ its:List Value,Vals xs its/\IsTup s.heap a its.toArray/\xs.length<=sizeLine:=by
 obtain⟨its,r,p,z⟩:=I.tupleD h
 exact⟨its,r,p.isTup,z⟩
theorem Inv.list_inj(I:Inv X pins σ H s)(h:SqL X.K H a xs)(h':SqL X.K H a ys):xs=ys:=by
 obtain⟨its,r,⟨o,n,e,_,_,d⟩,_⟩:=I.list h
 obtain⟨its',r',⟨o',n',e',_,_,d'⟩,_⟩:=I.list h'
 rw [e] at e';cases e'
 rw [d] at d'
 injection d' with d1 _
 have:its=its':=by simpa using congrArg Array.toList d1
 subst this
 exact r.inj r'
theorem Inv.tuple_inj(I:Inv X pins σ H s)(h:SqT X.K H a xs)(h':SqT X.K H a ys):xs=ys:=by
 obtain⟨its,r,⟨o,e,_,n,d⟩,_⟩:=I.tuple h
 obtain⟨its',r',⟨o',e',_,n',d'⟩,_⟩:=I.tuple h'
 rw [e] at e';cases e'
 rw [d] at d'
 injection d' with d1 _
 have:its=its':=by simpa using congrArg Array.toList d1
 subst this
 exact r.inj r'
end
abbrev Cx.wish(X:Cx)(E:Value->Shared->Prop):Cx:={ X with xe:=E }
abbrev Cx.nox(X:Cx):Cx:=X.wish fun _ _=>False
theorem Cx.Ok.wish{X:Cx}(ok:X.Ok)(E:Value->Shared->Prop):(X.wish E).Ok :=
 ⟨ok.mod,ok.kind,ok.glob,ok.blt,ok.above,ok.inj,ok.has,ok.cab,ok.hd,ok.frames,ok.stk,ok.exf,ok.bs,ok.bsz,ok.noex,ok.exfs,ok.funs,ok.frf⟩
theorem Cx.Ok.unwish{X:Cx}{E:Value->Shared->Prop}(ok:(X.wish E).Ok):X.Ok :=
 ⟨ok.mod,ok.kind,ok.glob,ok.blt,ok.above,ok.inj,ok.has,ok.cab,ok.hd,ok.frames,ok.stk,ok.exf,ok.bs,ok.bsz,ok.noex,ok.exfs,ok.funs,ok.frf⟩
section
variable {X:Cx}{pins:List (Addr×Obj)}{σ:St}{H:Hp}{s:Shared}{E:Value->Shared->Prop}
theorem Inv.wish(I:Inv X pins σ H s)(E:Value->Shared->Prop):Inv (X.wish E) pins σ H s:=⟨I.ok.wish E,I.os,I.bare,I.base,I.loc,I.cell,I.free,I.freeC,I.pin,I.hok,I.len⟩
theorem Inv.unwish(I:Inv (X.wish E) pins σ H s):Inv X pins σ H s:=⟨I.ok.unwish,I.os,I.bare,I.base,I.loc,I.cell,I.free,I.freeC,I.pin,I.hok,I.len⟩
theorem SP.unwish{D:Ends}{f:Flow}{s':Shared}(h:SP (X.wish E) pins D f s'):SP X pins D f s':=by
 cases f with
 | next=>obtain⟨σ',H',I,q⟩:=h;exact⟨σ',H',I.unwish,q⟩
 | brk=>obtain⟨σ',H',I,q⟩:=h;exact⟨σ',H',I.unwish,q⟩
 | cont=>obtain⟨σ',H',I,q⟩:=h;exact⟨σ',H',I.unwish,q⟩
 | ret u=>obtain⟨v,σ',H',I,r,q⟩:=h;exact⟨v,σ',H',I.unwish,r,q⟩
theorem PSs.nox{st:List Stmt}{t:TS}(h:PSs X.nox st t):PSs X st t:=fun pins s σ H D I hw =>
 wpAny_mono (h pins s σ H D (I.wish _) hw) (fun _ _ q=>q.unwish) fun _ _ z=>False.elim z
end
section
variable {X:Cx}{st:Stmt}{rest:List Stmt}{t u:TS}{e:Expr}{te:TE}{pos:Pos}
def tNext:TS:=fun D σ H=>D.nx σ H
def tSeq(t u:TS):TS:=fun D σ H=>t { D with nx:=u D } σ H
theorem pss_nil:PSs X [] tNext:=fun _ _ σ H _ I h=>wpAny_execs_nil ⟨σ,H,I,h⟩
theorem pss_cons(h1:PS X st t)(h2:PSs X rest u):PSs X (st::rest) (tSeq t u):=by
 intro pins s σ H D I h
 refine wpAny_execs_cons (thn (h1 pins s σ H { D with nx:=u D } I h) fun f s1 q=>?_)
 cases f with
 | next =>
  obtain⟨σ',H',I',q⟩:=q
  exact h2 pins s1 σ' H' D I' q
 | ret v=>exact q
 | brk=>exact q
 | cont=>exact q
theorem pss_one(h1:PS X st t):PSs X [st] t:=by
 intro pins s σ H D I h
 refine wpAny_execs_cons (thn (h1 pins s σ H D I h) fun f s1 q=>?_)
 cases f with
 | next=>exact wpAny_execs_nil q
 | ret v=>exact q
 | brk=>exact q
 | cont=>exact q
theorem Inv.quiet{pins:List (Addr×Obj)}{σ:St}{H:Hp}{s:Shared}(I:Inv X pins σ H s):interactive X.env=false:=by simp [interactive,I.ok.kind]
def tDrop(te:TE):TS:=fun D σ H=>te σ H fun _ H1=>D.nx σ H1
theorem ps_expr(he:PE X e te)(hs:swapsWith e none pos.line X.env=pure false:=by rfl):PS X (.Expr e pos) (tDrop te):=by
 intro pins s σ H D I h
 exact wpAny_Expr_any (thn (he pins s σ H _ I h) fun v s1 ⟨x,H1,I1,r1,q1⟩=>⟨σ,H1,I1,q1⟩) I.quiet hs
def tRet(te:TE):TS:=fun D σ H=>te σ H D.rt
theorem ps_ret(he:PE X e te):PS X (.Return (some e) pos) (tRet te):=by
 intro pins s σ H D I h
 exact wpAny_Return_some (thn (he pins s σ H _ I h) fun v s1 ⟨x,H1,I1,r1,q1⟩=>⟨x,σ,H1,I1,r1,q1⟩)
def tIfS(c:TT)(t u:TS):TS:=fun D σ H=>c σ H fun b H1=>if b=true then t D σ H1 else u D σ H1
theorem ps_if{c:Expr}{a b:List Stmt}{tc:TT}(hc:PT X c tc)(ha:PSs X a t)(hb:PSs X b u):PS X (.If c a b pos) (tIfS tc t u):=by
 intro pins s σ H D I h
 refine wpAny_If (thn (hc pins s σ H _ I h) fun d s1 ⟨H1,I1,q1⟩=>?_)
 cases d with
 | true=>exact ha pins s1 σ H1 D I1 q1
 | false=>exact hb pins s1 σ H1 D I1 q1
end
abbrev TG:=V->St->Hp->(St->Hp->Prop)->Prop
abbrev TGs:=List V->St->Hp->(St->Hp->Prop)->Prop
def PG(X:Cx)(target:Expr)(t:TG):Prop :=
 ∀(pins:List (Addr×Obj)) (s:Shared) (σ:St) (H:Hp) (v:V) (u:Value) (Q:St->Hp->Prop),Inv X pins σ H s->RelV v u->t v σ H Q ->
  wpAny (model X.prog X.w) X.A (assign target X.env u) (fun _ s'=>∃ σ' H',Inv X pins σ' H' s'/\Q σ' H') X.xe s
def PGs(X:Cx)(ts:List Expr)(t:TGs):Prop :=
 ∀(pins:List (Addr×Obj)) (s:Shared) (σ:St) (H:Hp) (vs:List V) (us:List Value) (Q:St->Hp->Prop),Inv X pins σ H s->Vals vs us->t vs σ H Q ->
  wpAny (model X.prog X.w) X.A (assignInOrder ((assignEach ts X.env).map (·.2)) us) (fun _ s'=>∃ σ' H',Inv X pins σ' H' s'/\Q σ' H') X.xe s
abbrev TSet:=V->V->V->Hp->(Hp->Prop)->Prop
def PSet(X:Cx)(t:TSet):Prop :=
 ∀(pins:List (Addr×Obj)) (s:Shared) (σ:St) (H:Hp) (o i v:V) (ov iv u:Value) (Q:Hp->Prop),Inv X pins σ H s->RelV o ov->RelV i iv->RelV v u->t o i v H Q ->
  wpAny (model X.prog X.w) X.A (setItem ov iv u) (fun _ s'=>∃ H',Inv X pins σ H' s'/\Q H') X.xe s
section
variable {X:Cx}{pos:Pos}
def gName(i:Nat):TG:=fun v σ H Q=>Q (σ.set i (some v)) H
def gSub(to ti:TE)(t:TSet):TG:=fun v σ H Q=>to σ H fun o H1=>ti σ H1 fun i H2=>t o i v H2 fun H3=>Q σ H3
theorem pg_sub{o i:Expr}{to ti:TE}{t:TSet}(ho:PE X o to)(hi:PE X i ti)(hs:PSet X t)
  (ha:∀ v,assign (.Subscript o i pos) X.env v=(do
   let ov <-holding [v] (eval o X.env)
   let iv <-holding [v,ov] (eval i X.env)
   standAt pos
   holding [v,ov,iv] (setItem ov iv v)
   release [v,ov,iv] []):=by intro _;rfl):PG X (.Subscript o i pos) (gSub to ti t):=by
 intro pins s σ H v u Q I r h
 rw [ha]
 refine wpAny_bind (wpAny_holding (thn (ho pins s σ H _ I h) fun ov s1 ⟨x,H1,I1,r1,q1⟩=>?_))
 refine wpAny_bind (wpAny_holding (thn (hi pins s1 σ H1 _ I1 q1) fun iv s2 ⟨y,H2,I2,r2,q2⟩=>?_))
 refine wpAny_bind (wpAny_standAt (wpAny_bind (wpAny_holding (thn (hs pins s2 σ H2 x y v ov iv u _ I2 r1 r2 r q2) fun _ s3 ⟨H3,I3,q3⟩=>?_))))
 exact wpAny_release ⟨σ,H3,I3,q3⟩
def tAsg(te:TE)(g:TG):TS:=fun D σ H=>te σ H fun x H1=>g x σ H1 D.nx
theorem ps_asg{tg e:Expr}{te:TE}{g:TG}(he:PE X e te)(hg:PG X tg g)(hs:swapsWithSole [tg] e pos.line X.env=pure false:=by rfl)(hw:swappedStores [tg] e X.env=pure none:=by rfl)
  (h1:(assignEach [tg] X.env).map (·.2) = [assign tg X.env]:=by rfl):PS X (.Assign [tg] e pos) (tAsg te g):=by
 intro pins s σ H D I h
 refine wpAny_Assign_stores (thn (he pins s σ H _ I h) fun v s1 ⟨x,H1,I1,r1,q1⟩=>?_) hs hw
 rw [h1]
 exact thn (hg pins s1 σ H1 x v _ I1 r1 q1) fun _ s2 q=>q
theorem ps_set{i:Nat}{x:Str}{e:Expr}{te:TE}{pos':Pos}(hN:X.N.Nodup)(hi:X.N[i]?=some x)(hx:Loc X.env.scope x)(he:PE X e te)(hs:swapsWith e (some (.Name x pos')) pos.line X.env=pure false:=by rfl)(hf:X.fn x=true\/X.env.scope.names.lookup x=some .local:=by first | exact .inl rfl | exact .inr rfl | assumption):
  PS X (.Assign [.Name x pos'] e pos) (tAsg te (gName i)):=by
 intro pins s σ H D I h
 refine wpAny_Assign_Name (thn (he pins s σ H _ I h) fun v s1 ⟨y,H1,I1,r1,q1⟩=>?_) hs
 exact store_ok I1 hN hi hx r1 (fun s2 I2=>⟨_,H1,I2,q1⟩) hf
def tPar(i j:Nat)(ta:TA):TS:=fun D σ H=>ta σ H fun vs H1=>∃ v w,vs = [v,w]/\D.nx ((σ.set i (some v)).set j (some w)) H1
theorem ps_par{i j:Nat}{x y:Str}{a b:Expr}{ta:TA}{px py pt:Pos}{kt k2 pt2}(hc:X.calm=true)(hN:X.N.Nodup)(hi:X.N[i]?=some x)(hj:X.N[j]?=some y)(hij:i≠j)
  (hx:X.env.scope.names.lookup x=some .local) (hy:X.env.scope.names.lookup y=some .local) (ha:PA X [a,b] ta)
  (hw:swappedStores [.Tuple [.Name x px,.Name y py] kt pt] (.Tuple [a,b] k2 pt2) X.env=pure (some [x,y]))
  (hs:swapsWithSole [.Tuple [.Name x px,.Name y py] kt pt] (.Tuple [a,b] k2 pt2) pos.line X.env=pure false:=by rfl) :
  PS X (.Assign [.Tuple [.Name x px,.Name y py] kt pt] (.Tuple [a,b] k2 pt2) pos) (tPar i j ta):=by
 intro pins s σ H D I h
 rw [exec_Assign_arm]
 refine wpAny_bind (wpAny_standAt ?_)
 rw [hs]
 refine wpAny_bind (wpAny_pure ?_)
 rw [if_neg (by decide)]
 refine wpAny_bind (Tuple_ (thn (ha _ pins s σ H _ I h) fun us s1 ⟨vs,H1,I1,r1,q1⟩=>?_))
 obtain⟨v,w,e1,q1⟩:=q1
 subst e1
 obtain⟨u1,u2,rfl,rv,rw'⟩:∃ u1 u2,us = [u1,u2]/\RelV v u1/\RelV w u2:=by
  cases r1 with
  | cons p q =>
   cases q with
   | cons p' q' =>
    cases q'
    exact⟨_,_,rfl,p,p'⟩
 refine wpAny_newObj_type ?_ (by show 2<=sizeLine;decide)
 have I2:Inv X pins σ H1 { s1 with heap:=s1.heap.push { cls:=.type "tuple",data:=.seq [u1,u2].toArray } }:=I1.kept (t':=s1.toks) fun b o e=>Heap.get?_push_of_some _ e
 rw [hw]
 refine wpAny_bind (wpAny_pure ?_)
 show wpAny (model X.prog X.w) X.A (do rule "assign.swapped-stores";let items <-unpackItems (.ref s1.heap.objs.size) 2 none;assignInOrder [fun v=>bindName X.env y v,fun v=>bindName X.env x v] items.reverse;pure Flow.next) _ _ _
 refine wpAny_bind (wpAny_rule (wpAny_bind (unpackItems_tuple (items:=#[u1,u2]) (I.ok.hd hc) (IsTup.new s1.heap _) fun h' hx'=>?_)))
 have I3:=I2.kept (h':=h') (t':=s1.toks) fun b o e=>hx' b o (Nat.ne_of_lt (Heap.lt_size e)) e
 show wpAny _ _ (assignInOrder [fun v=>bindName X.env y v,fun v=>bindName X.env x v] [u2,u1] >>= fun _=>pure Flow.next) _ _ _
 refine wpAny_bind (assignInOrder_cons (wpAny_bindName (store_ok I3 hN hj (.inl hy) rw' (fun s2 I4=>?_) (.inr hy))))
 refine assignInOrder_cons (wpAny_bindName (store_ok I4 hN hi (.inl hx) rv (fun s3 I5=>assignInOrder_nil (wpAny_pure ?_)) (.inr hx)))
 rw [List.set_comm _ _ (Ne.symm hij)] at I5
 exact⟨_,H1,I5,q1⟩
end
section
variable {X:Cx}{pos:Pos}
end
structure It where
 go:Nat->Hp->Prop
 yld:Nat->Hp->V->Hp->Prop
 stop:Nat->Hp->Prop
def FpOk(X:Cx)(pins:List (Addr×Obj))(H:Hp)(b:Addr):Prop :=
 H b=none/\b≠X.env.locals/\b∉X.fs/\(b∈X.ex\/X.s₀.heap.objs.size<=b)/\(∀ x c,X.env.cells.lookup x=some c->c≠b)/\∀ p∈X.pn++pins,p.1≠b
theorem Inv.fpOk{X:Cx}{pins:List (Addr×Obj)}{σ:St}{H H':Hp}{s:Shared}{b:Addr}(I:Inv X pins σ H s)(hb:s.heap.objs.size<=b)(hn:H' b=none):FpOk X pins H' b:=by
 refine⟨hn,Nat.ne_of_gt (Nat.lt_of_lt_of_le I.lt hb),I.nofs hb,.inr (Nat.le_trans I.sz hb),fun x c e z=>?_,fun p hp z=>?_⟩
 ·obtain⟨v,q⟩:=I.cell x c e
  exact absurd (Nat.lt_of_lt_of_le q.lt (by rw [z];exact hb)) (Nat.lt_irrefl _)
 ·exact absurd (Nat.lt_of_lt_of_le (Heap.lt_size (I.pin p hp).1) (by rw [z];exact hb)) (Nat.lt_irrefl _)
structure Turn(P:Program)(w:World)(K:PySem.W.Frag)(tg:Expr)(J:It)(fp:List Addr)(it:Addr)(tn:Nat->Heap->Prop):Prop where
 mem:it∈fp
 obj:∀ i h,tn i h->∀ b∈fp,∃ o,h.get? b=some o/\∀ v,o.data ≠ .cell v
 keep:∀ i h h',tn i h->(∀ b∈fp,∀ o,h.get? b=some o->h'.get? b=some o)->tn i h'
 item:∀(X:Cx),X.prog=P->X.w=w->X.K=K->X.calm=true->∀(i:Nat) (pins:List (Addr×Obj)) (s:Shared) (σ:St) (H:Hp) (E:Value->Shared->Prop),Inv X pins σ H s->(∀ b∈fp,FpOk X pins H b)->tn i s.heap->J.go i H ->
  wpAny (model P w) X.A (pyNext (.ref it)) (fun r s1=>∃ u,r=some u /\
   wpAny (model P w) X.A (letOwnedTupleGo tg (.ref it) u) (fun _ s2=>∃ x H',Inv X pins σ H' s2/\RelV x u/\J.yld i H x H'/\tn (i+1) s2.heap/\∀ b∈fp,H' b=none) E s1) E s
 done:∀(X:Cx),X.prog=P->X.w=w->X.K=K->X.calm=true->∀(i:Nat) (pins:List (Addr×Obj)) (s:Shared) (σ:St) (H:Hp) (E:Value->Shared->Prop),Inv X pins σ H s->(∀ b∈fp,FpOk X pins H b)->tn i s.heap->J.stop i H ->
  wpAny (model P w) X.A (pyNext (.ref it)) (fun r s1=>r=none/\Inv X pins σ H s1) E s
 self:∀(A:Around) (i:Nat) (s:Shared) (Q:Value->Shared->Prop) (E:Value->Shared->Prop),tn i s.heap->Q (.ref it) s->wpAny (model P w) A (pyIter (.ref it)) Q E s
abbrev TI:=St->Hp->(It->Hp->Prop)->Prop
def PIE(X:Cx)(pins:List (Addr×Obj))(σ:St)(tg:Expr)(R:It->Hp->Prop)(itv:Value)(s2:Shared):Prop :=
 ∃(it:Addr) (fp:List Addr) (tn:Nat->Heap->Prop) (J:It) (H':Hp),itv=.ref it/\Inv X pins σ H' s2/\Turn X.prog X.w X.K tg J fp it tn/\tn 0 s2.heap/\(∀ b∈fp,FpOk X pins H' b)/\R J H'
def PI(X:Cx)(tg iter:Expr)(wi:TI):Prop :=
 ∀(pins:List (Addr×Obj)) (s:Shared) (σ:St) (H:Hp) (R:It->Hp->Prop),Inv X pins σ H s->wi σ H R ->
  wpAny (model X.prog X.w) X.A (eval iter X.env) (fun v s1=>wpAny (model X.prog X.w) X.A (pyIter v) (PIE X pins σ tg R) X.xe s1) X.xe s
theorem go_of{M:Model}{A:Around}{E:Value->Shared->Prop}{s:Shared}{tg:Expr}{it:Addr}{u:Value}{o:Obj}{n:String}{vs:Array Value}{Q:Unit->Shared->Prop}(ho:s.heap.get? it=some o)(hc:o.cls=.type n)(hd:o.data=.fields vs)
  (hn : ["enumerate", "zip", "dict_itemiterator", "dict_reverseitemiterator", "odict_iterator", "itertools.zip_longest", "itertools.pairwise"].contains n=false) (hQ:Q () s):wpAny M A (letOwnedTupleGo tg (.ref it) u) Q E s:=by
 unfold letOwnedTupleGo
 cases tg <;> first
  | exact wpAny_pure hQ
  | (cases u <;> first
    | exact wpAny_pure hQ
    | (refine wpAny_bind (wpAny_load ho ?_);rw [hc,hd];show wpAny M A (if (["enumerate", "zip", "dict_itemiterator", "dict_reverseitemiterator", "odict_iterator", "itertools.zip_longest", "itertools.pairwise"].contains n && vs[0]? == some (rawInt _))=true then _ else _) Q E s;rw [if_neg (by intro h;rw [hn,Bool.false_and] at h;cases h)];exact wpAny_pure hQ))
def Itl(K:PySem.W.Frag)(a:Addr):It :=
 ⟨fun i H=>∃ xs x,SqL K H a xs/\xs[i]?=some x,fun i H x H'=>H'=H/\∀ xs,SqL K H a xs->xs[i]?=some x,fun i H=>∃ xs,SqL K H a xs/\xs.length<=i⟩
def Itt(K:PySem.W.Frag)(a:Addr):It :=
 ⟨fun i H=>∃ xs x,SqT K H a xs/\xs[i]?=some x,fun i H x H'=>H'=H/\∀ xs,SqT K H a xs->xs[i]?=some x,fun i H=>∃ xs,SqT K H a xs/\xs.length<=i⟩
def Itr(lo:Int)(n:Nat):It:=⟨fun i _=>i<n,fun i H x H'=>H'=H/\x=.int (lo+i),fun i _=>n<=i⟩
theorem turn_list{P:Program}{w:World}{K:PySem.W.Frag}{tg:Expr}(a it:Addr):Turn P w K tg (Itl K a) [it] it (fun i h=>h.IsListIter it a i) where
 mem:=by simp
 obj:=fun i h st b hb=>by
  have e:b=it:=by simpa using hb
  subst e
  obtain⟨o,e,c,d⟩:=st
  exact⟨o,e,fun v z=>by rw [d] at z;cases z⟩
 keep:=fun i h h' st k=>st.at fun o e=>k it (by simp) o e
 item:=by
  intro X hP hw hK hc i pins s σ H E I hf st hg
  subst hP hw hK
  obtain⟨xs,x,hq,hx⟩:=hg
  obtain⟨its,rv,p,hz⟩:=I.list hq
  obtain⟨u,hu,ru⟩:=rv.get hx
  obtain⟨f0,f1,f2,f3,f4,f5⟩:=hf it (by simp)
  refine wpAny_pyNext_list_item st p.isList (x:=u) (by simpa using hu) fun h' st' sb=>?_
  have I1:Inv X pins σ H { s with heap:=h' }:=I.turned (t':=s.toks) (fun b o hb e=>(sb.2 b hb).trans e) f0 f1 f3 f4 f5
  obtain⟨o,e,c,d⟩:=id st'
  exact⟨u,rfl,go_of (s:={ s with heap:=h' }) e c d (by decide) ⟨x,H,I1,ru,⟨rfl,fun ys hy=>by rw [I.list_inj hy hq];exact hx⟩,st',fun b hb=>(hf b hb).1⟩⟩
 done:=by
  intro X hP hw hK hc i pins s σ H E I hf st hg
  subst hP hw hK
  obtain⟨xs,hq,hx⟩:=hg
  obtain⟨its,rv,p,hz⟩:=I.list hq
  obtain⟨f0,f1,f2,f3,f4,f5⟩:=hf it (by simp)
  have hl:=rv.length
  exact wpAny_pyNext_list_end (I.ok.hd hc) st p.isList (by simp;omega) fun h' eb=>⟨rfl,I.turned (t':=s.toks) (fun b o hb e=>eb b o hb e) f0 f1 f3 f4 f5⟩
 self:=fun _ _ _ _ _ st h=>wpAny_pyIter_listiter st h
theorem turn_tuple{P:Program}{w:World}{K:PySem.W.Frag}{tg:Expr}(a it:Addr):Turn P w K tg (Itt K a) [it] it (fun i h=>h.IsTupleIter it a i) where
 mem:=by simp
 obj:=fun i h st b hb=>by
  have e:b=it:=by simpa using hb
  subst e
  obtain⟨o,e,c,d⟩:=st
  exact⟨o,e,fun v z=>by rw [d] at z;cases z⟩
 keep:=fun i h h' st k=>st.at fun o e=>k it (by simp) o e
 item:=by
  intro X hP hw hK hc i pins s σ H E I hf st hg
  subst hP hw hK
  obtain⟨xs,x,hq,hx⟩:=hg
  obtain⟨its,rv,p,hz⟩:=I.tuple hq
  obtain⟨u,hu,ru⟩:=rv.get hx
  obtain⟨f0,f1,f2,f3,f4,f5⟩:=hf it (by simp)
  refine wpAny_pyNext_tuple_item st (show s.heap.IsTuple a its.toArray from p) (x:=u) (by simpa using hu) fun h' st' sb=>?_
  have I1:Inv X pins σ H { s with heap:=h' }:=I.turned (t':=s.toks) (fun b o hb e=>(sb.2 b hb).trans e) f0 f1 f3 f4 f5
  obtain⟨o,e,c,d⟩:=id st'
  exact⟨u,rfl,go_of (s:={ s with heap:=h' }) e c d (by decide) ⟨x,H,I1,ru,⟨rfl,fun ys hy=>by rw [I.tuple_inj hy hq];exact hx⟩,st',fun b hb=>(hf b hb).1⟩⟩
 done:=by
  intro X hP hw hK hc i pins s σ H E I hf st hg
  subst hP hw hK
  obtain⟨xs,hq,hx⟩:=hg
  obtain⟨its,rv,p,hz⟩:=I.tuple hq
  obtain⟨f0,f1,f2,f3,f4,f5⟩:=hf it (by simp)
  have hl:=rv.length
  exact wpAny_pyNext_tuple_end (I.ok.hd hc) st (show s.heap.IsTuple a its.toArray from p) (by simp;omega) fun h' eb=>⟨rfl,I.turned (t':=s.toks) (fun b o hb e=>eb b o hb e) f0 f1 f3 f4 f5⟩
 self:=fun _ _ _ _ _ st h=>wpAny_pyIter_tupleiter st h
theorem turn_range{P:Program}{w:World}{K:PySem.W.Frag}{tg:Expr}(it:Addr)(lo:Int)(n:Nat):Turn P w K tg (Itr lo n) [it] it (fun i h=>IsRangeIter h it (lo+(i:Nat) * 1) ((n:Int)-(i:Nat)) 1) where
 mem:=by simp
 obj:=fun i h st b hb=>by
  have e:b=it:=by simpa using hb
  subst e
  exact⟨_,st,fun v z=>by
   have z':Data.fields _=Data.cell v:=z
   cases z'⟩
 keep:=fun i h h' st k=>k it (by simp) _ st
 item:=by
  intro X hP hw hK hc i pins s σ H E I hf st hg
  subst hP hw hK
  obtain⟨f0,f1,f2,f3,f4,f5⟩:=hf it (by simp)
  have W:=Walks.range (prog:=X.prog) (w:=X.w) (I.ok.hd hc) it lo 1 n
  refine W.item i s _ _ hg st fun v h' tk hv st' kk=>?_
  obtain⟨t,rfl⟩:=hv
  have I1:Inv X pins σ H { s with heap:=h',toks:=tk }:=I.turned (fun b o hb e=>kk b o (by simpa using hb) e) f0 f1 f3 f4 f5
  refine⟨_,rfl,go_of (s:={ s with heap:=h',toks:=tk }) (n := "range_iterator") st' rfl rfl (by decide) ⟨.int (lo+i),H,I1,⟨t,?_⟩,⟨rfl,rfl⟩,st',fun b hb=>(hf b hb).1⟩⟩
  rw [Int.mul_one]
 done:=by
  intro X hP hw hK hc i pins s σ H E I hf st hg
  subst hP hw hK
  obtain⟨f0,f1,f2,f3,f4,f5⟩:=hf it (by simp)
  exact wpAny_pyNext_range_end (I.ok.hd hc) st (by have:n<=i:=hg;omega) fun h' eb=>⟨rfl,I.turned (t':=s.toks) (fun b o hb e=>eb b o hb e) f0 f1 f3 f4 f5⟩
 self:=fun _ _ _ _ _ st h=>wpAny_pyIter_rangeiter st h
section
variable {X:Cx}{tg:Expr}
theorem range_it{pins:List (Addr×Obj)}{σ:St}{H:Hp}{s:Shared}{R:It->Hp->Prop}{E:Value->Shared->Prop}{lo hi:Int}{t u v:Tok}{tk:Nat}(I:Inv X pins σ H s)(h1 : -(2 ^ 62)<=lo)(h2:lo<2 ^ 62)(h3 : -(2 ^ 62)<=hi)(h4:hi<2 ^ 62)
  (q:R (Itr lo (hi-lo).toNat) H):wpAny (model X.prog X.w) X.A (pyIter (.ref s.heap.objs.size)) (PIE X pins σ tg R) E { s with heap:=s.heap.push { cls:=.type "range",data:=.fields #[.int lo t,.int hi u,.int 1 v] },toks:=tk }:=by
 refine wpAny_pyIter_range (IsRange.new ..) (small_one h1 h2 h3 h4) ?_
 have I1:Inv X pins σ H { s with heap:=s.heap.push { cls:=.type "range",data:=.fields #[.int lo t,.int hi u,.int 1 v] },toks:=tk }:=I.kept fun b o e=>Heap.get?_push_of_some _ e
 refine⟨(s.heap.push { cls:=.type "range",data:=.fields #[.int lo t,.int hi u,.int 1 v] }).objs.size,[(s.heap.push { cls:=.type "range",data:=.fields #[.int lo t,.int hi u,.int 1 v] }).objs.size],_,_,H,rfl,
  I1.kept (t':=tk) fun b o e=>Heap.get?_push_of_some _ e,turn_range _ lo (hi-lo).toNat,?_,fun b hb=>?_,q⟩
 ·have e1:lo+((0:Nat):Int) * 1=lo:=by simp
  have e2:(((hi-lo).toNat:Nat):Int)-((0:Nat):Int)=Builtin.Range.rangeSize lo hi 1:=by rw [rangeSize_one];split <;> omega
  show IsRangeIter _ _ (lo+((0:Nat):Int) * 1) ((((hi-lo).toNat:Nat):Int)-((0:Nat):Int)) 1
  rw [e1,e2]
  exact Heap.get?_push_size _ rfl
 ·have e:b=(s.heap.push { cls:=.type "range",data:=.fields #[.int lo t,.int hi u,.int 1 v] }).objs.size:=by simpa using hb
  subst e
  exact I1.fpOk (Nat.le_refl _) (I1.hok.fresh (Nat.le_refl _))
def iRng1(ta:TA):TI:=fun σ H R=>ta σ H fun vs H1=>∃ j:Int,vs = [.int j]/\-(2 ^ 62)<=j/\j<2 ^ 62/\R (Itr 0 j.toNat) H1
theorem pi_range1{a:Expr}{ta:TA}{p pos:Pos}(hg:Gl X "range")(hm:X.mg "range" = none)(ha:PA X [a] ta)(hs:starEach [a] X.env = [(false,eval a X.env)]:=by rfl):PI X tg (.Call (.Name "range" p) [a] [] pos) (iRng1 ta):=by
 intro pins s σ H R I h
 refine Call_ (ld_blt I hg hm boot_range (PyProof.Rows.callWith_type1 (thn (ha pos pins s σ H _ I h) fun us s1 ⟨vs,H1,I1,r1,q1⟩=>?_) hs rfl))
 obtain⟨j,e,q1,q2,q⟩:=q1
 subst e
 cases r1 with
 | cons r rr =>
  cases rr
  obtain⟨t,rfl⟩:=r
  exact call_range_1 (range_it I1 (by omega) (by omega) q1 q2 (by simpa using q))
def tFor(wi:TI)(g:TG)(tb:TS):TS:=fun D σ H=>wi σ H fun J H1=>∃ W:Nat->Nat->St->Hp->Prop,(∃ m,W 0 m σ H1)/\∀ i m σ H,W i m σ H ->
 (J.stop i H/\D.nx σ H)\/(J.go i H/\∃ N:St->Hp->Prop,(∀ σ' H',N σ' H'->∃ m',m' < m/\W (i+1) m' σ' H')/\∀ x H',J.yld i H x H'->g x σ H' fun σ2 H2=>tb { D with nx:=N,ct:=N,bk:=D.nx } σ2 H2)
def pinsAt(fp:List Addr)(h:Heap):List (Addr×Obj):=fp.filterMap fun b=>(h.get? b).map fun o=>(b,o)
theorem mem_pinsAt{fp:List Addr}{h:Heap}{b:Addr}{o:Obj}(hb:b∈fp)(e:h.get? b=some o):(b,o)∈pinsAt fp h:=List.mem_filterMap.mpr ⟨b,hb,by rw [e];rfl⟩
theorem of_pinsAt{fp:List Addr}{h:Heap}{p:Addr×Obj}(hp:p∈pinsAt fp h):p.1∈fp/\h.get? p.1=some p.2:=by
 obtain⟨b,hb,e⟩:=List.mem_filterMap.mp hp
 cases q:h.get? b with
 | none=>rw [q] at e;cases e
 | some o =>
  rw [q] at e
  have e':(b,o)=p:=Option.some.inj e
  subst e'
  exact⟨hb,q⟩
theorem Inv.pinned{pins:List (Addr×Obj)}{σ:St}{H:Hp}{s:Shared}{fp:List Addr}(I:Inv X pins σ H s)(hf:∀ b∈fp,FpOk X pins H b)(ho:∀ b∈fp,∃ o,s.heap.get? b=some o/\∀ v,o.data ≠ .cell v):Inv X (pins++pinsAt fp s.heap) σ H s :=
 I.pins_of fun p hp=>(List.mem_append.mp hp).elim (fun z=>I.pin p (List.mem_append_right _ z)) fun z=>by
  obtain⟨hb,e⟩:=of_pinsAt z
  obtain⟨f0,f1,f2,_⟩:=hf p.1 hb
  obtain⟨o,e',d⟩:=ho p.1 hb
  rw [e] at e';cases e'
  exact⟨e,f0,f1,f2,d⟩
theorem Inv.unpinned{pins pl:List (Addr×Obj)}{σ:St}{H:Hp}{s:Shared}(I:Inv X (pins++pl) σ H s):Inv X pins σ H s:=I.pins_of fun p hp=>I.pin p (List.mem_append_right _ (List.mem_append_left _ hp))
theorem ps_for{iter:Expr}{body:List Stmt}{wi:TI}{g:TG}{tb:TS}{pos:Pos}(hp:PassesOwn (model X.prog X.w) X.A X.env X.xe)(hc:X.calm=true)(hi:PI X tg iter wi)(hg:PG X tg g)(hb:PSs X body tb)
  (hs:∀ x,foldedSetIterable iter X.env x=pure x:=by intro _;rfl):PS X (.For tg iter body [] pos) (tFor wi g tb):=by
 intro pins s σ H D I h
 refine wpAny_For (thn (hi pins s σ H _ I h) fun v s1 h1=>thn h1 fun itv s2 h2=>?_) hs
 obtain⟨it,fp,tn,J,H2,e,I2,T,st2,f2,W,⟨m0,w0⟩,turn⟩:=h2
 subst e
 -- what stays true of the iterator's objects through the loop
 have stat:∀{H':Hp},(∀ b∈fp,H' b=none)->∀ b∈fp,FpOk X pins H' b:=fun hn b hb=>⟨hn b hb,(f2 b hb).2⟩
 refine codeAny_forLoop_any (fun n s'=>∃ i σ' H',Inv X pins σ' H' s'/\tn i s'.heap/\(∀ b∈fp,H' b=none)/\W i n σ' H') ?_ m0 ⟨0,σ,H2,I2,st2,fun b hb=>(f2 b hb).1,w0⟩
 rintro n s3 ⟨i,σ3,H3,I3,st3,fr3,w3⟩
 rcases turn i n σ3 H3 w3 with⟨stop,qn⟩ | ⟨go,N,hN,step⟩
 ·refine wpAny_passesOwn hp (thn (T.done X rfl rfl rfl hc i pins s3 σ3 H3 X.xe I3 (stat fr3) st3 stop) fun r s4 ⟨hr,I4⟩=>?_)
  subst hr
  exact wpAny_execs_nil ⟨σ3,H3,I4,qn⟩
 ·refine wpAny_passesOwn hp (thn (T.item X rfl rfl rfl hc i pins s3 σ3 H3 X.xe I3 (stat fr3) st3 go) fun r s4 ⟨u,hr,h4⟩=>?_)
  subst hr
  refine wpAny_passesOwn hp (thn h4 fun _ s5 ⟨x,H5,I5,r5,y5,st5,fr5⟩=>?_)
  have I5':=I5.pinned (stat fr5) (T.obj _ _ st5)
  refine wpAny_passesOwn hp (thn (hg _ s5 σ3 H5 x u _ I5' r5 (step x H5 y5)) fun _ s6 ⟨σ6,H6,I6,q6⟩=>?_)
  refine wpAny_passesOwn hp (thn (hb _ s6 σ6 H6 _ I6 q6) fun f s7 q7=>?_)
  have again:∀{σ7:St} {H7:Hp},Inv X (pins++pinsAt fp s5.heap) σ7 H7 s7->N σ7 H7->∃ m,m<n/\∃ i σ' H',Inv X pins σ' H' s7/\tn i s7.heap/\(∀ b∈fp,H' b=none)/\W i m σ' H':=fun{σ7 H7} I7 n7=>by
   obtain⟨m',hm,w7⟩:=hN σ7 H7 n7
   refine⟨m',hm,i+1,σ7,H7,I7.unpinned,T.keep _ _ _ st5 fun b hb o e=>(I7.pin (b,o) (List.mem_append_right _ (List.mem_append_right _ (mem_pinsAt hb e)))).1,fun b hb=>?_,w7⟩
   obtain⟨o,e,d⟩:=T.obj _ _ st5 b hb
   exact(I7.pin (b,o) (List.mem_append_right _ (List.mem_append_right _ (mem_pinsAt hb e)))).2.1
  cases f with
  | next=>obtain⟨σ7,H7,I7,n7⟩:=q7;exact again I7 n7
  | cont=>obtain⟨σ7,H7,I7,n7⟩:=q7;exact again I7 n7
  | brk=>obtain⟨σ7,H7,I7,q7⟩:=q7;exact⟨σ7,H7,I7.unpinned,q7⟩
  | ret v=>obtain⟨x7,σ7,H7,I7,r7,q7⟩:=q7;exact⟨x7,σ7,H7,I7.unpinned,r7,q7⟩
end
abbrev R2:=V->V->Hp->VK->Prop
def OpR(X:Cx)(f:Value->Value->Sem Value)(r:R2):Prop :=
 ∀(pins:List (Addr×Obj)) (s:Shared) (σ:St) (H:Hp) (x y:V) (v u:Value) (Q:VK),Inv X pins σ H s->RelV x v->RelV y u->r x y H Q ->
  wpAny (model X.prog X.w) X.A (f v u) (EP X pins σ Q) X.xe s
def UnR(X:Cx)(f:Value->Sem Value)(r:V->Hp->VK->Prop):Prop :=
 ∀(pins:List (Addr×Obj)) (s:Shared) (σ:St) (H:Hp) (x:V) (v:Value) (Q:VK),Inv X pins σ H s->RelV x v->r x H Q ->
  wpAny (model X.prog X.w) X.A (f v) (EP X pins σ Q) X.xe s
def CallR(X:Cx)(f:Value)(r:List V->Hp->VK->Prop):Prop :=
 ∀(pins:List (Addr×Obj)) (s:Shared) (σ:St) (H:Hp) (xs:List V) (us:List Value) (Q:VK),Inv X pins σ H s->Vals xs us->r xs H Q ->
  wpAny (model X.prog X.w) X.A (call f us) (EP X pins σ Q) X.xe s
def TruR(X:Cx)(r:V->Hp->(Bool->Hp->Prop)->Prop):Prop :=
 ∀(pins:List (Addr×Obj)) (s:Shared) (σ:St) (H:Hp) (x:V) (v:Value) (Q:Bool->Hp->Prop),Inv X pins σ H s->RelV x v->r x H Q ->
  wpAny (model X.prog X.w) X.A (truthy v) (TP X pins σ Q) X.xe s
def tOp(r:R2)(ta tb:TE):TE:=fun σ H Q=>ta σ H fun x H1=>tb σ H1 fun y H2=>r x y H2 Q
def tUn(r:V->Hp->VK->Prop)(ta:TE):TE:=fun σ H Q=>ta σ H fun x H1=>r x H1 Q
def rI(C:Int->Int->Prop)(g:Int->Int->V):R2:=fun x y H Q=>∃ i j,x=.int i/\y=.int j/\C i j/\Q (g i j) H
def rI0(g:Int->Int->V):R2:=fun x y H Q=>∃ i j,x=.int i/\y=.int j/\Q (g i j) H
def rU(g:Int->V):V->Hp->VK->Prop:=fun x H Q=>∃ i,x=.int i/\Q (g i) H
section
variable {X:Cx}{a b c:Expr}{ta tb tc:TE}{pos:Pos}
theorem binT(ha:PE X a ta)(hb:PE X b tb){pins:List (Addr×Obj)}{s:Shared}{σ:St}{H:Hp}{R:V->V->Hp->Prop}(I:Inv X pins σ H s)
  (h:ta σ H fun x H1=>tb σ H1 fun y H2=>R x y H2) {Q:Value->Shared->Prop} {f:Value->Value->Sem Value}
  (hf:∀ v u s2 x y H2,Inv X pins σ H2 s2->RelV x v->RelV y u->R x y H2->wpAny (model X.prog X.w) X.A (f v u) Q X.xe s2) :
  wpAny (model X.prog X.w) X.A (eval a X.env) (fun v s₁=>wpAny (model X.prog X.w) X.A (eval b X.env) (fun u s₂=>wpAny (model X.prog X.w) X.A (f v u) Q X.xe s₂) X.xe s₁) X.xe s:=by
 refine thn (ha pins s σ H _ I h) fun v s1 ⟨x,H1,I1,r1,q1⟩=>?_
 refine thn (hb pins s1 σ H1 _ I1 q1) fun u s2 ⟨y,H2,I2,r2,q2⟩=>?_
 exact hf v u s2 x y H2 I2 r1 r2 q2
theorem pe_op{op:Operator}{r:R2}(ho:OpR X (binaryOp op) r)(ha:PE X a ta)(hb:PE X b tb):PE X (.BinOp a op b pos) (tOp r ta tb):=by
 intro pins s σ H Q I h
 exact wpAny_BinOp (binT ha hb I h fun v u s2 x y H2 I2 rx ry q=>ho pins s2 σ H2 x y v u Q I2 rx ry q)
theorem pe_un{op:UnaryOp}{r:V->Hp->VK->Prop}(ho:UnR X (unaryOp op) r)(ha:PE X a ta):PE X (.UnaryOp op a pos) (tUn r ta):=by
 intro pins s σ H Q I h
 exact UnaryOp_ (thn (ha pins s σ H _ I h) fun v s1 ⟨x,H1,I1,r1,q1⟩=>ho pins s1 σ H1 x v Q I1 r1 q1)
theorem opI{f:Value->Value->Sem Value}{C:Int->Int->Prop}{g:Int->Int->Int}
  (rule:∀(i j:Int) (t u:Tok) (s:Shared) (Q:Value->Shared->Prop) (E:Value->Shared->Prop),C i j->Q (.int (g i j) s.toks) { s with toks:=s.toks+1 }->wpAny (model X.prog X.w) X.A (f (.int i t) (.int j u)) Q E s) :
  OpR X f (rI C fun i j=>.int (g i j)):=by
 intro pins s σ H x y v u Q I rx ry h
 obtain⟨i,j,rfl,rfl,hc,q⟩:=h
 obtain⟨t,rfl⟩:=rx
 obtain⟨t',rfl⟩:=ry
 exact rule i j t t' s _ _ hc ⟨.int (g i j),H,I.tok _,⟨_,rfl⟩,q⟩
theorem opI0{f:Value->Value->Sem Value}{g:Int->Int->Int}
  (rule:∀(i j:Int) (t u:Tok) (s:Shared) (Q:Value->Shared->Prop) (E:Value->Shared->Prop),Q (.int (g i j) s.toks) { s with toks:=s.toks+1 }->wpAny (model X.prog X.w) X.A (f (.int i t) (.int j u)) Q E s) :
  OpR X f (rI0 fun i j=>.int (g i j)):=by
 intro pins s σ H x y v u Q I rx ry h
 obtain⟨i,j,rfl,rfl,q⟩:=h
 obtain⟨t,rfl⟩:=rx
 obtain⟨t',rfl⟩:=ry
 exact rule i j t t' s _ _ ⟨.int (g i j),H,I.tok _,⟨_,rfl⟩,q⟩
theorem opB0{f:Value->Value->Sem Value}{g:Int->Int->Bool}
  (rule:∀(i j:Int) (t u:Tok) (s:Shared) (Q:Value->Shared->Prop) (E:Value->Shared->Prop),Q (.bool (g i j)) s->wpAny (model X.prog X.w) X.A (f (.int i t) (.int j u)) Q E s) :
  OpR X f (rI0 fun i j=>.bl (g i j)):=by
 intro pins s σ H x y v u Q I rx ry h
 obtain⟨i,j,rfl,rfl,q⟩:=h
 obtain⟨t,rfl⟩:=rx
 obtain⟨t',rfl⟩:=ry
 exact rule i j t t' s _ _ ⟨.bl (g i j),H,I,rfl,q⟩
def CPow(i j:Int):Prop:=0<=j/\j<=1000000/\i.natAbs<2 ^ 64
def CMul(i j:Int):Prop:=(-(2 ^ 64)<i/\i<2 ^ 64)\/(-(2 ^ 64)<j/\j<2 ^ 64)
theorem CMul.ok{i j:Int}(h:CMul i j):IntMulOk i j:=by
 rcases h with⟨h1,h2⟩ | ⟨h1,h2⟩
 ·exact .of_left (intBits_le_64 h1 h2)
 ·exact .of_right (intBits_le_64 h1 h2)
theorem op_add:OpR X (binaryOp .Add) (rI0 fun i j=>.int (i+j)):=opI0 fun _ _ _ _ _ _ _ q=>add_int q
theorem op_sub:OpR X (binaryOp .Sub) (rI0 fun i j=>.int (i-j)):=opI0 fun _ _ _ _ _ _ _ q=>sub_int q
theorem op_mul:OpR X (binaryOp .Mult) (rI CMul fun i j=>.int (i * j)):=opI fun _ _ _ _ _ _ _ hc q=>mul_int q hc.ok
theorem op_mod:OpR X (binaryOp .Mod) (rI (fun _ j=>0<j) fun i j=>.int (i % j)):=opI fun i j _ _ _ _ _ hc q=>by
 have h1:(0:Int)<j:=hc
 exact mod_int' (by omega) (by rw [Int.fmod_eq_emod_of_nonneg i (by omega)];exact q)
theorem op_pow:OpR X (binaryOp .Pow) (rI CPow fun i j=>.int (i ^ j.toNat)):=opI fun _ _ _ _ _ _ _ hc q=>pow_int_small hc.1 hc.2.1 hc.2.2 q
theorem unI{f:Value->Sem Value}{g:Int->Int}
  (rule:∀(i:Int) (t:Tok) (s:Shared) (Q:Value->Shared->Prop) (E:Value->Shared->Prop),Q (.int (g i) s.toks) { s with toks:=s.toks+1 }->wpAny (model X.prog X.w) X.A (f (.int i t)) Q E s) :
  UnR X f (rU fun i=>.int (g i)):=by
 intro pins s σ H x v Q I rx h
 obtain⟨i,rfl,q⟩:=h
 obtain⟨t,rfl⟩:=rx
 exact rule i t s _ _ ⟨.int (g i),H,I.tok _,⟨_,rfl⟩,q⟩
theorem un_neg:UnR X (unaryOp .USub) (rU fun i=>.int (-i)):=unI fun _ _ _ _ _ q=>neg_int q
end
def scal:V->V->Bool
 | .non,.non=>true | .non,.int _=>true | .int _,.non=>true | .non,.bl _=>true | .bl _,.non=>true | .non,.str _=>true | .str _,.non=>true
 | .int _,.int _=>true | .bl _,.bl _=>true | .str _,.str _=>true | .byt _,.byt _=>true
 | .int _,.str _=>true | .str _,.int _=>true | .bl _,.str _=>true | .str _,.bl _=>true
 | _,_=>false
def rEq:R2:=fun x y H Q=>scal x y=true/\Q (.bl (decide (x=y))) H
def rNe:R2:=fun x y H Q=>scal x y=true/\Q (.bl (!decide (x=y))) H
theorem dec_int{i j:Int}:decide (V.int i=V.int j)=(i == j):=by
 rw [Bool.eq_iff_iff]
 simp
theorem dec_bl{i j:Bool}:decide (V.bl i=V.bl j)=(i == j):=by
 rw [Bool.eq_iff_iff]
 simp
theorem dec_str{i j:Str}:decide (V.str i=V.str j)=(i == j):=by
 rw [Bool.eq_iff_iff]
 simp
theorem dec_byt{i j:Array UInt8}:decide (V.byt i=V.byt j)=(i.toList == j.toList):=by
 rw [Bool.eq_iff_iff]
 cases i
 cases j
 simp
section
variable {X:Cx}{a b c:Expr}{ta tb tc:TE}{pos:Pos}
theorem fin_bl{pins:List (Addr×Obj)}{σ:St}{H:Hp}{s:Shared}{Q:VK}{k k':Bool}(I:Inv X pins σ H s)(q:Q (.bl k) H)(e:k=k'):EP X pins σ Q (.bool k') s:=by
 subst e
 exact⟨.bl k,H,I,rfl,q⟩
theorem op_eq:OpR X (compareOp .Eq) rEq:=by
 intro pins s σ H x y v u Q I rx ry h
 obtain⟨hs,q⟩:=h
 cases x with
 | non =>
  cases rx
  cases y with
  | non=>cases ry;exact PySem.EqNone.eq_none_none (fin_bl I q (by simp))
  | bl j=>cases ry;exact PySem.EqNone.eq_none_bool (fin_bl I q (by simp))
  | int j=>obtain⟨t',rfl⟩:=ry;exact PySem.EqNone.eq_none_int (fin_bl I q (by simp))
  | str j=>obtain⟨t',rfl⟩:=ry;exact PySem.EqNone.eq_none_str (fin_bl I q (by simp))
  | _=>exact absurd (show false=true from hs) Bool.false_ne_true
 | bl i =>
  cases rx
  cases y with
  | non=>cases ry;exact PySem.EqNone.eq_bool_none (fin_bl I q (by simp))
  | bl j=>cases ry;exact eq_bool (fin_bl I q dec_bl)
  | str j=>obtain⟨t',rfl⟩:=ry;exact PySem.EqMixed.eq_bool_str (fin_bl I q (by simp))
  | _=>exact absurd (show false=true from hs) Bool.false_ne_true
 | int i =>
  obtain⟨t,rfl⟩:=rx
  cases y with
  | non=>cases ry;exact PySem.EqNone.eq_int_none (fin_bl I q (by simp))
  | int j=>obtain⟨t',rfl⟩:=ry;exact eq_int (fin_bl I q dec_int)
  | str j=>obtain⟨t',rfl⟩:=ry;exact PySem.EqMixed.eq_int_str (fin_bl I q (by simp))
  | _=>exact absurd (show false=true from hs) Bool.false_ne_true
 | str i =>
  obtain⟨t,rfl⟩:=rx
  cases y with
  | non=>cases ry;exact PySem.EqNone.eq_str_none (fin_bl I q (by simp))
  | bl j=>cases ry;exact PySem.EqMixed.eq_str_bool (fin_bl I q (by simp))
  | int j=>obtain⟨t',rfl⟩:=ry;exact PySem.EqMixed.eq_str_int (fin_bl I q (by simp))
  | str j=>obtain⟨t',rfl⟩:=ry;exact eq_str (fin_bl I q dec_str)
  | _=>exact absurd (show false=true from hs) Bool.false_ne_true
 | byt i =>
  obtain⟨t,rfl⟩:=rx
  cases y with
  | byt j=>obtain⟨t',rfl⟩:=ry;exact PySem.W.eq_bytes (fin_bl I q dec_byt)
  | _=>exact absurd (show false=true from hs) Bool.false_ne_true
 | _=>cases y <;> exact absurd (show false=true from hs) Bool.false_ne_true
theorem op_ne:OpR X (compareOp .NotEq) rNe:=by
 intro pins s σ H x y v u Q I rx ry h
 obtain⟨hs,q⟩:=h
 cases x with
 | non =>
  cases rx
  cases y with
  | non=>cases ry;exact PySem.EqNone.ne_none_none (fin_bl I q (by simp))
  | bl j=>cases ry;exact PySem.EqNone.ne_none_bool (fin_bl I q (by simp))
  | int j=>obtain⟨t',rfl⟩:=ry;exact PySem.EqNone.ne_none_int (fin_bl I q (by simp))
  | str j=>obtain⟨t',rfl⟩:=ry;exact PySem.EqNone.ne_none_str (fin_bl I q (by simp))
  | _=>exact absurd (show false=true from hs) Bool.false_ne_true
 | bl i =>
  cases rx
  cases y with
  | non=>cases ry;exact PySem.EqNone.ne_bool_none (fin_bl I q (by simp))
  | bl j=>cases ry;exact ne_bool (fin_bl I q (congrArg not dec_bl))
  | str j=>obtain⟨t',rfl⟩:=ry;exact PySem.EqMixed.ne_bool_str (fin_bl I q (by simp))
  | _=>exact absurd (show false=true from hs) Bool.false_ne_true
 | int i =>
  obtain⟨t,rfl⟩:=rx
  cases y with
  | non=>cases ry;exact PySem.EqNone.ne_int_none (fin_bl I q (by simp))
  | int j=>obtain⟨t',rfl⟩:=ry;exact ne_int (fin_bl I q (congrArg not dec_int))
  | str j=>obtain⟨t',rfl⟩:=ry;exact PySem.EqMixed.ne_int_str (fin_bl I q (by simp))
  | _=>exact absurd (show false=true from hs) Bool.false_ne_true
 | str i =>
  obtain⟨t,rfl⟩:=rx
  cases y with
  | non=>cases ry;exact PySem.EqNone.ne_str_none (fin_bl I q (by simp))
  | bl j=>cases ry;exact PySem.EqMixed.ne_str_bool (fin_bl I q (by simp))
  | int j=>obtain⟨t',rfl⟩:=ry;exact PySem.EqMixed.ne_str_int (fin_bl I q (by simp))
  | str j=>obtain⟨t',rfl⟩:=ry;exact ne_str (fin_bl I q (congrArg not dec_str))
  | _=>exact absurd (show false=true from hs) Bool.false_ne_true
 | byt i =>
  obtain⟨t,rfl⟩:=rx
  cases y with
  | byt j=>obtain⟨t',rfl⟩:=ry;exact PySem.W.ne_bytes (fin_bl I q (congrArg not dec_byt))
  | _=>exact absurd (show false=true from hs) Bool.false_ne_true
 | _=>cases y <;> exact absurd (show false=true from hs) Bool.false_ne_true
theorem op_lt:OpR X (compareOp .Lt) (rI0 fun i j=>.bl (decide (i<j))):=opB0 fun _ _ _ _ _ _ _ q=>lt_int q
theorem op_le:OpR X (compareOp .LtE) (rI0 fun i j=>.bl (decide (i<=j))):=opB0 fun _ _ _ _ _ _ _ q=>le_int q
theorem op_gt:OpR X (compareOp .Gt) (rI0 fun i j=>.bl (decide (j<i))):=opB0 fun _ _ _ _ _ _ _ q=>gt_int q
theorem op_ge:OpR X (compareOp .GtE) (rI0 fun i j=>.bl (decide (j<=i))):=opB0 fun _ _ _ _ _ _ _ q=>ge_int q
theorem op_isN:OpR X (compareOp .Is) (fun x y H Q=>y=.non/\Q (.bl (decide (x=.non))) H):=by
 intro pins s σ H x y v u Q I rx ry h
 obtain⟨rfl,q⟩:=h
 cases ry
 refine is_none_gen (fin_bl I q ?_)
 cases x <;> first
  | (cases rx;rfl)
  | (obtain⟨t,rfl⟩:=rx;rfl)
theorem nomark(b:Expr){op:CmpOp}(h:op ≠ .In:=by decide)(h2:op ≠ .NotIn:=by decide):behindInMarks op b=false:=by
 have e1:(op == CmpOp.In)=false:=by cases op <;> first | rfl | exact absurd rfl h
 have e2:(op == CmpOp.NotIn)=false:=by cases op <;> first | rfl | exact absurd rfl h2
 cases b <;> simp [behindInMarks,e1,e2]
def tTest(t:TE):TT:=fun σ H Q=>t σ H fun x H'=>∃ k,x=.bl k/\Q k H'
theorem pt_cmpR{op:CmpOp}{r:R2}(ho:OpR X (compareOp op) r)(ha:PE X a ta)(hb:PE X b tb)(hm:behindInMarks op b=false):PT X (.Compare a [op] [b] pos) (tTest (tOp r ta tb)):=by
 intro pins s σ H Q I h
 refine wpAny_isTrue_Compare1 (thn (ha pins s σ H _ I h) fun v s1 ⟨x,H1,I1,r1,q1⟩=>thn (hb pins s1 σ H1 _ I1 q1) fun u s2 ⟨y,H2,I2,r2,q2⟩ =>
  thn (ho pins s2 σ H2 x y v u _ I2 r1 r2 q2) fun c s3 ⟨z,H3,I3,r3,k,e,q3⟩=>?_) hm
 subst e
 cases r3
 exact wpAny_truthy_bool ⟨H3,I3,q3⟩
def TruV(K:PySem.W.Frag)(x:V)(H:Hp)(k:Bool):Prop :=
 match x with
 | .non=>k=false
 | .bl b=>k=b
 | .int i=>k=(i != 0)
 | .str y=>y.length<=sizeLine/\k=((y.length:Int) != 0)
 | .byt y=>y.size<=sizeLine/\k=((y.size:Int) != 0)
 | .ref p=>(∃ xs,SqL K H p xs/\k = !xs.isEmpty)\/(∃ xs,SqT K H p xs/\k = !xs.isEmpty)\/∃ kvs,H p=some (.dK kvs)/\k = !kvs.isEmpty
 | _=>False
theorem isEmpty_kv{κ:Type}{kvs:List (κ×V)}{vs:List (κ×Value)}(r:KV kvs vs):(!vs.isEmpty) = !kvs.isEmpty:=by
 cases r <;> rfl
theorem isEmpty_of{xs:List V}{its:List Value}(r:Vals xs its):(!its.toArray.isEmpty) = !xs.isEmpty:=by
 cases r <;> simp
theorem line63:(sizeLine:Nat)<2 ^ 63:=by rw [sizeLine_eq];decide
theorem tru_ok:TruR X (fun x H Q=>∃ k,TruV X.K x H k/\Q k H):=by
 intro pins s σ H x v Q I rx h
 obtain⟨k,e,q⟩:=h
 have hl:=line63
 have hs:sizeLine=16777216:=sizeLine_eq
 cases x with
 | non =>
  cases rx
  have e':k=false:=e
  subst e'
  exact truthy_none ⟨H,I,q⟩
 | bl b =>
  cases rx
  have e':k=b:=e
  subst e'
  exact wpAny_truthy_bool ⟨H,I,q⟩
 | int i =>
  obtain⟨t,rfl⟩:=rx
  have e':k=(i != 0):=e
  subst e'
  exact PySem.P.truthy_int ⟨H,I,q⟩
 | str y =>
  obtain⟨t,rfl⟩:=rx
  obtain⟨hy,e'⟩:y.length<=sizeLine/\k=((y.length:Int) != 0):=e
  subst e'
  exact PySem.P.truthy_str (by omega) ⟨H,I.tok _,q⟩
 | byt y =>
  obtain⟨t,rfl⟩:=rx
  obtain⟨hy,e'⟩:y.size<=sizeLine/\k=((y.size:Int) != 0):=e
  subst e'
  exact PySem.W.truthy_bytes (by omega) ⟨H,I.tok _,q⟩
 | ref p =>
  cases rx
  have e':(∃ xs,SqL X.K H p xs/\k = !xs.isEmpty)\/(∃ xs,SqT X.K H p xs/\k = !xs.isEmpty)\/∃ kvs,H p=some (.dK kvs)/\k = !kvs.isEmpty:=e
  rcases e' with⟨xs,hx,e'⟩ | ⟨xs,hx,e'⟩ | ⟨kvs,hx,e'⟩
  ·subst e'
   obtain⟨its,r,pl,hz⟩:=I.list hx
   have hlen:=r.length
   exact wpAny_truthy_list pl.isList (by simp only [List.size_toArray];omega) ⟨H,I.tok _,by rw [isEmpty_of r];exact q⟩
  ·subst e'
   obtain⟨its,r,pl,hz⟩:=I.tuple hx
   have hlen:=r.length
   exact truthy_tuple pl (by simp only [List.size_toArray];omega) ⟨H,I.tok _,by rw [isEmpty_of r];exact q⟩
  ·subst e'
   obtain⟨hz,hS,vs,r,m⟩:kvs.length<=sizeLine/\(p == sysModules)=false/\∃ vs,KV kvs vs/\s.heap.DictOf (mixKind X.prog X.w) p vs:=I.hok p _ hx
   have hlen:kvs.length=vs.length:=Paired.length r
   exact wpAny_truthy_dict hS m (by omega) ⟨H,I.tok _,by rw [isEmpty_kv r];exact q⟩
 | _=>exact(show False from e).elim
theorem pt_truth(ha:PE X a ta)(he:∀ whole,isTrue a X.env whole=(do let v <-whole;standAt a.pos;holding [v] (truthy v))):
  PT X a (fun σ H Q=>ta σ H fun x H'=>∃ k,TruV X.K x H' k/\Q k H'):=by
 intro pins s σ H Q I h
 exact isTrue_plain (thn (ha pins s σ H _ I h) fun v s1 ⟨x,H1,I1,r1,q1⟩=>tru_ok pins s1 σ H1 x v Q I1 r1 q1) (he _)
theorem op_add_str:OpR X (binaryOp .Add) (fun x y H Q=>∃ i j,x=.str i/\y=.str j/\i.length+j.length<=sizeLine/\Q (.str (i++j)) H):=by
 intro pins s σ H x y v u Q I rx ry h
 obtain⟨i,j,rfl,rfl,hz,q⟩:=h
 obtain⟨t,rfl⟩:=rx
 obtain⟨t',rfl⟩:=ry
 exact add_str (fun t' tk=>⟨.str (i++j),H,I.tok _,⟨_,rfl⟩,q⟩) hz
theorem vals1{x:V}{us:List Value}(r:Vals [x] us):∃ u,us = [u]/\RelV x u:=by
 cases r with
 | cons r1 r2=>cases r2;exact⟨_,rfl,r1⟩
theorem vals2{x y:V}{us:List Value}(r:Vals [x,y] us):∃ u w',us = [u,w']/\RelV x u/\RelV y w':=by
 cases r with
 | cons r1 r2 =>
  cases r2 with
  | cons r3 r4=>cases r4;exact⟨_,_,rfl,r1,r3⟩
theorem call_max2(hc:X.calm=true):CallR X (.builtin "max") (fun xs H Q=>∃ i j,xs = [.int i,.int j]/\Q (.int (if j > i then j else i)) H):=by
 intro pins s σ H xs us Q I r h
 obtain⟨i,j,rfl,q⟩:=h
 obtain⟨u,w',rfl,⟨t,rfl⟩,⟨t',rfl⟩⟩:=vals2 r
 refine max_two_ints (I.ok.hd hc) fun h' tk k=>⟨_,H,I.kept k,?_,q⟩
 by_cases hj:j > i
 ·rw [if_pos hj,if_pos hj];exact⟨_,rfl⟩
 ·rw [if_neg hj,if_neg hj];exact⟨_,rfl⟩
theorem call_int1:CallR X (.type "int") (fun xs H Q=>(∃ i,xs = [.int i]/\Q (.int i) H)\/∃ k,xs = [.bl k]/\Q (.int (if k then 1 else 0)) H):=by
 intro pins s σ H xs us Q I r h
 rcases h with⟨i,rfl,q⟩ | ⟨k,rfl,q⟩
 ·obtain⟨u,rfl,t,rfl⟩:=vals1 r
  exact call_int_int ⟨.int i,H,I,⟨_,rfl⟩,q⟩
 ·obtain⟨u,rfl,r1⟩:=vals1 r
  cases r1
  exact call_int_bool ⟨.int (if k then 1 else 0),H,I.tok _,⟨_,rfl⟩,q⟩
def LenV(K:PySem.W.Frag)(x:V)(H:Hp)(n:Nat):Prop :=
 match x with
 | .str y=>y.length<=sizeLine/\n=y.length
 | .byt y=>y.size<=sizeLine/\n=y.size
 | .ref p=>(∃ xs,SqL K H p xs/\n=xs.length)\/∃ xs,SqT K H p xs/\n=xs.length
 | _=>False
theorem call_len:CallR X (.builtin "len") (fun xs H Q=>∃ x n,xs = [x]/\LenV X.K x H n/\Q (.int n) H):=by
 intro pins s σ H xs us Q I r h
 obtain⟨x,n,rfl,e,q⟩:=h
 obtain⟨u,rfl,rx⟩:=vals1 r
 have hl:=line63
 have hs:sizeLine=16777216:=sizeLine_eq
 cases x with
 | str y =>
  obtain⟨t,rfl⟩:=rx
  obtain⟨hy,e'⟩:y.length<=sizeLine/\n=y.length:=e
  subst e'
  exact len_str (by omega) ⟨.int _,H,I.tok _,⟨_,rfl⟩,q⟩
 | byt y =>
  obtain⟨t,rfl⟩:=rx
  obtain⟨hy,e'⟩:y.size<=sizeLine/\n=y.size:=e
  subst e'
  exact PySem.W.len_bytes (by omega) ⟨.int _,H,I.tok _,⟨_,rfl⟩,q⟩
 | ref p =>
  cases rx
  have e':(∃ xs,SqL X.K H p xs/\n=xs.length)\/∃ xs,SqT X.K H p xs/\n=xs.length:=e
  rcases e' with⟨xs,hx,e'⟩ | ⟨xs,hx,e'⟩
  ·subst e'
   obtain⟨its,r',pl,hz⟩:=I.list hx
   have hlen:=r'.length
   exact Calls.call_len_list pl.isList (by simp only [List.size_toArray];omega) ⟨.int xs.length,H,I.tok _,⟨_,by simp only [List.size_toArray];rw [hlen]⟩,q⟩
  ·subst e'
   obtain⟨its,r',pl,hz⟩:=I.tuple hx
   have hlen:=r'.length
   exact len_tuple pl (by simp only [List.size_toArray];omega) ⟨.int xs.length,H,I.tok _,⟨_,by simp only [List.size_toArray];rw [hlen]⟩,q⟩
 | _=>exact(show False from e).elim
end
structure ObjM(h:Heap)(x dx C:Addr)(mA:Str->Option Value):Prop where
 obj:h.get? x=some (PySem.W.instObj C dx)
 ns:h.Ns1 dx mA
 ne:dx≠x
section
variable {prog:Program}{w:World}{A:Around}{E:Value->Shared->Prop}{s:Shared}{K:PySem.W.Frag}{x dx C f:Addr}{mA:Str->Option Value}{name:Str}{v:Value}
end
theorem RelO.some_of{v:V}{o:Option Value}(r:RelO (some v) o):∃ u,o=some u/\RelV v u:=by
 cases o with
 | none=>exact(show False from r).elim
 | some u=>exact⟨u,rfl,r⟩
section
variable {P:Program}{w:World}{H H':Hp}{h h':Heap}{a C dx:Addr}{fs fs':List (Str×V)}
end
structure Cls(K:PySem.W.Frag)(C:Addr):Prop where
 pg:PySem.W.plainGet K C Str.empty=true
 hd:PySem.W.hasDictIn K C=true
 po:PySem.W.plainOver K C=true
 sa:PySem.W.findIn K (.ref C) "__setattr__" = some (some (.builtin "object.__setattr__"))
def NoAttr(K:PySem.W.Frag)(C:Addr)(f:Str):Prop:=PySem.W.findIn K (.ref C) f=some none
structure Con(K:PySem.W.Frag)(C:Addr)(f:Str)(v:V)(u:Value):Prop where
 at_:PySem.W.findIn K (.ref C) f=some (some u)
 rel:RelV v u
 get:PySem.W.specialIn K u "__get__" = some none
 cp:PySem.W.copiedNames.contains f=false
structure Meth(K:PySem.W.Frag)(C:Addr)(m:Str)(f:Addr):Prop where
 at_:PySem.W.findIn K (.ref C) m=some (some (.ref f))
 fn:PySem.W.isFn K (.ref f)=true
 kp:PySem.W.keepIn K (.ref f)=true
section
variable {X:Cx}{pins:List (Addr×Obj)}{σ:St}{H:Hp}{s:Shared}{a C dx:Addr}{fs:List (Str×V)}{f:Str}{v:V}{A:Around}{E:Value->Shared->Prop}
end
section
variable {X:Cx}{o e value:Expr}{f:Str}{pos pos' tpos:Pos}{ta tv:TE}
end
section
variable {X:Cx}{pins:List (Addr×Obj)}{σ:St}{H:Hp}{s:Shared}{A:Around}{E:Value->Shared->Prop}{Q:Value->Shared->Prop}{c:Value}{b:Bool}
inductive TyOf(K:PySem.W.Frag)(H:Hp):V->Value->Prop where
 | non:TyOf K H .non (.type "NoneType")
 | bl (x:Bool):TyOf K H (.bl x) (.type "bool")
 | int (i:Int):TyOf K H (.int i) (.type "int")
 | str (x:Str):TyOf K H (.str x) (.type "str")
 | flt (x:UInt64):TyOf K H (.flt x) (.type "float")
 | lst {a:Addr} {xs:List V} (e:H a=some (.lst xs)):TyOf K H (.ref a) (.type "list")
 | frz {a:Addr} {o:Obj} {xs:List V} (e:H a=some (.frz o (.lst xs))):TyOf K H (.ref a) (.type "list")
 | tup {a:Addr} {xs:List V} (e:H a=some (.tup xs)):TyOf K H (.ref a) (.type "tuple")
 | dK {a:Addr} {kvs:List (Key×V)} (e:H a=some (.dK kvs)):TyOf K H (.ref a) (.type "dict")
 | dT {a:Addr} {kvs:List (List Key×V)} (e:H a=some (.dT kvs)):TyOf K H (.ref a) (.type "dict")
 | ins {a C dx:Addr} {fs:List (Str×V)} (e:H a=some (.ins C dx fs)) (cl:Cls K C) (ha:PySem.W.findIn K (.ref C) "__class__" = some (some (.builtin "object.__class__")))
   (hn:PySem.W.specialIn K (.builtin "object.__class__") "__get__" = some (some (.builtin "getset_descriptor.__get__"))) (htk:PySem.W.takesIn K (.builtin "object.__class__")=some true)
   (hm:PySem.W.mroIn K C (.type "object")=some true):TyOf K H (.ref a) (.ref C)
end
structure Room(k:Nat)(A:Around):Prop where
 hd:A.handled=none
 dp:A.depth+3 * k+5<recursionLimit
 un:A.units+16 * k+200<cLine
 gd:A.guards=some []
theorem Room.mono{j k:Nat}{A:Around}(r:Room k A)(h:j<=k):Room j A:=⟨r.hd,by have:=r.dp;omega,by have:=r.un;omega,r.gd⟩
theorem Room.deeper{k:Nat}{A:Around}(r:Room (k+1) A)(env:Env):Room k (A.deeper env) :=
 ⟨r.hd,by have:=r.dp;show A.depth+1+3 * k+5<_;omega,by have:=r.un;show A.units+3+16 * k+200<_;omega,r.gd⟩
theorem Room.depth{k:Nat}{A:Around}(r:Room k A):A.depth<recursionLimit:=by have:=r.dp;omega
theorem Room.units{k:Nat}{A:Around}(r:Room k A):A.units+64<cLine:=by have:=r.un;omega
def tNil:TA:=fun _ H Q=>Q [] H
def tCons(ta:TE)(tr:TA):TA:=fun σ H Q=>ta σ H fun x H1=>tr σ H1 fun xs H2=>Q (x::xs) H2
section
variable {X:Cx}{e:Expr}{es:List Expr}{te:TE}{t:TA}{pos:Pos}
theorem pa_nil:PA X [] tNil:=fun _ _ _ _ H Q I h=>Calls.spliced_nil ⟨[],H,I,.nil,h⟩
theorem pa_cons(ha:PE X e te)(hr:PA X es t)(hs:starEach (e::es) X.env=(false,eval e X.env)::starEach es X.env:=by rfl):PA X (e::es) (tCons te t):=by
 intro pos pins s σ H Q I h
 rw [hs]
 show wpAny _ _ (spliced ((false,eval e X.env)::backTo pos (starEach es X.env))) _ _ s
 refine Calls.spliced_cons (thn (ha pins s σ H _ I h) fun u s1 ⟨x,H1,I1,r1,q1⟩=>?_)
 exact thn (hr pos pins s1 σ H1 _ I1 q1) fun us s2 ⟨xs,H2,I2,r2,q2⟩=>⟨x::xs,H2,I2,.cons r1 r2,q2⟩
def tTup(t:TA):TE:=fun σ H Q=>t σ H fun xs H1=>xs.length<=sizeLine/\∀ p,H1 p=none->Q (.ref p) (upd H1 p (.tup xs))
def tLst(t:TA):TE:=fun σ H Q=>t σ H fun xs H1=>xs.length<=sizeLine/\∀ p,H1 p=none->Q (.ref p) (upd H1 p (.lst xs))
theorem pe_tup{x1}(h:PA X es t):PE X (.Tuple es x1 pos) (tTup t):=by
 intro pins s σ H Q I hq
 refine wpAny_Tuple_spliced (thn (h pos pins s σ H _ I hq) fun us s1 ⟨xs,H1,I1,r,z,q⟩=>⟨by rw [<-r.length];exact z,?_⟩)
 have hf:H1 s1.heap.objs.size=none:=I1.hok.fresh (Nat.le_refl _)
 refine⟨.ref s1.heap.objs.size,upd H1 s1.heap.objs.size (.tup xs),I1.laid (t':=s1.toks) (fun b u e=>Heap.get?_push_of_some _ e) (Nat.le_refl _) ?_,rfl,q _ hf⟩
 exact⟨z,us,r,⟨_,Heap.get?_push_size _ rfl,rfl,⟨_,rfl⟩,rfl⟩⟩
theorem pe_lst(h:PA X es t):PE X (.List es pos) (tLst t):=by
 intro pins s σ H Q I hq
 refine wpAny_List_spliced (thn (h pos pins s σ H _ I hq) fun us s1 ⟨xs,H1,I1,r,z,q⟩=>⟨by rw [<-r.length];exact z,?_⟩)
 have hf:H1 s1.heap.objs.size=none:=I1.hok.fresh (Nat.le_refl _)
 refine⟨.ref s1.heap.objs.size,upd H1 s1.heap.objs.size (.lst xs),I1.laid (t':=s1.toks) (fun b u e=>Heap.get?_push_of_some _ e) (Nat.le_refl _) ?_,rfl,q _ hf⟩
 exact⟨z,us,0,r,Heap.get?_push_size _ rfl⟩
end
abbrev Sp:=List V->Hp->VK->XK->Prop
abbrev CXT:=List Env->Hp->Shared->XK->Value->Shared->Prop
structure Env0(P:Program)(w:World)(K:PySem.W.Frag)(mg:Str->Option Value)(base:Heap)(A:Around)(outer:List Env)(s:Shared)(H:Hp):Prop where
 frames:A.frames=some outer
 mod:Mod K mg base
 bs:∀ b o,base.get? b=some o->s.heap.get? b=some o/\H b=none
 bsz:base.objs.size<=s.heap.objs.size
 funs:s.heap.FunFrames base outer
 frf:∀ b∈frs outer,H b=none
 hok:HOk P w H s.heap
 bare:AllBare s.gens
def CE(outer:List Env)(P:Program)(w:World)(H:Hp)(s:Shared)(Q:VK)(u:Value)(s':Shared):Prop :=
 ∃ v H',s'.os=s.os/\AllBare s'.gens/\Un (frs outer) [] H H' s.heap s'.heap/\HOk P w H' s'.heap/\RelV v u/\Q v H'
def CR(CX:CXT)(outer:List Env)(P:Program)(w:World)(H:Hp)(s:Shared)(Q:VK)(E:XK)(r:Result)(s':Shared):Prop :=
 match r with
 | .ok (.ret u)=>CE outer P w H s Q u s'
 | .ok _=>False
 | .error e=>CX outer H s E e s'
structure FnOk(P:Program)(w:World)(K:PySem.W.Frag)(mg:Str->Option Value)(base:Heap)(CX:CXT)(k:Nat)(f:Addr)(fd:FuncData)(ps:List Str)(sp:Sp):Prop where
 len:∀ vs H Q E,sp vs H Q E->vs.length=ps.length
 run:∀(A:Around) (outer:List Env) (s:Shared) (H:Hp) (args:Args) (us:List Value) (vs:List V) (Q:VK) (E:XK),Room k A->Env0 P w K mg base A outer s H->BindsTo s fd args (ps.zip us)->Vals vs us->sp vs H Q E ->
  codeAny (model P w) A (.call (.ref f) args) (CR CX outer P w H s Q E) s
theorem FnOk.mono{P:Program}{w:World}{K:PySem.W.Frag}{mg:Str->Option Value}{base:Heap}{CX:CXT}{j k:Nat}{f:Addr}{fd:FuncData}{ps:List Str}{sp:Sp}(F:FnOk P w K mg base CX j f fd ps sp)(h:j<=k):
  FnOk P w K mg base CX k f fd ps sp:=⟨F.len,fun A outer s H args us vs Q E hr=>F.run A outer s H args us vs Q E (hr.mono h)⟩
theorem FnOk.imp{P:Program}{w:World}{K:PySem.W.Frag}{mg:Str->Option Value}{base:Heap}{CX:CXT}{k:Nat}{f:Addr}{fd:FuncData}{ps:List Str}{sp sp':Sp}(F:FnOk P w K mg base CX k f fd ps sp)
  (h:∀ vs H Q E,sp' vs H Q E->sp vs H Q E):FnOk P w K mg base CX k f fd ps sp' :=
 ⟨fun vs H Q E q=>F.len vs H Q E (h _ _ _ _ q),fun A outer s H args us vs Q E hr he hb hv hs=>F.run A outer s H args us vs Q E hr he hb hv (h _ _ _ _ hs)⟩
section
variable {X:Cx}{pins:List (Addr×Obj)}{σ:St}{H:Hp}{s s':Shared}
theorem Inv.env0(I:Inv X pins σ H s):Env0 X.prog X.w X.K X.mg X.base X.A X.stack s H :=
 ⟨I.ok.frames,I.ok.mod,I.bs,Nat.le_trans I.ok.bsz I.sz,I.stack,I.stkFree,I.hok,I.bare⟩
theorem Inv.after{Q:VK}{u:Value}(I:Inv X pins σ H s)(h:CE X.stack X.prog X.w H s Q u s'):EP X pins σ Q u s':=by
 obtain⟨v,H',os,bare,un,hok,r,q⟩:=h
 obtain⟨hh,g,d,t,os'⟩:=s'
 obtain rfl:os'=s.os:=os
 exact⟨v,H',I.call (h':=hh) (g':=g) (d':=d) (t':=t) (ch:=[]) un hok bare (fun b z=>absurd z (by simp)),r,q⟩
end
def tCall(sp:Sp)(dvs:List V)(E:XK)(t:TA):TE:=fun σ H Q=>t σ H fun vs H1=>sp (vs++dvs) H1 Q E
def Binds(K:PySem.W.Frag)(fd:FuncData)(ps:List Str)(ds:List Value):Prop :=
 ∀(s:Shared) (us:List Value),K.In s.heap->(us++ds).length=ps.length->BindsTo s fd ⟨us,[]⟩ (ps.zip (us++ds))
theorem Binds.all{K:PySem.W.Frag}{fd:FuncData}{ps:List Str}(h:∀ us:List Value,us.length=ps.length->bindArgs fd ⟨us,[]⟩=pure (ps.zip us)):Binds K fd ps []:=fun s us _ hl=>by
 rw [List.append_nil] at hl ⊢
 exact .of_eq (h us hl)
def Passes(CX:CXT)(X:Cx)(E:XK):Prop:=∀(pins:List (Addr×Obj)) (σ:St) (H:Hp) (s:Shared) (e:Value) (s':Shared),Inv X pins σ H s->CX X.stack H s E e s'->X.xe e s'
section
variable {X:Cx}{CX:CXT}{k:Nat}{f C:Addr}{fd:FuncData}{ps:List Str}{sp:Sp}{dvs:List V}{ds:List Value}{E:XK}{x m:Str}{p pos apos:Pos}{e o:Expr}{es:List Expr}{ta:TE}{t:TA}
theorem run_fn{pins:List (Addr×Obj)}{σ:St}{H:Hp}{s:Shared}{Q:VK}{us:List Value}{vs:List V}(F:FnOk X.prog X.w X.K X.mg X.base CX k f fd ps sp)(hr:Room k X.A)(hb:Binds X.K fd ps ds)(hd:Vals dvs ds)(hx:Passes CX X E)
  (I:Inv X pins σ H s) (r:Vals vs us) (h:sp (vs++dvs) H Q E):wpAny (model X.prog X.w) X.A (call (.ref f) us) (EP X pins σ Q) X.xe s:=by
 have r2:Vals (vs++dvs) (us++ds):=r.append hd
 have hl:(us++ds).length=ps.length:=by rw [<-r2.length];exact F.len _ _ _ _ h
 refine wpAny_call (codeAny_mono (F.run X.A X.stack s H ⟨us,[]⟩ (us++ds) (vs++dvs) Q E hr I.env0 (hb s us I.kIn hl) r2 h) fun r s' hq=>?_)
 cases r with
 | error e=>exact hx pins σ H s e s' I hq
 | ok fl =>
  cases fl with
  | ret u=>exact I.after hq
  | next=>exact False.elim hq
  | brk=>exact False.elim hq
  | cont=>exact False.elim hq
theorem pe_call(F:FnOk X.prog X.w X.K X.mg X.base CX k f fd ps sp)(hr:Room k X.A)(hg:Gl X x)(hm:X.mg x=some (.ref f))(hk:PySem.W.keepIn X.K (.ref f)=true)(hb:Binds X.K fd ps ds)(hd:Vals dvs ds)(hx:Passes CX X E)
  (ha:PA X (e::es) t) (hdb:(x == ("__debug__" : Str))=false:=by decide) (he:starEach (e::es) X.env=(false,eval e X.env)::starEach es X.env:=by rfl) (hpl:(backTo pos (starEach es X.env)).any (·.1)=false:=by rfl) :
  PE X (.Call (.Name x p) (e::es) [] pos) (tCall sp dvs E t):=by
 intro pins s σ H Q I h
 refine wpAny_Call_Name_kw (ld_glob I hg hm ?_ hdb)
 refine PySem.W.callWith_K (h₀:=X.base) I.ok.mod.kin hk (thn (ha pos pins s σ H _ I h) fun us s1 ⟨vs,H1,I1,r,q⟩=>⟨I1.kIn,?_⟩) he hpl
 exact run_fn F hr hb hd hx I1 r q
structure Mk(K:PySem.W.Frag)(C f:Addr):Prop where
 makes:PySem.W.makesIn K C=true
 init:PySem.W.findIn K (.ref C) "__init__" = some (some (.ref f))
 fn:PySem.W.isFn K (.ref f)=true
 kp:PySem.W.keepIn K (.ref C)=true
end
section
variable {X:Cx}{CX:CXT}{k:Nat}{f C:Addr}{fd:FuncData}{ps ks:List Str}{sp:Sp}{E:XK}{x m:Str}{p pos apos kpos:Pos}{e o:Expr}{es:List Expr}{kws:List Keyword}{te ta:TE}{t tk:TA}{nm:Option Str}
structure KBinds(K:PySem.W.Frag)(fd:FuncData)(ps ks:List Str)(g:List Value->List Value->List Value)(gV:List V->List V->List V):Prop where
 to:∀(s:Shared) (us ws:List Value),K.In s.heap->(g us ws).length=ps.length->BindsTo s fd ⟨us,ks.zip ws⟩ (ps.zip (g us ws))
 rel:∀{vs:List V} {us:List Value} {zs:List V} {ws:List Value},Vals vs us->Vals zs ws->Vals (gV vs zs) (g us ws)
variable {g:List Value->List Value->List Value}{gV:List V->List V->List V}
end
structure FnScope(N P:List Str)(sc:Scope):Prop where
 kind:sc.kind=.function
 co:sc.isCoroutine=false
 gen:sc.isGenerator=false
 nd:N.Nodup
 pre:N.take P.length=P
 par:∀ x∈P,sc.names.lookup x=some .local\/sc.names.lookup x=some .cell
 nofree:∀ y∈sc.names,y.2 ≠ .free
theorem bindL_out{kindOf:Str->Option NameKind}{x:Str}:∀{binds:List (Str×Value)} {m:Str->Option Value},(∀ v,(x,v)∉binds)->bindL kindOf binds m x=m x
 | [],_,_=>rfl
 | (n,v)::r,m,h=>by
  unfold bindL
  rw [bindL_out fun w hw=>h w (List.mem_cons_of_mem _ hw)]
  split
  ·have:x≠n:=by rintro rfl;exact h v List.mem_cons_self
   simp [this]
  ·rfl
theorem bindC_out{kindOf:Str->Option NameKind}{x:Str}:∀{binds:List (Str×Value)} {m:Str->Option Value},(∀ v,(x,v)∉binds)->bindC kindOf binds m x=m x
 | [],_,_=>rfl
 | (n,v)::r,m,h=>by
  unfold bindC
  rw [bindC_out fun w hw=>h w (List.mem_cons_of_mem _ hw)]
  split
  ·rfl
  ·have:x≠n:=by rintro rfl;exact h v List.mem_cons_self
   simp [this]
theorem bindL_get{kindOf:Str->Option NameKind}{x:Str}{v:Value}:∀{P:List Str} {vs:List Value} {i:Nat} {m:Str->Option Value},P.Nodup->P[i]?=some x->vs[i]?=some v->kindOf x=some .local ->
  bindL kindOf (P.zip vs) m x=some v
 | [],_,_,_,_,h,_,_=>by simp at h
 | _::_,[],_,_,_,_,h,_=>by simp at h
 | p::P,w::vs,0,m,nd,h1,h2,hk=>by
  simp at h1 h2;subst h1;subst h2
  show bindL kindOf ((p,w)::P.zip vs) m p=_
  unfold bindL
  rw [bindL_out fun v hv=>(List.nodup_cons.mp nd).1 (List.of_mem_zip hv).1,if_pos hk]
  simp
 | p::P,w::vs,i+1,m,nd,h1,h2,hk=>by
  show bindL kindOf ((p,w)::P.zip vs) m x=_
  unfold bindL
  exact bindL_get (i:=i) (List.nodup_cons.mp nd).2 (by simpa using h1) (by simpa using h2) hk
theorem bindC_get{kindOf:Str->Option NameKind}{x:Str}{v:Value}:∀{P:List Str} {vs:List Value} {i:Nat} {m:Str->Option Value},P.Nodup->P[i]?=some x->vs[i]?=some v->kindOf x≠some .local ->
  bindC kindOf (P.zip vs) m x=some v
 | [],_,_,_,_,h,_,_=>by simp at h
 | _::_,[],_,_,_,_,h,_=>by simp at h
 | p::P,w::vs,0,m,nd,h1,h2,hk=>by
  simp at h1 h2;subst h1;subst h2
  show bindC kindOf ((p,w)::P.zip vs) m p=_
  unfold bindC
  rw [bindC_out fun v hv=>(List.nodup_cons.mp nd).1 (List.of_mem_zip hv).1,if_neg hk]
  simp
 | p::P,w::vs,i+1,m,nd,h1,h2,hk=>by
  show bindC kindOf ((p,w)::P.zip vs) m x=_
  unfold bindC
  exact bindC_get (i:=i) (List.nodup_cons.mp nd).2 (by simpa using h1) (by simpa using h2) hk
def start(N:List Str)(vs:List V):St:=vs.map some++List.replicate (N.length-vs.length) none
def cxOf(CX:CXT)(P:Program)(w:World)(K:PySem.W.Frag)(mg:Str->Option Value)(base:Heap)(N:List Str)(qual:Str)(scope:Scope)(f:Addr)(cd:Value)(A:Around)(outer:List Env)(s:Shared)(H:Hp)(E:XK):Cx where
 prog:=P
 w:=w
 K:=K
 mg:=mg
 base:=base
 A:=A.deeper (envOfC qual scope s.heap.objs.size f cd)
 N:=N
 s₀:=s
 H₀:=H
 env:=envOfC qual scope s.heap.objs.size f cd
 outer:=outer
 stack:=envOfC qual scope s.heap.objs.size f cd::outer
 ex:=[]
 calm:=true
 fn:=fun _=>true
 pn:=[]
 xe:=fun e s'=>wpAny (model P w) (A.deeper (envOfC qual scope s.heap.objs.size f cd)) (leaving (envOfC qual scope s.heap.objs.size f cd) e) (fun _ s''=>CX outer H s E e s'') (fun e' s''=>CX outer H s E e' s'') s'
theorem cell_has{sc:Scope}{n:Nat}{x:Str}(h:sc.names.lookup x=some .cell):∃ c,(cellsFrom n sc.names []).lookup x=some c:=by
 have q:=PySem.W.cellsFrom_some sc.names n [] (.inl h)
 exact Option.isSome_iff_exists.mp q
theorem inv_start{CX:CXT}{P:Program}{w:World}{K:PySem.W.Frag}{mg:Str->Option Value}{base:Heap}{N ps:List Str}{qual:Str}{scope:Scope}{f:Addr}{cd:Value}{A:Around}{outer:List Env}{s s1:Shared}{H:Hp}{E:XK}{us:List Value}{vs:List V}
  (S:FnScope N ps scope) (hd:A.handled=none) (e0:Env0 P w K mg base A outer s H) (hl:vs.length=ps.length) (r:Vals vs us)
  (x:InCallC s s.heap.objs.size (bindL (envOfC qual scope s.heap.objs.size f cd).kindOf (ps.zip us) fun _=>none) (cellsFrom (s.heap.objs.size+1) scope.names []) (bindC (envOfC qual scope s.heap.objs.size f cd).kindOf (ps.zip us) fun _=>none) s1) :
  Inv (cxOf CX P w K mg base N qual scope f cd A outer s H E) [] (start N vs) H s1:=by
 have hpl:ps.length<=N.length:=by have:=congrArg List.length S.pre;rw [List.length_take] at this;omega
 obtain⟨h1,tk,rfl,hk⟩:=x.done
 have noA:∀ b:Addr,b∉(cxOf CX P w K mg base N qual scope f cd A outer s H E).ex:=fun b z=>absurd (show b∈([]:List Addr) from z) (by simp)
 refine⟨⟨e0.mod,S.kind,rfl,rfl,Nat.le_refl _,fun y z c h1 h2=>?_,fun y hy=>?_,fun y c _ h=>?_,fun _=>hd,Around.frames_deeper e0.frames,.inr ⟨rfl,rfl⟩,fun b z=>absurd z (noA b),e0.bs,e0.bsz,fun b _ _=>noA b,fun b z=>absurd z (noA b),e0.funs,e0.frf⟩,
  rfl,e0.bare,Un.kept hk,⟨_,x.toInCall.ns,fun i y v h1 h2 h3=>?_⟩,fun y c h=>⟨_,x.cell y c h⟩,e0.hok.fresh (Nat.le_refl _),fun y c h=>?_,fun p hp=>absurd (show p∈([]:List (Addr×Obj)) from hp) (by simp),e0.hok.kept hk,?_⟩
 ·exact name_of_addr x.apart (PySem.mem_of_lookup h1) (PySem.mem_of_lookup h2)
 ·have hy:scope.names.lookup y=some .cell\/scope.names.lookup y=some .free:=hy
  rcases hy with hy | hy
  ·exact cell_has hy
  ·exact absurd rfl (S.nofree _ (PySem.mem_of_lookup hy))
 ·exact Nat.le_of_lt (x.above y c (PySem.mem_of_lookup h))
 ·have hi:i<vs.length:=by
   unfold start at h2
   by_cases hi:i<vs.length
   ·exact hi
   ·rw [List.getElem?_append_right (by simpa using hi)] at h2
    rw [List.getElem?_replicate] at h2
    split at h2 <;> cases h2
  have ha:vs[i]?=some v:=by
   unfold start at h2
   rw [List.getElem?_append_left (by simpa using hi),List.getElem?_map] at h2
   cases e:vs[i]? with
   | none=>rw [e] at h2;cases h2
   | some a=>rw [e] at h2;cases h2;rfl
  obtain⟨u,hu,rv⟩:=r.get ha
  have hp:ps[i]?=some y:=by
   rw [<-S.pre,List.getElem?_take_of_lt (by omega)];exact h1
  have ndP:ps.Nodup:=by rw [<-S.pre];exact S.nd.sublist (List.take_sublist _ _)
  refine⟨u,rv,?_⟩
  rcases S.par y (List.mem_of_getElem? hp) with k | k
  ·exact .inl ⟨k,bindL_get ndP hp hu k⟩
  ·obtain⟨c,e⟩:=cell_has (n:=s.heap.objs.size+1) k
   refine .inr ⟨.inl k,c,e,?_⟩
   have q:=x.cell y c e
   rw [bindC_get ndP hp hu (by show scope.names.lookup y≠_;rw [k];decide)] at q
   exact q
 ·exact e0.hok.fresh (Nat.le_of_lt (x.above y c (PySem.mem_of_lookup h)))
 ·unfold start
  show _=N.length
  rw [List.length_append,List.length_map,List.length_replicate]
  omega
theorem fn_of{CX:CXT}{P:Program}{w:World}{K:PySem.W.Frag}{mg:Str->Option Value}{base:Heap}{k:Nat}{f:Addr}{name qual:Str}{params:Arguments}{body:List Stmt}{scope:Scope}{dV kV doc pm cdv ct oc:Value}{an od:Option Addr}
  {osl:Array (Option Value)} {N ps:List Str} {sp:Sp} (lk:K.lookup f=some ⟨oc,od,.func (PySem.W.fnOf name qual params body scope dV kV doc pm an cdv ct),osl⟩) (hcd:PySem.W.codeIn K cdv qual=true) (S:FnScope N ps scope)
  (len:∀ vs H Q E,sp vs H Q E->vs.length=ps.length)
  (hbody:∀(A:Around) (outer:List Env) (s:Shared) (H:Hp) (vs:List V) (Q:VK) (E:XK),Room k (A.deeper (envOfC qual scope s.heap.objs.size f cdv))->sp vs H Q E ->
   ∃ t,PSs (cxOf CX P w K mg base N qual scope f cdv A outer s H E) body t/\t { nx:=fun _ H'=>Q .non H',rt:=Q } (start N vs) H) :
  FnOk P w K mg base CX (k+1) f (PySem.W.fnOf name qual params body scope dV kV doc pm an cdv ct) ps sp:=by
 refine⟨len,fun A outer s H args us vs Q E hr e0 hb r hsp=>?_⟩
 have hl:=len _ _ _ _ hsp
 have KX:K.In s.heap:=e0.mod.kin.keeps fun b o e=>(e0.bs b o e).1
 have lim:s.heap.NoLimit:=e0.mod.nolimit.keeps fun b o e=>(e0.bs b o e).1
 have hkind:∀ y∈ps.zip us,scope.names.lookup y.1=some .local\/(scope.names.lookup y.1=some .cell/\((cellsFrom (s.heap.objs.size+1) scope.names []).lookup y.1).isSome=true):=fun⟨n,v⟩ hy=>by
  rcases S.par n (List.of_mem_zip hy).1 with q | q
  ·exact .inl q
  ·exact .inr ⟨q,PySem.W.cellsFrom_some _ _ _ (.inl q)⟩
 refine codeAny_call_function hr.depth (KX _ _ lk) rfl S.co S.gen rfl (PySem.W.codeRec_of KX hcd) (hb _ _ _ _ ?_)
 refine wpAny_newFunctionEnv_cells S.kind hkind fun env he s1 x=>?_
 subst he
 refine⟨lim.keeps x.toInCall.keep,codeAny_func ?_⟩
 obtain⟨t,ht,hq⟩:=hbody A outer s H vs Q E (hr.deeper _) hsp
 have I:Inv (cxOf CX P w K mg base N qual scope f cdv A outer s H E) [] (start N vs) H s1:=inv_start S hr.hd e0 hl r x
 refine wpAny_mono (ht [] s1 (start N vs) H _ I hq) (fun fl s' hs=>?_) fun e s' hs=>hs
 have fin:∀{σ':St} {H':Hp} {v:V} {u:Value},Inv (cxOf CX P w K mg base N qual scope f cdv A outer s H E) [] σ' H' s'->RelV v u->Q v H'->CE outer P w H s Q u s' :=
  fun{σ' H' v u} J rv q=>⟨v,H',J.os,J.bare,J.base,J.hok,rv,q⟩
 cases fl with
 | ret u =>
  obtain⟨v,σ',H',J,rv,q⟩:=hs
  exact fin J rv q
 | next =>
  obtain⟨σ',H',J,q⟩:=hs
  exact fin (v:=V.non) (u:=Value.none) J rfl q
 | brk =>
  obtain⟨_,_,_,q⟩:=hs
  exact False.elim q
 | cont =>
  obtain⟨_,_,_,q⟩:=hs
  exact False.elim q
section
variable {X:Cx}{x:Str}{p pos:Pos}{e:Expr}{es:List Expr}{t:TA}{id T:String}{r:List V->Hp->VK->Prop}
def tCB(r:List V->Hp->VK->Prop)(t:TA):TE:=fun σ H Q=>t σ H fun vs H1=>r vs H1 Q
theorem pe_callB(hc:CallR X (.builtin id) r)(hg:Gl X x)(hm:X.mg x=none)(hv:bootBuiltins x=some (.builtin id))(ha:PA X (e::es) t)(hn:x ≠ "__name__" := by decide)(hdb:(x == ("__debug__" : Str))=false:=by decide)
  (he:starEach (e::es) X.env=(false,eval e X.env)::starEach es X.env:=by rfl) (hpl:(backTo pos (starEach es X.env)).any (·.1)=false:=by rfl):PE X (.Call (.Name x p) (e::es) [] pos) (tCB r t):=by
 intro pins s σ H Q I h
 refine wpAny_Call_Name_kw (ld_blt I hg hm hv ?_ hn hdb)
 exact PyProof.Rows.callWith_builtin1 (thn (ha pos pins s σ H _ I h) fun us s1 ⟨vs,H1,I1,r1,q1⟩=>hc pins s1 σ H1 vs us Q I1 r1 q1) he hpl
theorem pe_callTy(hc:CallR X (.type T) r)(hg:Gl X x)(hm:X.mg x=none)(hv:bootBuiltins x=some (.type T))(ha:PA X (e::es) t)(hn:x ≠ "__name__" := by decide)(hdb:(x == ("__debug__" : Str))=false:=by decide)
  (he:starEach (e::es) X.env=(false,eval e X.env)::starEach es X.env:=by rfl) (hpl:(backTo pos (starEach es X.env)).any (·.1)=false:=by rfl):PE X (.Call (.Name x p) (e::es) [] pos) (tCB r t):=by
 intro pins s σ H Q I h
 refine wpAny_Call_Name_kw (ld_blt I hg hm hv ?_ hn hdb)
 exact PyProof.Rows.callWith_type1 (thn (ha pos pins s σ H _ I h) fun us s1 ⟨vs,H1,I1,r1,q1⟩=>hc pins s1 σ H1 vs us Q I1 r1 q1) he hpl
end
end L2
namespace HT
open PySem PyProof.Rows
section
open PySem.SeqAt
open PySem.AutoSeq1 (wpAny_loadPart')
open PySem.MeetsSeq PySem.MeetsSeq2 PySem.MeetsSeq3
end
section
variable {prog:Program}{w:World}{A:Around}{E:Value->Shared->Prop}{s:Shared}
theorem cat_tup{t b:Addr}{vs ws:List Value}{Q:Value->Shared->Prop}(ht:IsTup s.heap t vs.toArray)(hb:IsTup s.heap b ws.toArray)(hv:vs ≠ [])
  (h1:ws = []->Q (.ref t) s) (h2:ws ≠ []->Q (.ref s.heap.objs.size) { s with heap:=s.heap.push { cls:=.type "tuple",data:=.seq (vs++ws).toArray } })
  (hsz:vs.length+ws.length<=sizeLine):wpAny (model prog w) A (binaryOp .Add (.ref t) (.ref b)) Q E s:=by
 obtain⟨⟨cls,dd,data,sl⟩,ho,hc,n,hd⟩:=id ht
 obtain⟨⟨cls2,dd2,data2,sl2⟩,ho2,hc2,n2,hd2⟩:=id hb
 simp only at hc hd hc2 hd2
 subst hc hd hc2 hd2
 have e:vs.toArray++ws.toArray=(vs++ws).toArray:=by simp
 by_cases hw:ws = []
 ·exact concat_meets ⟨_,ho,rfl⟩ ⟨_,ho2,rfl⟩ noFill_tuple_add seq_tuple_add PySem.F.slot_tuple_add PySem.F.entry_tuple_add (PySem.F.args_tuple_add_2 _ _)
   (tuple_addW1 t b vs.toArray ws.toArray n n2 dd dd2 sl sl2 (by simpa using hv) (by simp [hw])) ⟨ho,ho2,h1 hw⟩
 ·refine concat_meets ⟨_,ho,rfl⟩ ⟨_,ho2,rfl⟩ noFill_tuple_add seq_tuple_add PySem.F.slot_tuple_add PySem.F.entry_tuple_add (PySem.F.args_tuple_add_2 _ _)
   (tuple_addW2 t b vs.toArray ws.toArray n n2 dd dd2 sl sl2 (by simpa using hv) (by simpa using hw) (by rw [List.size_toArray,List.size_toArray];exact hsz)) ⟨ho,ho2,?_⟩
  rw [e]
  exact h2 hw
def sIx(n d:Nat):Option Int->Nat
 | none=>d
 | some v=>if v<0 then (v+(n:Int)).toNat else min v.toNat n
theorem sIx_le(n d:Nat)(hd:d<=n)(o:Option Int):sIx n d o<=n:=by
 cases o with
 | none=>exact hd
 | some v =>
  show(if v<0 then (v+(n:Int)).toNat else min v.toNat n)<=n
  by_cases hv:v<0
  ·rw [if_pos hv];omega
  ·rw [if_neg hv];exact Nat.min_le_right _ _
theorem clip_eq(v:Int)(n d:Nat):(if v<0 then max (v+(n:Int)) 0 else min v (n:Int))=((sIx n d (some v):Nat):Int):=by
 show(if v<0 then max (v+(n:Int)) 0 else min v (n:Int))=(((if v<0 then (v+(n:Int)).toNat else min v.toNat n):Nat):Int)
 by_cases hv:v<0
 ·simp only [if_pos hv];omega
 ·simp only [if_neg hv];omega
theorem adjust_gen(lo hi:Option Int)(n:Nat):Builtin.Slice.sliceAdjust lo hi 1 (n:Int)=(((sIx n 0 lo:Nat):Int),((sIx n n hi:Nat):Int)):=by
 have h1:¬ ((1:Int)<0):=by omega
 unfold Builtin.Slice.sliceAdjust
 simp only [h1,if_false]
 refine Prod.ext ?_ ?_
 ·cases lo with
  | none=>rfl
  | some v=>exact clip_eq v n 0
 ·cases hi with
  | none=>rfl
  | some v=>exact clip_eq v n n
theorem places_gen(i j:Nat):Builtin.Slice.slicePlaces (i:Int) (j:Int) 1=j-i:=by
 unfold Builtin.Slice.slicePlaces
 have h1:(1:Int) > 0:=by omega
 simp only [h1,if_true,Int.ediv_one]
 split <;> omega
theorem slicePart_{v:Value}{o:Option Int}{Q:Option Int->Shared->Prop}(p:IsPart v o)(h:Q o s):wpAny (model prog w) A (Builtin.Slice.slicePartIndex v) Q E s:=by
 cases p with
 | none=>exact slicePart_none h
 | int i t=>exact slicePart_int h
theorem sliceApplied_gen{sl:Addr}{vl vu:Value}{lo hi:Option Int}{n:Nat}{Q:Int×Int×Nat->Shared->Prop}(hs:s.heap.IsSliceOf sl vl vu .none)(pl:IsPart vl lo)(pu:IsPart vu hi)
  (h:Q (((sIx n 0 lo:Nat):Int),1,sIx n n hi-sIx n 0 lo) s):wpAny (model prog w) A (Builtin.Slice.sliceApplied (.ref sl) (pure (n:Int))) Q E s:=by
 obtain⟨os,hos,hcs,hds⟩:=id hs
 unfold Builtin.Slice.sliceApplied Builtin.Slice.sliceFields
 refine wpAny_bind (wpAny_bind (wpAny_field hos hds (x:=vl) rfl (wpAny_bind (wpAny_field hos hds (x:=vu) rfl (wpAny_bind (wpAny_field hos hds (x:=.none) rfl (wpAny_pure ?_)))))))
 refine wpAny_bind (slicePart_none ?_)
 show wpAny _ _ (if ((1:Int) == 0)=true then _ else _) _ _ s
 rw [if_neg (by decide)]
 refine wpAny_bind (slicePart_ pl (wpAny_bind (slicePart_ pu (wpAny_bind (wpAny_pure ?_)))))
 show wpAny _ _ (match Builtin.Slice.sliceAdjust lo hi 1 (n:Int) with | (lo,hi)=>pure (lo,(1:Int),Builtin.Slice.slicePlaces lo hi 1)) _ _ s
 rw [adjust_gen lo hi n]
 show wpAny _ _ (pure (((sIx n 0 lo:Nat):Int),(1:Int),Builtin.Slice.slicePlaces ((sIx n 0 lo:Nat):Int) ((sIx n n hi:Nat):Int) 1)) _ _ s
 rw [places_gen]
 exact wpAny_pure h
theorem pick_gen(xs:Array Value)(i k:Nat):((List.range k).filterMap fun(m:Nat)=>xs[((i:Int)+(m:Int) * 1).toNat]?).toArray=((xs.toList.drop i).take k).toArray:=by
 have e:(fun(m:Nat)=>xs[((i:Int)+(m:Int) * 1).toNat]?)=fun m=>xs[i+m]?:=by
  funext m
  have:((i:Int)+(m:Int) * 1).toNat=i+m:=by omega
  rw [this]
 rw [e]
 have:=pick_run xs i k
 rw [List.filterMap_map] at this
 have e2:((fun x=>xs[x]?) ∘ fun x=>i+x)=fun m=>xs[i+m]?:=rfl
 rw [e2] at this
 rw [this]
theorem getItem_tuple_cut{t sl:Addr}{items:Array Value}{vl vu:Value}{lo hi:Option Int}{Q:Value->Shared->Prop}(ht:IsTup s.heap t items)(hs:s.heap.IsSliceOf sl vl vu .none)(pl:IsPart vl lo)(pu:IsPart vu hi)
  (hw:¬ (sIx items.size 0 lo=0/\sIx items.size items.size hi=items.size))
  (h:Q (.ref s.heap.objs.size) { s with heap:=s.heap.push { cls:=.type "tuple",data:=.seq ((items.toList.drop (sIx items.size 0 lo)).take (sIx items.size items.size hi-sIx items.size 0 lo)).toArray } })
  (hsz:items.size<=sizeLine):wpAny (model prog w) A (getItem (.ref t) (.ref sl)) Q E s:=by
 have htake:sizeOk (.seq ((items.toList.drop (sIx items.size 0 lo)).take (sIx items.size items.size hi-sIx items.size 0 lo)).toArray):=by
  show((items.toList.drop (sIx items.size 0 lo)).take (sIx items.size items.size hi-sIx items.size 0 lo)).toArray.size<=sizeLine
  rw [List.size_toArray,List.length_take,List.length_drop,Array.length_toList]
  omega
 have hj:sIx items.size items.size hi<=items.size:=sIx_le _ _ (Nat.le_refl _) hi
 obtain⟨os,hos,hcs,hds⟩:=id hs
 have hTs:s.TypeIs (.ref sl) "slice" :=⟨os,hos,hcs⟩
 unfold getItem
 try with_reducible refine wpAny_holding ?_
 first | refine wpAny_bind (wpAny_pure ?_) | skip
 refine wpAny_bind (wpAny_sequenceKey ht.typeIs (by decide) ?_)
 refine wpAny_bind (wpAny_callSpecial?_slot (name:=Str.ofString "__getitem__") ht.typeIs PyProof.Rows.slot_tuple_getitem
  (wpAny_call_entry PyProof.Rows.slot_tuple_getitem ht.typeIs entry_tuple_getitem ?_ (args_tuple_getitem _ _)))
 show wpAny _ _ (Builtin.Tuple.tupleItemsOf (.ref t) >>= _) _ _ s
 refine wpAny_bind (tupleItemsOf_ ht ?_)
 refine wpAny_bind (wpAny_typeOf hTs ?_)
 rw [if_pos (by decide)]
 refine wpAny_bind (sliceApplied_gen hs pl pu ?_)
 have hno:¬ ((((sIx items.size 0 lo:Nat):Int) == 0 && (1:Int) == 1 && (sIx items.size items.size hi-sIx items.size 0 lo) == items.size)=true):=by
  intro q
  rw [Bool.and_eq_true,Bool.and_eq_true] at q
  have q1:((sIx items.size 0 lo:Nat):Int)=0:=eq_of_beq q.1.1
  have q2:sIx items.size items.size hi-sIx items.size 0 lo=items.size:=eq_of_beq q.2
  exact hw ⟨by omega,by omega⟩
 show wpAny _ _ (if (((sIx items.size 0 lo:Nat):Int) == 0 && (1:Int) == 1 && (sIx items.size items.size hi-sIx items.size 0 lo) == items.size)=true then _ else _) _ _ s
 rw [if_neg hno,pick_gen]
 first
  | exact wpAny_bind (m:=Builtin.Tuple.tupleExact _) (wpAny_newObj_type (wpAny_pure ⟨_,rfl,wpAny_pure h⟩) htake)
  | exact wpAny_bind (m:=Builtin.Tuple.tupleExact _) (wpAny_newObj_type (wpAny_bind (wpAny_pure (wpAny_pure ⟨_,rfl,wpAny_pure h⟩))) htake)
  | exact wpAny_bind (wpAny_bind (m:=Builtin.Tuple.tupleExact _) (wpAny_newObj_type (wpAny_pure (wpAny_pure ⟨_,rfl,wpAny_pure h⟩)) htake))
  | exact wpAny_bind (wpAny_bind (m:=Builtin.Tuple.tupleExact _) (wpAny_newObj_type (wpAny_pure ⟨_,rfl,wpAny_pure h⟩) htake))
end
end HT
namespace L2
open PySem PySem.Spec PyProof.Rows
abbrev TO:=St->Hp->(Option Int->Hp->Prop)->Prop
def PO(X:Cx)(e:Option Expr)(t:TO):Prop :=
 ∀(pins:List (Addr×Obj)) (s:Shared) (σ:St) (H:Hp) (Q:Option Int->Hp->Prop),Inv X pins σ H s->t σ H Q ->
  wpAny (model X.prog X.w) X.A (evalPart e X.env) (fun u s'=>∃ o H',Inv X pins σ H' s'/\IsPart u o/\Q o H') X.xe s
def tNoPart:TO:=fun _ H Q=>Q none H
def tPart(t:TE):TO:=fun σ H Q=>t σ H fun x H1=>∃ i,x=.int i/\Q (some i) H1
theorem intsAre_of{ns:List Int}:∀{us:List Value},Vals (ns.map V.int) us->IntsAre us ns:=by
 induction ns with
 | nil=>intro us r;rw [List.map_nil] at r;cases r;exact .nil
 | cons n ns ih =>
  intro us r
  rw [List.map_cons] at r
  cases r with
  | cons r1 r2 =>
   obtain⟨t,e⟩:=r1
   subst e
   exact .cons n t (ih r2)
section
variable {X:Cx}{e:Expr}{te:TE}{lo hi:Option Expr}{tl th:TO}{pos p2:Pos}
theorem po_none:PO X none tNoPart:=by
 intro pins s σ H Q I h
 rw [evalPart_none]
 exact wpAny_pure ⟨none,H,I,.none,h⟩
theorem po_some(h:PE X e te):PO X (some e) (tPart te):=by
 intro pins s σ H Q I hw
 rw [evalPart_some]
 refine thn (h pins s σ H _ I hw) fun u s1 ⟨x,H1,I1,r1,q1⟩=>?_
 obtain⟨i,rfl,q⟩:=q1
 obtain⟨t,rfl⟩:=r1
 exact⟨some i,H1,I1,.int i t,q⟩
def SlR(X:Cx)(r:V->Option Int->Option Int->Hp->VK->Prop):Prop :=
 ∀(pins:List (Addr×Obj)) (s:Shared) (σ:St) (H:Hp) (x:V) (v vl vu:Value) (lo hi:Option Int) (sl:Addr) (Q:VK),Inv X pins σ H s->RelV x v->s.heap.IsSliceOf sl vl vu .none->IsPart vl lo->IsPart vu hi->r x lo hi H Q ->
  ∃ T id,typeLookup (.type T) "__getitem__" = pure (some (.builtin id))/\s.TypeIs v T/\wpAny (model X.prog X.w) X.A (getItem v (.ref sl)) (EP X pins σ Q) X.xe s
theorem SlR.or{r r':V->Option Int->Option Int->Hp->VK->Prop}(h:SlR X r)(h':SlR X r'):SlR X (fun x lo hi H Q=>r x lo hi H Q\/r' x lo hi H Q):=by
 intro pins s σ H x v vl vu lo hi sl Q I rx hs pl pu q
 rcases q with q | q
 ·exact h pins s σ H x v vl vu lo hi sl Q I rx hs pl pu q
 ·exact h' pins s σ H x v vl vu lo hi sl Q I rx hs pl pu q
def tSl(r:V->Option Int->Option Int->Hp->VK->Prop)(te:TE)(tl th:TO):TE:=fun σ H Q=>te σ H fun x H1=>tl σ H1 fun l H2=>th σ H2 fun u H3=>r x l u H3 Q
theorem pe_slice{r:V->Option Int->Option Int->Hp->VK->Prop}(hr:SlR X r)(he:PE X e te)(hl:PO X lo tl)(hu:PO X hi th):PE X (.Subscript e (.Slice lo hi none p2) pos) (tSl r te tl th):=by
 intro pins s σ H Q I h
 refine Subscript_ (thn (he pins s σ H _ I h) fun v s1 ⟨x,H1,I1,r1,q1⟩=>?_)
 refine wpAny_Slice (thn (hl pins s1 σ H1 _ I1 q1) fun vl s2 ⟨l,H2,I2,pl,q2⟩=>thn (hu pins s2 σ H2 _ I2 q2) fun vu s3 ⟨u,H3,I3,pu,q3⟩=>?_)
 rw [evalPart_none]
 refine wpAny_pure ?_
 have I4:Inv X pins σ H3 { s3 with heap:=s3.heap.push { cls:=.type "slice",data:=.fields #[vl,vu,.none] } }:=I3.kept (t':=s3.toks) fun b ob q=>Heap.get?_push_of_some _ q
 obtain⟨T,id,hT,ht,hg⟩:=hr pins { s3 with heap:=s3.heap.push { cls:=.type "slice",data:=.fields #[vl,vu,.none] } } σ H3 x v vl vu l u s3.heap.objs.size Q I4 r1 (Heap.IsSliceOf.new ..) pl pu q3
 show wpAny (model X.prog X.w) X.A (subscriptTail e (.Slice lo hi none p2) v (.ref s3.heap.objs.size)) (EP X pins σ Q) X.xe { s3 with heap:=s3.heap.push { cls:=.type "slice",data:=.fields #[vl,vu,.none] } }
 exact tail_any (ops:=[.ref s3.heap.objs.size,v]) ht hT hg (by with_unfolding_all rfl)
def cutV(xs:List V)(lo hi:Option Int):List V:=(xs.drop (HT.sIx xs.length 0 lo)).take (HT.sIx xs.length xs.length hi-HT.sIx xs.length 0 lo)
theorem cutV_length(xs:List V)(lo hi:Option Int):(cutV xs lo hi).length<=xs.length:=by
 unfold cutV
 rw [List.length_take,List.length_drop]
 omega
def rSlT(K:PySem.W.Frag):V->Option Int->Option Int->Hp->VK->Prop:=fun x lo hi H Q=>∃ a xs,x=.ref a/\SqT K H a xs /\
 ¬ (HT.sIx xs.length 0 lo=0/\HT.sIx xs.length xs.length hi=xs.length)/\∀ p,H p=none->Q (.ref p) (upd H p (.tup (cutV xs lo hi)))
theorem sl_tup:SlR X (rSlT X.K):=by
 intro pins s σ H x v vl vu lo hi sl Q I rx hs pl pu h
 obtain⟨a,xs,rfl,hx,hw,q⟩:=h
 cases rx
 obtain⟨its,r,ht,hz⟩:=I.tuple hx
 have hlen:its.toArray.size=xs.length:=by rw [List.size_toArray];exact r.length.symm
 refine⟨"tuple",_,PyProof.Rows.slot_tuple_getitem.lookup,ht.typeIs,?_⟩
 refine HT.getItem_tuple_cut ht hs pl pu (by rw [hlen];exact hw) ?_ (by rw [hlen];exact hz)
 rw [hlen]
 refine⟨.ref s.heap.objs.size,_,I.laid (t':=s.toks) (o:=.tup (cutV xs lo hi)) (fun b ob q=>Heap.get?_push_of_some _ q) (Nat.le_refl _) ?_,rfl,q _ (I.hok.fresh (Nat.le_refl _))⟩
 exact⟨Nat.le_trans (cutV_length xs lo hi) hz,_,(r.drop (HT.sIx xs.length 0 lo)).take (HT.sIx xs.length xs.length hi-HT.sIx xs.length 0 lo),TupD.new _ _⟩
theorem Vals.nil_iff{xs:List V}{us:List Value}(r:Vals xs us):us = []↔xs = []:=by
 cases r with
 | nil=>simp
 | cons _ _=>simp
end
def ixN(n:Nat)(i:Int):Option Nat:=if 0<=i then (if i<n then some i.toNat else none) else if -(n:Int)<=i then some (i+n).toNat else none
def atI{α:Type}(xs:List α)(i:Int):Option α:=(ixN xs.length i).bind fun j=>xs[j]?
theorem ixN_seq{n:Nat}{i:Int}{j:Nat}(h:ixN n i=some j):seqIndex? i n=some j/\j<n/\-(n:Int)<=i/\i<n:=by
 unfold ixN at h
 by_cases h0:0<=i
 ·rw [if_pos h0] at h
  by_cases h1:i<n
  ·rw [if_pos h1] at h
   have e:i.toNat=j:=Option.some.inj h
   exact⟨by rw [seqIndex_of h0 h1,e],by omega,by omega,h1⟩
  ·rw [if_neg h1] at h;cases h
 ·rw [if_neg h0] at h
  by_cases h1 : -(n:Int)<=i
  ·rw [if_pos h1] at h
   have e:(i+n).toNat=j:=Option.some.inj h
   exact⟨by rw [seqIndex_neg (by omega) h1,e],by omega,h1,by omega⟩
  ·rw [if_neg h1] at h;cases h
theorem atI_get{α:Type}{xs:List α}{i:Int}{v:α}(h:atI xs i=some v):∃ j,seqIndex? i xs.length=some j/\xs[j]?=some v/\j<xs.length/\-(xs.length:Int)<=i/\i<xs.length:=by
 unfold atI at h
 cases e:ixN xs.length i with
 | none=>rw [e] at h;cases h
 | some j =>
  rw [e] at h
  obtain⟨h1,h2,h3,h4⟩:=ixN_seq e
  exact⟨j,h1,h,h2,h3,h4⟩
theorem atI_nat{α:Type}{xs:List α}{j:Nat}{v:α}(h:xs[j]?=some v):atI xs (j:Int)=some v:=by
 have hj:j<xs.length:=(List.getElem?_eq_some_iff.mp h).1
 have e:ixN xs.length (j:Int)=some j:=by
  unfold ixN
  rw [if_pos (by omega),if_pos (by omega)];simp
 unfold atI;rw [e];exact h
theorem atI_last{α:Type}(xs:List α)(v:α):atI (xs ++ [v]) (-1)=some v:=by
 have hl:(xs ++ [v]).length=xs.length+1:=by simp
 have e:ixN (xs ++ [v]).length (-1)=some xs.length:=by
  unfold ixN
  rw [hl,if_neg (by decide),if_pos (by omega)]
  congr 1
  omega
 unfold atI
 rw [e]
 show(xs ++ [v])[xs.length]?=some v
 simp
def PlainIx(b:Expr):Prop:=∀ o i,subscripted b false o i=operate [o,i] (getItem o i)
def IxR(X:Cx)(r:R2):Prop :=
 ∀(value slice:Expr) (pins:List (Addr×Obj)) (s:Shared) (σ:St) (H:Hp) (x y:V) (v u:Value) (Q:VK),Inv X pins σ H s->RelV x v->RelV y u->r x y H Q ->
  subscripted slice false v u=operate [v,u] (getItem v u)->wpAny (model X.prog X.w) X.A (subscriptTail value slice v u) (EP X pins σ Q) X.xe s
def MtR(X:Cx)(id:String)(r:V->List V->Hp->VK->Prop):Prop :=
 ∀(pins:List (Addr×Obj)) (s:Shared) (σ:St) (H:Hp) (x:V) (xs:List V) (v:Value) (us:List Value) (Q:VK),Inv X pins σ H s->RelV x v->Vals xs us->r x xs H Q ->
  wpAny (model X.prog X.w) X.A (call (.builtin id) (v::us)) (EP X pins σ Q) X.xe s
section
variable {X:Cx}{a b:Expr}{ta tb:TE}{pos:Pos}
theorem IxR.or{r r':R2}(h:IxR X r)(h':IxR X r'):IxR X (fun x y H Q=>r x y H Q\/r' x y H Q):=by
 intro value slice pins s σ H x y v u Q I rx ry q hs
 rcases q with q | q
 ·exact h value slice pins s σ H x y v u Q I rx ry q hs
 ·exact h' value slice pins s σ H x y v u Q I rx ry q hs
theorem pe_ix{r:R2}(hr:IxR X r)(ha:PE X a ta)(hb:PE X b tb)(hs:PlainIx b):PE X (.Subscript a b pos) (tOp r ta tb):=by
 intro pins s σ H Q I h
 exact Subscript_ (binT ha hb I h fun v u s2 x y H2 I2 rx ry q=>hr a b pins s2 σ H2 x y v u Q I2 rx ry q (hs _ _))
def rIxL(K:PySem.W.Frag):R2:=fun x y H Q=>∃ p xs i v,x=.ref p/\y=.int i/\SqL K H p xs/\atI xs i=some v/\Q v H
def rIxT(K:PySem.W.Frag):R2:=fun x y H Q=>∃ p xs i v,x=.ref p/\y=.int i/\SqT K H p xs/\atI xs i=some v/\Q v H
def rIxS:R2:=fun x y H Q=>∃ z i c,x=.str z/\y=.int i/\z.length<=sizeLine/\atI z.cps.toList i=some c/\Q (.str ⟨#[c]⟩) H
theorem ix_list:IxR X (rIxL X.K):=by
 intro value slice pins s σ H x y v u Q I rx ry h hs
 obtain⟨p,xs,i,z,rfl,rfl,hq,he,q⟩:=h
 cases rx
 obtain⟨t,rfl⟩:=ry
 obtain⟨its,r,pl,hz⟩:=I.list hq
 obtain⟨j,h1,h2,h3,h4,h5⟩:=atI_get he
 obtain⟨w,ew,rw'⟩:=r.get h2
 have hl:=r.length
 have hn:=line63
 have fin:EP X pins σ Q w s:=⟨z,H,I,rw',q⟩
 by_cases h0:0<=i
 ·have hj:i.toNat=j:=by
   rw [seqIndex_of h0 h5] at h1
   exact Option.some.inj h1
  exact item_listR pl.isList h0 (by omega) (by rw [hj];simpa using ew) fin hs
 ·have hj:(i+(its.toArray.size:Int)).toNat=j:=by
   rw [seqIndex_neg (by omega) h4] at h1
   rw [List.size_toArray,<-hl]
   exact Option.some.inj h1
  exact subscriptTail_builtinR (x:=w) pl.isList.typeIs slot_list_getitem.lookup
   (wpAny_getItem_list_neg (Q:=fun r s'=>r=w/\EP X pins σ Q r s') pl.isList (by omega) (by rw [List.size_toArray] <;> omega) (by omega) (by rw [hj];simpa using ew) ⟨rfl,fin⟩) hs
theorem ix_tup:IxR X (rIxT X.K):=by
 intro value slice pins s σ H x y v u Q I rx ry h hs
 obtain⟨p,xs,i,z,rfl,rfl,hq,he,q⟩:=h
 cases rx
 obtain⟨t,rfl⟩:=ry
 obtain⟨its,r,pl,hz⟩:=I.tuple hq
 obtain⟨j,h1,h2,h3,h4,h5⟩:=atI_get he
 obtain⟨w,ew,rw'⟩:=r.get h2
 have hl:=r.length
 have hn:=line63
 have fin:EP X pins σ Q w s:=⟨z,H,I,rw',q⟩
 exact subscriptTail_builtinR (x:=w) pl.typeIs slot_tuple_getitem.lookup
  (getItem_tuple (j:=j) (Q:=fun r s'=>r=w/\EP X pins σ Q r s') pl (by omega) (by omega) (by rw [List.size_toArray,<-hl];exact h1) (by simpa using ew) ⟨rfl,fin⟩) hs
theorem ix_str:IxR X rIxS:=by
 intro value slice pins s σ H x y v u Q I rx ry h hs
 obtain⟨z,i,c,rfl,rfl,hz,he,q⟩:=h
 obtain⟨t,rfl⟩:=rx
 obtain⟨t',rfl⟩:=ry
 obtain⟨j,h1,h2,h3,h4,h5⟩:=atI_get he
 have hl:z.cps.toList.length=z.length:=by simp [Str.length]
 rw [hl] at h1 h4 h5
 have hn:=line63
 exact tail_any (typeIs_str s z t) slot_str_getitem.lookup (getItem_str (c:=c) (by
  have e1:decide (i < -(2 ^ 63:Int))=false:=decide_eq_false (by omega)
  have e2:decide (i ≥ 2 ^ 63)=false:=decide_eq_false (by omega)
  rw [e1,e2,Bool.or_false]) (by rw [h1];simpa using h2) ⟨.str ⟨#[c]⟩,H,I.tok _,⟨_,rfl⟩,q⟩) hs
def rIx(K:PySem.W.Frag):R2:=fun x y H Q=>rIxL K x y H Q\/rIxT K x y H Q\/rIxS x y H Q
theorem ix_seq:IxR X (rIx X.K):=ix_list.or (ix_tup.or ix_str)
theorem mapSeq_set(its:List Value)(n j:Nat)(u:Value):Obj.mapSeq (·.setIfInBounds j u) { cls:=.type "list",data:=.seq its.toArray n } = { cls:=.type "list",data:=.seq (its.set j u).toArray n }:=by
 simp [Obj.mapSeq]
theorem Inv.lst{pins:List (Addr×Obj)}{σ:St}{H:Hp}{s:Shared}{p:Addr}{xs:List V}(I:Inv X pins σ H s)(h:H p=some (.lst xs)):
  ∃(its:List Value) (n:Nat),Vals xs its/\s.heap.get? p=some { cls:=.type "list",data:=.seq its.toArray n }/\xs.length<=sizeLine:=by
 obtain⟨z,its,n,r,e⟩:=I.hok p _ h
 exact⟨its,n,r,e,z⟩
theorem Inv.lstUpd{pins:List (Addr×Obj)}{σ:St}{H:Hp}{s:Shared}{p:Addr}{xs ys:List V}{its its':List Value}{n n':Nat}{f:Obj->Obj}(I:Inv X pins σ H s)(h:H p=some (.lst xs))
  (ho:s.heap.get? p=some { cls:=.type "list",data:=.seq its.toArray n }) (hf:f { cls:=.type "list",data:=.seq its.toArray n } = { cls:=.type "list",data:=.seq its'.toArray n' }) (r:Vals ys its') (hz:ys.length<=sizeLine) (t:Nat) :
  Inv X pins σ (upd H p (.lst ys)) { s with heap:=s.heap.update p f,toks:=t }:=by
 have e:(s.heap.update p f).get? p=some { cls:=.type "list",data:=.seq its'.toArray n' }:=by
  rw [Heap.get?_update_self f ho (by rw [hf] <;> rfl),hf]
 refine I.write (x:=p) (e:=p) (by rw [h];trivial) (.inl rfl) (fun b u hb q=>(Heap.get?_update_other _ _ (Ne.symm hb)).trans q) ⟨_,e⟩ ?_
 exact⟨hz,its',n',r,e⟩
def rSetL:V->V->V->Hp->(Hp->Prop)->Prop:=fun o i v H Q=>∃ p xs k j,o=.ref p/\i=.int k/\H p=some (.lst xs)/\ixN xs.length k=some j/\Q (upd H p (.lst (xs.set j v)))
theorem set_list:PSet X rSetL:=by
 intro pins s σ H o i v ov iv u Q I ro ri rv h
 obtain⟨p,xs,k,j,rfl,rfl,hp,hj,q⟩:=h
 cases ro
 obtain⟨t,rfl⟩:=ri
 obtain⟨its,n,r,ho,hz⟩:=I.lst hp
 obtain⟨h1,h2,h3,h4⟩:=ixN_seq hj
 have hl:=r.length
 have hn:=line63
 have I':Inv X pins σ (upd H p (.lst (xs.set j v))) { s with heap:=s.heap.update p (Obj.mapSeq (·.setIfInBounds j u)) } :=
  I.lstUpd hp ho (mapSeq_set its n j u) (r.set rv j) (by rw [List.length_set];exact hz) s.toks
 by_cases h0:0<=k
 ·have hk:k.toNat=j:=by
   rw [seqIndex_of h0 h4] at h1
   exact Option.some.inj h1
  exact PySem.W.ki_setAt ho h0 (by omega) (by rw [List.size_toArray,<-hl];exact h4) (by rw [hk];exact⟨_,I',q⟩)
 ·have hk:(k+(its.toArray.size:Int)).toNat=j:=by
   rw [seqIndex_neg (by omega) h3] at h1
   rw [List.size_toArray,<-hl]
   exact Option.some.inj h1
  exact PySem.W.ki_setBack ho (by omega) (by rw [List.size_toArray,<-hl];exact h3) (by omega) (by rw [hk];exact⟨_,I',q⟩)
theorem slice_bounds(lo hi:Option Int)(n:Nat):(sliceBounds lo hi none n).1=((HT.sIx n 0 lo:Nat):Int)/\(sliceBounds lo hi none n).2.1=((HT.sIx n n hi:Nat):Int)/\(sliceBounds lo hi none n).2.2=1:=by
 refine⟨?_,?_,rfl⟩
 ·cases lo with
  | none=>simp [sliceBounds,HT.sIx]
  | some i =>
   simp only [sliceBounds,HT.sIx,Option.getD_none,show(1:Int) > 0 by decide,if_true]
   by_cases h:i<0
   ·simp only [h,if_true] <;> omega
   ·simp only [h,if_false] <;> omega
 ·cases hi with
  | none=>simp [sliceBounds,HT.sIx]
  | some i =>
   simp only [sliceBounds,HT.sIx,Option.getD_none,show(1:Int) > 0 by decide,if_true]
   by_cases h:i<0
   ·simp only [h,if_true] <;> omega
   ·simp only [h,if_false] <;> omega
theorem slicePick_cut(its:List Value)(lo hi:Option Int):slicePick its.toArray lo hi none=((its.drop (HT.sIx its.length 0 lo)).take (HT.sIx its.length its.length hi-HT.sIx its.length 0 lo)).toArray:=by
 obtain⟨h1,h2,h3⟩:=slice_bounds lo hi its.toArray.size
 unfold slicePick
 rw [h1,h2,h3]
 simp only [sliceRange_one,pick_run,List.size_toArray] <;> rfl
def rSlL(K:PySem.W.Frag):V->Option Int->Option Int->Hp->VK->Prop:=fun x lo hi H Q=>∃ a xs,x=.ref a/\SqL K H a xs/\∀ p,H p=none->Q (.ref p) (upd H p (.lst (cutV xs lo hi)))
theorem sl_list:SlR X (rSlL X.K):=by
 intro pins s σ H x v vl vu lo hi sl Q I rx hs pl pu h
 obtain⟨a,xs,rfl,hx,q⟩:=h
 cases rx
 obtain⟨its,r,ht,hz⟩:=I.list hx
 have hlen:=r.length
 refine⟨"list",_,slot_list_getitem.lookup,ht.isList.typeIs,?_⟩
 refine wpAny_getItem_list_slice ht.isList hs pl pu .none (by simp) ?_ (by rw [List.size_toArray] <;> omega)
 rw [slicePick_cut,<-hlen]
 refine⟨.ref s.heap.objs.size,_,I.laid (t':=s.toks) (o:=.lst (cutV xs lo hi)) (fun b ob q=>Heap.get?_push_of_some _ q) (Nat.le_refl _) ?_,rfl,q _ (I.hok.fresh (Nat.le_refl _))⟩
 exact⟨Nat.le_trans (cutV_length xs lo hi) hz,_,0,(r.drop (HT.sIx xs.length 0 lo)).take (HT.sIx xs.length xs.length hi-HT.sIx xs.length 0 lo),Heap.get?_push_size _ rfl⟩
theorem call_len_seq:CallR X (.builtin "len") (fun xs H Q=>∃ p ys,xs = [.ref p]/\(SqL X.K H p ys\/SqT X.K H p ys)/\Q (.int ys.length) H):=by
 intro pins s σ H xs us Q I r h
 obtain⟨p,ys,rfl,hq,q⟩:=h
 obtain⟨u,rfl,rx⟩:=vals1 r
 cases rx
 have hn:=line63
 rcases hq with hq | hq
 ·obtain⟨its,r',pl,hz⟩:=I.list hq
  have hlen:=r'.length
  exact Calls.call_len_list pl.isList (by simp only [List.size_toArray] <;> omega) ⟨.int ys.length,H,I.tok _,⟨s.toks+1,by rw [List.size_toArray,hlen]⟩,q⟩
 ·obtain⟨its,r',pl,hz⟩:=I.tuple hq
  have hlen:=r'.length
  exact len_tuple pl (by simp only [List.size_toArray] <;> omega) ⟨.int ys.length,H,I.tok _,⟨s.toks+1,by rw [List.size_toArray,hlen]⟩,q⟩
theorem call_list_of:CallR X (.type "list") (fun xs H Q=>∃ p ys,xs = [.ref p]/\(SqL X.K H p ys\/SqT X.K H p ys)/\∀ l,H l=none->Q (.ref l) (upd H l (.lst ys))):=by
 intro pins s σ H xs us Q I r h
 obtain⟨p,ys,rfl,hq,q⟩:=h
 obtain⟨u,rfl,rx⟩:=vals1 r
 cases rx
 have fin:∀(its:List Value),Vals ys its->ys.length<=sizeLine->∀(h':Heap) (c':Nat),(∀ b o',s.heap.get? b=some o'->h'.get? b=some o') ->
   h'.get? s.heap.objs.size=some { cls:=.type "list",dict:=none,data:=.seq its.toArray c',slots:=#[] }->EP X pins σ Q (.ref s.heap.objs.size) { s with heap:=h' }:=fun its r' hz h' c' kp e =>
  ⟨.ref s.heap.objs.size,_,I.laid (t':=s.toks) kp (Nat.le_refl _) (show ObjOk X.prog X.w _ h' _ (.lst ys) from⟨hz,its,c',r',e⟩),rfl,q _ (I.hok.fresh (Nat.le_refl _))⟩
 rcases hq with hq | hq
 ·obtain⟨its,r',pl,hz⟩:=I.list hq
  have hlen:=r'.length
  obtain⟨o,ho,hc,n,hd⟩:=pl.isList
  exact call_list_seq p (.inl rfl) ho hc hd (fun h' c' kp e=>fin its r' hz h' c' kp e) (by simp only [List.size_toArray] <;> omega)
 ·obtain⟨its,r',pl,hz⟩:=I.tuple hq
  have hlen:=r'.length
  obtain⟨o,ho,hc,n,hd⟩:=pl
  exact call_list_seq p (.inr rfl) ho hc hd (fun h' c' kp e=>fin its r' hz h' c' kp e) (by simp only [List.size_toArray] <;> omega)
theorem call_tuple_of:CallR X (.type "tuple") (fun xs H Q=>∃ p ys,xs = [.ref p]/\((SqL X.K H p ys/\∀ l,H l=none->Q (.ref l) (upd H l (.tup ys)))\/(SqT X.K H p ys/\Q (.ref p) H))):=by
 intro pins s σ H xs us Q I r h
 obtain⟨p,ys,rfl,h⟩:=h
 obtain⟨u,rfl,rx⟩:=vals1 r
 cases rx
 rcases h with⟨hq,q⟩ | ⟨hq,q⟩
 ·obtain⟨its,r',pl,hz⟩:=I.list hq
  have hlen:=r'.length
  refine call_tuple_list pl.isList (fun h' kp=>?_) (by simp only [List.size_toArray] <;> omega)
  have I1:Inv X pins σ H { s with heap:=h' }:=I.kept (t':=s.toks) kp
  have I2:Inv X pins σ (upd H h'.objs.size (.tup ys)) { s with heap:=h'.push { cls:=.type "tuple",data:=.seq its.toArray } } :=
   I1.laid (t':=s.toks) (fun b o e=>Heap.get?_push_of_some _ e) (Nat.le_refl _) (show ObjOk X.prog X.w _ _ _ (.tup ys) from⟨hz,its,r',TupD.new _ _⟩)
  exact⟨.ref h'.objs.size,_,I2,rfl,q _ (I1.hok.fresh (Nat.le_refl _))⟩
 ·obtain⟨its,r',pl,hz⟩:=I.tuple hq
  exact call_tuple_same pl ⟨.ref p,H,I,rfl,q⟩
def tyV(K:PySem.W.Frag)(T:String)(x:V)(H:Hp):Prop:=match x with
 | .str _=>T = "str"
 | .int _=>T = "int"
 | .ref p=>(T = "list" /\ ∃ xs,SqL K H p xs)\/(T = "tuple" /\ ∃ xs,SqT K H p xs) \/
   (T = "dict" /\((∃ kvs,H p=some (.dK kvs))\/∃ kvs,H p=some (.dT kvs)))\/(T = "set" /\ ∃ S n,H p=some (.set S n))
 | _=>False
theorem tyV_is{pins:List (Addr×Obj)}{σ:St}{H:Hp}{s:Shared}{T:String}{x:V}{v:Value}(I:Inv X pins σ H s)(r:RelV x v)(ty:tyV X.K T x H):
  s.TypeIs v T/\∀ a,v=.ref a->∃ ob,s.heap.get? a=some ob/\ob.dict=none:=by
 cases x with
 | str z =>
  obtain⟨t,rfl⟩:=r
  cases (show T = "str" from ty)
  exact⟨typeIs_str s z t,fun _ e=>nomatch e⟩
 | int i =>
  obtain⟨t,rfl⟩:=r
  cases (show T = "int" from ty)
  exact⟨typeIs_int s i t,fun _ e=>nomatch e⟩
 | ref p =>
  cases r
  rcases ty with⟨rfl,xs,hq⟩ | ⟨rfl,xs,hq⟩ | ⟨rfl,hk⟩ | ⟨rfl,S,n,hk⟩
  ·obtain⟨its,_,pl,_⟩:=I.list hq
   refine⟨pl.isList.typeIs,fun a e=>?_⟩
   cases e
   obtain⟨o,n,e,c,hd,_⟩:=pl
   exact⟨o,e,hd⟩
  ·obtain⟨its,_,pl,_⟩:=I.tupleD hq
   refine⟨pl.isTup.typeIs,fun a e=>?_⟩
   cases e
   obtain⟨o,e,_,_,hd⟩:=pl
   exact⟨o,e,hd⟩
  ·have z:∃ o,s.heap.get? p=some o/\o.ExactDict:=by
    rcases hk with⟨kvs,hk⟩ | ⟨kvs,hk⟩
    ·obtain⟨_,_,_,_,o,_,_,e,ex,_⟩:=I.hok p _ hk
     exact⟨o,e,ex⟩
    ·obtain⟨_,_,_,_,o,_,_,e,ex,_⟩:=I.hok p _ hk
     exact⟨o,e,ex⟩
   obtain⟨o,e,ex⟩:=z
   refine⟨⟨o,e,ex.1⟩,fun a e2=>?_⟩
   cases e2
   exact⟨o,e,ex.2.1⟩
  ·obtain⟨o,_,_,_,e,ex,_⟩:=I.hok p _ hk
   refine⟨⟨o,e,ex.1⟩,fun a e2=>?_⟩
   cases e2
   exact⟨o,e,ex.2.1⟩
 | _=>exact False.elim ty
def tBM(K:PySem.W.Frag)(T:String)(r:V->List V->Hp->VK->Prop)(to:TE)(t:TA):TE:=fun σ H Q=>to σ H fun x H1=>tyV K T x H1/\t σ H1 fun xs H2=>r x xs H2 Q
variable {o e:Expr}{es:List Expr}{to:TE}{t:TA}{name:Str}{apos cpos:Pos}{T id:String}{r:V->List V->Hp->VK->Prop}
theorem pe_bm(pa:PlainAttrs T)(slot:Slot T name id)(hty:typeOf (.builtin id)=pure (.type "method_descriptor"))(hm:MtR X id r)(ho:PE X o to)(ha:PA X (e::es) t)
  (hbase:attributeBase o name X.env (eval o X.env)=eval o X.env:=by rfl)
  (hfew:((backTo cpos (starEach (e::es) X.env)).all (fun x=>!x.1) && (backToKw cpos (keywordEach [] X.env)).all (fun x=>x.1.isSome)
   && decide ((e::es).length+([]:List Keyword).length+(if ([]:List Keyword).isEmpty then 0 else 1)<30))=true:=by rfl)
  (hline:(apos.endLine == cpos.line)=true:=by rfl) (hs:starEach (e::es) X.env=(false,eval e X.env)::starEach es X.env:=by rfl) (hplain:(backTo cpos (starEach es X.env)).any (·.1)=false:=by rfl) :
  PE X (.Call (.Attribute o name apos) (e::es) [] cpos) (tBM X.K T r to t):=by
 intro pins s σ H Q I h
 refine wpAny_Call_method_late hbase hfew hline rfl (thn (ho pins s σ H _ I h) fun v s1 ⟨x,H1,I1,r1,ty,q1⟩=>?_)
 obtain⟨h1,h2⟩:=tyV_is I1 r1 ty
 refine⟨T,id,pa,slot,hty,h1,h2,?_⟩
 have hA:=ha cpos pins s1 σ H1 _ I1 q1
 rw [hs] at hA ⊢
 refine Calls.callWith_builtin (by show(false || (backTo cpos (starEach es X.env)).any (·.1))=false;rw [hplain] <;> rfl) (Calls.evalArgs_plain ?_)
 exact thn hA fun us s2 ⟨vs,H2,I2,r2,q2⟩=>hm pins s2 σ H2 x vs v us Q I2 r1 r2 q2
end
def MtM(X:Cx)(id:String)(r:V->List V->Hp->VK->Prop):Prop :=
 ∀(pins:List (Addr×Obj)) (s:Shared) (σ:St) (H:Hp) (x:V) (xs:List V) (v:Value) (us:List Value) (Q:VK),Inv X pins σ H s->RelV x v->Vals xs us->r x xs H Q ->
  wpAny (model X.prog X.w) X.A (call (.builtin id) (v::us)) (EP X pins σ Q) X.xe s
theorem Vals.one:∀{x:V} {us:List Value},Vals [x] us->∃ u,us = [u]/\RelV x u
 | _,_,.cons r .nil=>⟨_,rfl,r⟩
theorem Vals.two:∀{x y:V} {us:List Value},Vals [x,y] us->∃ u v,us = [u,v]/\RelV x u/\RelV y v
 | _,_,_,.cons r (.cons q .nil)=>⟨_,_,rfl,r,q⟩
theorem Vals.zero:∀{us:List Value},Vals [] us->us = []
 | _,.nil=>rfl
theorem Vals.reverse{xs:List V}{us:List Value}(h:Vals xs us):Vals xs.reverse us.reverse:=by
 induction h with
 | nil=>exact .nil
 | cons r t ih=>rw [List.reverse_cons,List.reverse_cons];exact Vals.append ih (.cons r .nil)
theorem Vals.rep{xs:List V}{us:List Value}(h:Vals xs us):∀ k:Nat,Vals (List.replicate k xs).flatten (List.replicate k us).flatten
 | 0=>.nil
 | k+1=>by
  rw [List.replicate_succ,List.replicate_succ,List.flatten_cons,List.flatten_cons]
  exact Vals.append h (Vals.rep h k)
theorem foldl_rep(its:List Value):∀(k:Nat) (acc:List Value),
  List.foldl (fun x1 x2=>x1++x2) acc.toArray (List.replicate k its.toArray)=(acc++(List.replicate k its).flatten).toArray
 | 0,acc=>by simp
 | k+1,acc=>by
  have e:acc.toArray++its.toArray=(acc++its).toArray:=by simp
  have e2:(acc++its)++(List.replicate k its).flatten=acc++(List.replicate (k+1) its).flatten:=by
   rw [List.replicate_succ,List.flatten_cons,List.append_assoc]
  rw [<-e2,<-foldl_rep its k (acc++its),<-e,List.replicate_succ,List.foldl_cons]
section
variable {X:Cx}{pins:List (Addr×Obj)}{σ:St}{H:Hp}{s:Shared}{l b:Addr}{xs ys zs:List V}
theorem Inv.lset{its its':List Value}{n:Nat}{f:Array Value->Array Value}{t':Nat}(I:Inv X pins σ H s)(hH:H l=some (.lst xs))
  (e:s.heap.get? l=some { cls:=.type "list",data:=.seq its.toArray n }) (hf:f its.toArray=its'.toArray) (hv:Vals ys its') (hz:ys.length<=sizeLine) :
  Inv X pins σ (upd H l (.lst ys)) { s with heap:=s.heap.update l (Obj.mapSeq f),toks:=t' }:=by
 have q:=PySem.IsL.update e f
 rw [hf] at q
 refine I.write (x:=l) (e:=l) (by rw [hH];exact trivial) (.inl rfl) (fun b' u hb hu=>(Heap.get?_update_other s.heap (Obj.mapSeq f) (Ne.symm hb)).trans hu) ⟨_,q⟩ ?_
 exact⟨hz,its',_,hv,q⟩
theorem Inv.lnew{its:List Value}{t':Nat}(I:Inv X pins σ H s)(hv:Vals ys its)(hz:ys.length<=sizeLine):
  Inv X pins σ (upd H s.heap.objs.size (.lst ys)) { s with heap:=s.heap.push { cls:=.type "list",data:=.seq its.toArray },toks:=t' } :=
 I.laid (fun _ _ q=>Heap.get?_push_of_some _ q) (Nat.le_refl _) ⟨hz,its,0,hv,Heap.get?_push_size _ rfl⟩
theorem Inv.fresh(I:Inv X pins σ H s):H s.heap.objs.size=none:=I.hok.fresh (Nat.le_refl _)
theorem Inv.lstM(I:Inv X pins σ H s)(hH:H l=some (.lst xs)):xs.length<=sizeLine/\∃(its:List Value) (n:Nat),Vals xs its/\xs.length=its.length/\s.heap.get? l=some { cls:=.type "list",data:=.seq its.toArray n }:=by
 obtain⟨z,its,n,r,e⟩:=I.hok l _ hH
 exact⟨z,its,n,r,r.length,e⟩
theorem notLongL{n:Nat}(h:n<=sizeLine):Builtin.List.listTooLong n=false:=by
 unfold Builtin.List.listTooLong
 exact decide_eq_false (by omega)
end
section
variable {X:Cx}
def rAppend:V->List V->Hp->VK->Prop:=fun x vs H Q=>∃ l xs y,x=.ref l/\vs = [y]/\H l=some (.lst xs)/\xs.length<sizeLine/\Q .non (upd H l (.lst (xs ++ [y])))
theorem mt_append:MtM X "list.append" rAppend:=by
 intro pins s σ H x vs v us Q I rx rv h
 obtain⟨l,xs,y,rfl,rfl,hH,hz,q⟩:=h
 cases rx
 obtain⟨u,rfl,ru⟩:=rv.one
 obtain⟨z,its,n,r,hl,e⟩:=I.lstM hH
 refine call_meets F.slot_list_append ⟨_,e,rfl⟩ F.entry_list_append (F.args_list_append_2 _ _) (PySem.list_append l its.toArray n u (by rw [List.size_toArray];omega)) ⟨e,?_⟩
 refine⟨.non,_,I.lset (its':=its ++ [u]) hH e (by simp) (r.append (.cons ru .nil)) ?_,rfl,q⟩
 rw [List.length_append,List.length_singleton]
 omega
theorem len_rep{α:Type}(xs:List α)(k:Nat):(List.replicate k xs).flatten.length=k * xs.length:=by
 induction k with
 | zero=>simp
 | succ k ih=>rw [List.replicate_succ,List.flatten_cons,List.length_append,ih,Nat.succ_mul,Nat.add_comm]
end
section
variable {prog:Program}{w:World}{A:Around}{E:Value->Shared->Prop}{s:Shared}
end
section
variable {X:Cx}
end
end L2
namespace Att
open PySem PySem.W PySem.Calls PyProof.Rows
theorem ints_of_wellAll{P:Params}{h:Heap}:∀(ns:List Int) (vs:List Value),WellAll P h vs (ns.map WData.int)->IntsAre vs ns:=by
 intro ns
 induction ns with
 | nil =>
  intro vs w
  rw [List.map_nil] at w
  cases w
  exact .nil
 | cons n ns ih =>
  intro vs w
  rw [List.map_cons] at w
  cases w with
  | cons a b =>
   cases a
   exact .cons _ _ (ih _ b)
theorem script_of{l:OpenLaw}{n:Nat}(hn:l.most=some n){P:Params}{h:Heap}{args:List WData}{vals:List Value}
  (hpre:l.row.toRowW.claim.pre args=true) (hwl:WellAll P h vals args) :
  ∃ a vs ns,vals = [Value.ref a]/\args = [WData.list (ns.map WData.int)]/\h.get? a=some { cls:=.type "list",data:=.seq vs.toArray }/\IntsAre vs ns/\ns.length<=n:=by
 have hsh:WShape.hasAll [] args [.list .int]=true:=(pre_splitW hpre).1
 have hc:l.pre.holds [] { args:=args }=true:=(pre_splitW hpre).2
 obtain⟨d,r,rfl,h1,h2⟩:=hasAllW_cons hsh
 obtain rfl:=hasAllW_nil h2
 obtain⟨xs,rfl,h3⟩:=hasW_list h1
 obtain⟨ns,rfl⟩:=items_int h3
 have hlen:ns.length<=n:=by
  unfold OpenLaw.pre at hc
  have h4:(WTm.not (.lt (.lit (.int (n:Int))) (.len (.arg 0)))).holds [] { args:=[.list (ns.map .int)] }=true:=by
   have h4:=(holds_andW hc).1
   rw [hn] at h4
   exact h4
  have h5:=condW_of h4 (w_not (w_lt w_lit (w_len_list (w_arg rfl))))
  rw [List.length_map] at h5
  refine Nat.le_of_not_lt fun q=>?_
  have q':(n:Int)<((ns.length:Nat):Int):=by omega
  first
   | (rw [decide_eq_true q'] at h5;exact absurd h5 (by decide))
   | (simp at h5;omega)
 cases hwl with
 | cons w1 w2 =>
  cases w2
  cases w1 with
  | list ho hall=>exact⟨_,_,ns,rfl,rfl,ho,ints_of_wellAll ns _ hall,hlen⟩
theorem post_true(l:OpenLaw)(args:List WData):l.row.toRowW.claim.post args (.bool true) args=true :=
 postW_of (r:=l.row.toRowW) (X:=(true == true))
  (show WShape.has [] (.bool true) .bool=true by first | rfl | decide | simp [WShape.has,WShape.arms,WShape.armsAll])
  (show(WTm.eq .res (.lit (.bool true))).value [] { args:=args,res:=some (.bool true),after:=args }=some (.bool (true == true)) from w_eq_bool (w_res rfl) w_lit) rfl
theorem attach_call{l:OpenLaw}{n:Nat}{q:Program}{loose:List Str}{XP:(Str->Option Value)->Heap->Prop}{YP:World->Heap->Prop}{d:DefRec}
  (hn:l.most=some n) (hdf:d.params.defaults = [])
  (call:∀(w:World) (s₀ s₁:Shared) (mg mb:Str->Option Value) (fa:Addr) (o:Obj) (pm cd doc:Value) (a:Addr) (vs:List Value) (ns:List Int),
   Ground q loose [] XP w s₀ mg mb s₁.heap->YP w s₁.heap ->
   s₁.heap.get? fa=some o->o.data=.func (docDef d.name d.params d.body d.scope pm cd doc)->s₁.heap.CodeRec cd d.name->mg d.name=some (.ref fa) ->
   s₁.heap.get? a=some { cls:=.type "list",data:=.seq vs.toArray }->IntsAre vs ns->ns.length<=n->s₁.gens = #[] ->
   codeAny (model l.prog w) callerA (.call (.ref fa) ⟨[.ref a],[]⟩) (fun r s'=>r=.ok (.ret (.bool true))/\OldK s₁.heap s'.heap/\s'.os=s₁.os/\AllBare s'.gens) s₁) :
  WalkO q loose XP YP l.row.toRowW d [] (fun f vs=>PySem.call f vs):=by
 intro w s₀ s₁ mg mb G Y fa o pm cd doc dV kV ho hd hcd hD hmg hg args vals as hpre hlay hrd hwl hlo
 obtain rfl:dV=.none:=Dflts.none hD hdf
 obtain rfl:kV=.none:=Dflts.noKw hD
 obtain⟨a,vs,ns,rfl,rfl,hobj,hints,hlen⟩:=script_of hn hpre hwl
 refine enter_call (codeAny_mono (call w s₀ s₁ mg mb fa o pm cd doc a vs ns G Y ho (fd_plain hd) hcd hmg hobj hints hlen hg) fun r s' hq=>?_)
 obtain⟨rfl,h2,h3,h4⟩:=hq
 exact⟨.inl ⟨.bool true,.bool true,[],rfl,fun _=>rfl,.bool true,post_true l _,fun _=>⟨List.Pairwise.nil,fun _ hm=>(nomatch hm)⟩⟩,h2,h3,h4⟩
section
variable {prog:Program}{w:World}{A:Around}{E:Value->Shared->Prop}{s:Shared}{K:Frag}
end
end Att
namespace L2
open PySem PySem.Spec PyProof.Rows
theorem vals_ints:∀{vs:List Value} {ns:List Int},IntsAre vs ns->Vals (ns.map V.int) vs
 | _,_,.nil=>.nil
 | _,_,.cons n t h=>.cons ⟨t,rfl⟩ (vals_ints h)
def Only(H:Hp):Prop:=∀ b,H b=none\/∃ o xs,H b=some (.frz o (.lst xs))
theorem law_call{P:Program}{w:World}{K:PySem.W.Frag}{mg mb:Str->Option Value}{CX:CXT}{k:Nat}{fa a:Addr}{fd:FuncData}{x:Str}{sp:Sp}{s₁:Shared}{vs:List Value}{ns:List Int}
  (KX:K.In s₁.heap) (hns:s₁.heap.Ns mainGlobals mg) (hb:s₁.heap.Ns builtinsNs mb) (hbb:∀ x:Str,x ≠ "__name__" -> mb x=bootBuiltins x) (hlim:s₁.heap.NoLimit) (hg:s₁.gens = #[])
  (ha:s₁.heap.get? a=some { cls:=.type "list",data:=.seq vs.toArray }) (hi:IntsAre vs ns) (hl:ns.length<=sizeLine) (hr:Room k callerA)
  (F:∀ base:Heap,K.In base->base.Ns mainGlobals mg->FnOk P w K mg base CX k fa fd [x] sp) (hbind:∀(s:Shared) (u:Value),BindsTo s fd ⟨[u],[]⟩ [(x,u)])
  (hsp:∀ H:Hp,Only H->SqL K H a (ns.map V.int)->sp [.ref a] H (fun v _=>v=.bl true) fun _ _ _=>False)
  (hCX:∀ H e s',CX [] H s₁ (fun _ _ _=>False) e s'->False) :
  codeAny (model P w) callerA (.call (.ref fa) ⟨[.ref a],[]⟩) (fun r s'=>r=.ok (.ret (.bool true))/\OldK s₁.heap s'.heap/\s'.os=s₁.os/\AllBare s'.gens) s₁:=by
 have rv:=vals_ints hi
 have lenV:=hi.length
 -- from an abstract heap in which nothing but the script may be tracked
 have core:∀ H:Hp,Only H->SqL K H a (ns.map V.int)->HOk P w H s₁.heap->(∀ b,H b≠none->b=a)->(H a≠none->K.lookup a=none) ->
   codeAny (model P w) callerA (.call (.ref fa) ⟨[.ref a],[]⟩) (fun r s'=>r=.ok (.ret (.bool true))/\OldK s₁.heap s'.heap/\s'.os=s₁.os/\AllBare s'.gens) s₁:=by
  intro H hO hS hok hA hK
  have base_of:∀{b:Addr} {o:Obj},s₁.heap.get? b=some o->H b=none->(hidT s₁.heap H).get? b=some o:=fun e n=>hidT_get e n
  have noA:∀{b:Addr} {o:Obj} {es:Array DictEntry} {ep:Nat},s₁.heap.get? b=some o->o.data=.dict es ep->H b=none:=fun{b o es ep} e d=>by
   cases q:H b with
   | none=>rfl
   | some u =>
    have e':b=a:=hA b (by rw [q];simp)
    subst e'
    rw [ha] at e;cases e
    have d':Data.seq vs.toArray _=Data.dict es ep:=d
    cases d'
  have nsK:∀{b:Addr} {m:Str->Option Value},s₁.heap.Ns b m->(hidT s₁.heap H).Ns b m:=fun{b m} ⟨o,es,ep,e,d,r⟩=>⟨o,es,ep,base_of e (noA e d),d,r⟩
  have hKb:K.In (hidT s₁.heap H):=fun b o e=>base_of (KX b o e) (by
   cases q:H b with
   | none=>rfl
   | some u =>
    have e':b=a:=hA b (by rw [q];simp)
    subst e'
    rw [hK (by rw [q];simp)] at e;cases e)
  have hM:Mod K mg (hidT s₁.heap H):=⟨hKb,nsK hns,⟨mb,nsK hb,hbb⟩,let ⟨mc,h1,h2⟩:=hlim;⟨mc,nsK h1,h2⟩⟩
  have e0:Env0 P w K mg (hidT s₁.heap H) callerA [] s₁ H:=⟨rfl,hM,fun b o e=>of_hidT e,Nat.le_of_eq (hidT_size _ _),trivial,fun b hb=>absurd (show b∈([]:List Addr) from hb) (by simp),hok,.of_eq hg⟩
  refine codeAny_mono ((F _ hKb (nsK hns)).run callerA [] s₁ H ⟨[.ref a],[]⟩ [.ref a] [.ref a] _ _ hr e0 (hbind s₁ (.ref a)) (.cons rfl .nil) (hsp H hO hS)) fun r s' h=>?_
  cases r with
  | error e=>exact(hCX H e s' h).elim
  | ok fl =>
   cases fl with
   | next=>exact False.elim h
   | brk=>exact False.elim h
   | cont=>exact False.elim h
   | ret u =>
    obtain⟨v,H',os,bare,un,hok',r',q⟩:=h
    have q':v=.bl true:=q
    subst q'
    obtain rfl:u=Value.bool true:=r'
    refine⟨rfl,OldK.of_keep fun b o e=>?_,os,bare⟩
    cases q:H b with
    | none=>exact un.keep b o e q (by intro z;exact absurd (show b∈([]:List Addr) from z) (by simp)) (by simp)
    | some u =>
     rcases hO b with z | ⟨ob,xs,z⟩
     ·rw [q] at z;cases z
     ·have z2:=un.frzs b ob _ z
      obtain⟨e1,_⟩:=hok b _ z
      obtain⟨e2,_⟩:=hok' b _ z2
      rw [e] at e1;cases e1
      exact e2
 cases hk:K.lookup a with
 | some o =>
  -- the script is one of the module's own objects
  have e:=KX a o hk
  rw [ha] at e
  cases e
  refine core (fun _=>none) (fun _=>.inl rfl) (.inr ⟨_,vs.toArray,_,hk,rfl,rfl,rfl,by rw [List.size_toArray,lenV];exact hl,by simpa using rv⟩) (fun b u z=>by have z':(none:Option HO)=some u:=z;cases z') (fun b z=>absurd rfl z) fun z=>absurd rfl z
 | none =>
  refine core (fun b=>if b=a then some (.frz { cls:=.type "list",data:=.seq vs.toArray } (.lst (ns.map V.int))) else none) (fun b=>?_) (.inl (.inr ⟨{ cls:=.type "list",data:=.seq vs.toArray },if_pos rfl⟩)) (fun b u z=>?_) (fun b z=>?_) fun _=>hk
  ·by_cases hb:b=a
   ·exact .inr ⟨_,_,if_pos hb⟩
   ·exact .inl (if_neg hb)
  ·by_cases hb:b=a
   ·have z':=(if_pos hb).symm.trans z
    cases z'
    subst hb
    exact⟨ha,by rw [List.length_map];exact hl,vs,_,rv,ha⟩
   ·have z':=(if_neg hb).symm.trans z
    cases z'
  ·by_cases hb:b=a
   ·exact hb
   ·exact absurd (if_neg hb) z
theorem walk_of{l:PySem.W.OpenLaw}{n k:Nat}{q:Program}{loose:List Str}{XP:(Str->Option Value)->Heap->Prop}{YP:World->Heap->Prop}{d:DefRec}{K:Params->PySem.W.Frag}{CX:World->CXT}{sp:World->Sp}{x:Str}
  (hn:l.most=some n) (hn2:n<=sizeLine) (hdf:d.params.defaults = []) (hr:Room k callerA)
  (hY:∀(w:World) (h:Heap),YP w h->(K w.params).In h)
  (F:∀(w:World) (mg:Str->Option Value) (fa:Addr) (h:Heap),(K w.params).In h->h.Ns mainGlobals mg->mg d.name=some (.ref fa) ->
   ∃ fd:FuncData,(∀(s:Shared) (u:Value),BindsTo s fd ⟨[u],[]⟩ [(x,u)]) /\
    ∀ base:Heap,(K w.params).In base->base.Ns mainGlobals mg->FnOk l.prog w (K w.params) mg base (CX w) k fa fd [x] (sp w))
  (hsp:∀(w:World) (H:Hp) (a:Addr) (ns:List Int),ns.length<=n->Only H->SqL (K w.params) H a (ns.map V.int)->sp w [.ref a] H (fun v _=>v=.bl true) fun _ _ _=>False)
  (hCX:∀(w:World) (H:Hp) (s:Shared) (e:Value) (s':Shared),CX w [] H s (fun _ _ _=>False) e s'->False) :
  PySem.W.WalkO q loose XP YP l.row.toRowW d [] (fun f vs=>PySem.call f vs):=by
 refine Att.attach_call hn hdf fun w s₀ s₁ mg mb fa o pm cd doc a vs ns G Y ho hd hcd hmg hobj hints hlen hg=>?_
 have KX:=hY w _ Y
 obtain⟨fd,hb,hF⟩:=F w mg fa _ KX G.T.g hmg
 exact law_call KX G.T.g G.T.b G.T.builtins G.T.nolimit hg hobj hints (Nat.le_trans hlen hn2) hr hF hb (fun H hO hS=>hsp w H a ns hlen hO hS) fun H e s'=>hCX w H s₁ e s'
def defArgs(s:Stmt):Arguments:=match s with
 | .FunctionDef _ a _ _ _ _ _ _ _ _=>a
 | _=>{ posonlyargs:=[],args:=[],vararg:=none,kwonlyargs:=[],kw_defaults:=[],kwarg:=none,defaults:=[] }
def defBody(s:Stmt):List Stmt:=match s with
 | .FunctionDef _ _ b _ _ _ _ _ _ _=>b
 | _=>[]
def defScope(s:Stmt):Scope:=match s with
 | .FunctionDef _ _ _ _ _ _ sc _ _ _=>sc
 | _=>{ kind:=.function,names:=[],isGenerator:=false,isCoroutine:=false }
abbrev CX0:CXT:=fun _ _ _ _ _ _=>False
abbrev E0:XK:=fun _ _ _=>False
theorem pass0{X:Cx}:Passes CX0 X E0:=fun _ _ _ _ _ _ _ h=>h.elim
structure Fun(K:PySem.W.Frag)(x qual:Str)(st:Stmt)(f:Addr)(fd:FuncData):Prop where
 ex:∃(oc:Value) (od:Option Addr) (kV doc pm:Value) (an:Option Addr) (cdv ct:Value) (osl:Array (Option Value)),
  fd=PySem.W.fnOf x qual (defArgs st) (defBody st) (defScope st) .none kV doc pm an cdv ct/\K.lookup f=some ⟨oc,od,.func fd,osl⟩/\PySem.W.codeIn K cdv qual=true
 kp:PySem.W.keepIn K (.ref f)=true
section
variable {P:Program}{w:World}{K:PySem.W.Frag}{mg:Str->Option Value}{base:Heap}
theorem Fun.ok{x qual:Str}{st:Stmt}{f:Addr}{fd:FuncData}{N ps:List Str}{k:Nat}{sp:Sp}(F:Fun K x qual st f fd)(S:FnScope N ps (defScope st))(len:∀ vs H Q E,sp vs H Q E->vs.length=ps.length)
  (hbody:∀(cdv:Value) (A:Around) (outer:List Env) (s:Shared) (H:Hp) (vs:List V) (Q:VK) (E:XK),Room k (A.deeper (envOfC qual (defScope st) s.heap.objs.size f cdv))->sp vs H Q E ->
   ∃ t,PSs (cxOf CX0 P w K mg base N qual (defScope st) f cdv A outer s H E).nox (defBody st) t/\t { nx:=fun _ H'=>Q .non H',rt:=Q } (start N vs) H):FnOk P w K mg base CX0 (k+1) f fd ps sp:=by
 obtain⟨oc,od,kV,doc,pm,an,cdv,ct,osl,rfl,lk,hcd⟩:=F.ex
 refine fn_of lk hcd S len fun A outer s H vs Q E hr hsp=>?_
 obtain⟨t,h,q⟩:=hbody cdv A outer s H vs Q E hr hsp
 exact⟨t,h.nox,q⟩
theorem Fun.binds{x qual:Str}{st:Stmt}{f:Addr}{fd:FuncData}{ps:List Str}(F:Fun K x qual st f fd)
  (h:∀(kV doc pm:Value) (an:Option Addr) (cdv ct:Value) (us:List Value),us.length=ps.length->bindArgs (PySem.W.fnOf x qual (defArgs st) (defBody st) (defScope st) .none kV doc pm an cdv ct) ⟨us,[]⟩=pure (ps.zip us)):Binds K fd ps []:=by
 obtain⟨oc,od,kV,doc,pm,an,cdv,ct,osl,rfl,lk,hcd⟩:=F.ex
 exact .all (h kV doc pm an cdv ct)
theorem fun_mk{x qual:Str}{st:Stmt}{f:Addr}{oc:Value}{od an:Option Addr}{osl:Array (Option Value)}{kV doc pm cdv ct:Value}(l:K.lookup f=some ⟨oc,od,.func (PySem.W.fnOf x qual (defArgs st) (defBody st) (defScope st) .none kV doc pm an cdv ct),osl⟩)
  (c:PySem.W.codeIn K cdv qual=true) (k:PySem.W.keepIn K (.ref f)=true):Fun K x qual st f (PySem.W.fnOf x qual (defArgs st) (defBody st) (defScope st) .none kV doc pm an cdv ct):=⟨⟨oc,od,kV,doc,pm,an,cdv,ct,osl,rfl,l,c⟩,k⟩
end
section
variable {X:Cx}
theorem pv(i:Nat){x:Str}{pos:Pos}(hN:X.N[i]?=some x:=by rfl)(hv:Vis X.env.scope x:=by first | exact Or.inl rfl | exact Or.inr (Or.inl rfl) | exact Or.inr (Or.inr rfl))(hd:(x == ("__debug__" : Str))=false:=by decide)
  (hcd:(x == ("__classdict__" : Str))=false:=by decide):PE X (.Name x pos) (tVar i):=pe_var hN hv hd hcd
end
theorem iteF{A B:Prop}(h:B):if false=true then A else B:=by
 rw [if_neg Bool.false_ne_true]
 exact h
theorem ite2{c A B:Prop}[Decidable c](h1:c->A)(h2:¬ c->B):if c then A else B:=by
 by_cases h:c
 ·rw [if_pos h]
  exact h1 h
 ·rw [if_neg h]
  exact h2 h
def Same(H H':Hp):Prop:=∀ b o,H b=some o->H' b=some o
theorem Same.refl(H:Hp):Same H H:=fun _ _ h=>h
theorem Same.trans{H H1 H2:Hp}(a:Same H H1)(b:Same H1 H2):Same H H2:=fun c o h=>b c o (a c o h)
theorem Same.free{H H':Hp}(e:Same H H'){l:Addr}(h:H' l=Option.none):H l=Option.none:=by
 cases q:H l with
 | none=>rfl
 | some o =>
  rw [e l o q] at h
  cases h
theorem Same.seq{K:PySem.W.Frag}{H H':Hp}{a:Addr}{xs:List V}(e:Same H H')(h:SqL K H a xs):SqL K H' a xs:=by
 rcases h with(h | ⟨o,h⟩) | h
 ·exact .inl (.inl (e _ _ h))
 ·exact .inl (.inr ⟨o,e _ _ h⟩)
 ·exact .inr h
theorem compLoop_any{prog:Program}{w:World}{A:Around}{R:Result->Shared->Prop}{s:Shared}{elt target iter:Expr}{ifs:List Expr}{scope:Scope}{pos:Pos}{it acc:Value}{env:Env}(I:Nat->Shared->Prop)
  (turn:∀ n s,I n s->wpAny (model prog w) A (pyNext it) (fun r s1=>match r with
   | none=>R (.ok .next) s1
   | some v=>wpAny (model prog w) A (letOwnedTupleGo target it v) (fun _ s1'=>wpAny (model prog w) A (assign target env v) (fun _ s2 =>
     wpAny (model prog w) A (forIn ifs true fun c r=>if r=true then do let ok <-isTrue c env (eval c env);pure (ForInStep.yield ok) else pure (ForInStep.yield r)) (fun ok s3 =>
      if ok=true then wpAny (model prog w) A (eval elt env) (fun x s4 =>
       wpAny (model prog w) A (call (.builtin "list.append") [acc,x]) (fun _ s5=>∃ m,m<n/\I m s5) (fun _ _=>False) s4) (fun _ _=>False) s3
      else ∃ m,m<n/\I m s3) (fun _ _=>False) s2) (fun _ _=>False) s1') (fun _ _=>False) s1) (fun _ _=>False) s)
  (n:Nat) (h:I n s) :
  codeAny (model prog w) A (.compLoop (.ListComp elt [⟨target,iter,ifs,0⟩] scope pos) 0 it acc env) R s:=by
 refine codeAny_loop rfl I (fun n s hI=>?_) n h
 show wpAny _ A ((compTurn (.ListComp elt [⟨target,iter,ifs,0⟩] scope pos) 0 it acc env).onRaise (fun x=>do noteFrame x env;theTreesLotGoes x)) _ _ s
 refine wpAny_noted ?_
 rw [compTurn_list]
 refine wpAny_bind (wpAny_standAt (wpAny_bind (wpAny_mono (turn n s hI) (fun r s₁ h₁=>?_) fun _ _ h'=>h'.elim)))
 cases r with
 | none=>exact wpAny_pure h₁
 | some v =>
  refine wpAny_bind (wpAny_mono h₁ (fun _ s₁' h₁'=>?_) fun _ _ h'=>h'.elim)
  refine wpAny_bind (wpAny_mono h₁' (fun _ s₂ h₂=>wpAny_bind (wpAny_mono h₂ (fun ok s₃ h₃=>?_) fun _ _ h'=>h'.elim)) fun _ _ h'=>h'.elim)
  cases ok with
  | false=>exact wpAny_pure ⟨rfl,h₃⟩
  | true =>
   exact wpAny_bind (wpAny_bind (wpAny_mono h₃ (fun x s₄ h₄=>wpAny_bind (wpAny_mono h₄ (fun _ s₅ h₅=>wpAny_pure (wpAny_pure ⟨rfl,h₅⟩)) fun _ _ h'=>h'.elim)) fun _ _ h'=>h'.elim))
inductive Capt(X:Cx)(scope:Scope)(cl:List (Str×Addr)):List Str->List Nat->Prop
 | nil:Capt X scope cl [] []
 | cons {x:Str} {j:Nat} {xs:List Str} {js:List Nat} (h1:X.N[j]?=some x) (h2:X.env.kindOf x=some .cell\/X.env.kindOf x=some .free) (h3:cl.lookup x=X.env.cells.lookup x)
  (h4:(relabel scope X.env).names.lookup x=some .cell\/(relabel scope X.env).names.lookup x=some .free) (t:Capt X scope cl xs js):Capt X scope cl (x::xs) (j::js)
theorem Capt.get{X:Cx}{scope:Scope}{cl:List (Str×Addr)}:∀{xs:List Str} {js:List Nat},Capt X scope cl xs js->xs.length=js.length/\∀(i:Nat) (x:Str) (j:Nat),xs[i]?=some x->js[i]?=some j->X.N[j]?=some x/\(X.env.kindOf x=some .cell\/X.env.kindOf x=some .free)/\cl.lookup x=X.env.cells.lookup x /\
  ((relabel scope X.env).names.lookup x=some .cell\/(relabel scope X.env).names.lookup x=some .free)
 | _,_,.nil=>⟨rfl,fun i x j h=>by simp at h⟩
 | _,_,.cons h1 h2 h3 h4 t=>⟨by simp [t.get.1],fun i x j hx hj=>by
  cases i with
  | zero=>simp at hx hj;subst hx hj;exact⟨h1,h2,h3,h4⟩
  | succ i=>exact t.get.2 i x j (by simpa using hx) (by simpa using hj)⟩
inductive SubC(X:Cx):List (Str×Addr)->Prop
 | nil:SubC X []
 | cons {x:Str} {c:Addr} {cl:List (Str×Addr)} (h:X.env.cells.lookup x=some c) (t:SubC X cl):SubC X ((x,c)::cl)
theorem SubC.of{X:Cx}:∀{cl:List (Str×Addr)},SubC X cl->∀ x c,cl.lookup x=some c->X.env.cells.lookup x=some c
 | _,.nil,x,c,h=>by simp at h
 | _,.cons (x:=y) (c:=d) h0 t,x,c,h=>by
  rw [List.lookup_cons] at h
  cases e:x == y with
  | true =>
   rw [e] at h
   have:x=y:=by simpa using e
   subst this
   rw [h0];simpa using h
  | false=>rw [e] at h;exact t.of x c (by simpa using h)
def cxLC(X:Cx)(N':List Str)(scope:Scope)(cl:List (Str×Addr))(C:Addr)(fp:List Addr)(s2:Shared)(H2:Hp):Cx where
 prog:=X.prog
 w:=X.w
 K:=X.K
 mg:=X.mg
 base:=X.base
 A:=X.A
 N:=N'
 s₀:=s2
 H₀:=H2
 env:=compEnvC scope cl C X.env
 outer:=X.stack
 stack:=X.stack
 ex:=fp
 fn:=fun _=>false
 calm:=true
 pn:=[]
 xe:=fun _ _=>False
def startLC(k:Nat)(js:List Nat)(σ:St):St:=List.replicate k none++js.map fun j=>(σ[j]?).join
def PTs(X:Cx)(ifs:List Expr)(t:TT):Prop :=
 ∀(pins:List (Addr×Obj)) (s:Shared) (σ:St) (H:Hp) (Q:Bool->Hp->Prop),Inv X pins σ H s->t σ H Q ->
  wpAny (model X.prog X.w) X.A (forIn ifs true fun c r=>if r=true then do let ok <-isTrue c X.env (eval c X.env);pure (ForInStep.yield ok) else pure (ForInStep.yield r)) (TP X pins σ Q) X.xe s
def tTrue:TT:=fun _ H Q=>Q true H
theorem pts_nil{X:Cx}:PTs X [] tTrue:=fun _ _ _ H _ I h=>wpAny_tests_nil ⟨H,I,h⟩
theorem pts_one{X:Cx}{c:Expr}{t:TT}(hc:PT X c t):PTs X [c] t:=fun pins s σ H Q I h=>wpAny_tests_one (hc pins s σ H Q I h)
def lcTurns(J:It)(D:Addr)(g:TG)(tt:TT)(te:TE)(σ0:St)(H1:Hp)(Q:VK):Prop :=
 ∃ W:Nat->Nat->St->Hp->Prop,(∃ m,W 0 m σ0 (upd H1 D (.lst [])))/\∀ i m σ H,W i m σ H ->
  (J.stop i H/\Q (.ref D) H)\/(J.go i H/\∀ x H',J.yld i H x H'->g x σ H' fun σ2 H2=>tt σ2 H2 fun b H3 =>
   if b=true then te σ2 H3 fun y H4=>∃ ys,H4 D=some (.lst ys)/\ys.length<sizeLine/\∃ m',m' < m/\W (i+1) m' σ2 (upd H4 D (.lst (ys ++ [y])))
   else ∃ m',m' < m/\W (i+1) m' σ2 H3)
def tLC(k:Nat)(js:List Nat)(wi:TI)(g:TG)(tt:TT)(te:TE):TE:=fun σ H Q=>wi σ H fun J H1=>∀ D,H1 D=none->lcTurns J D g tt te (startLC k js σ) H1 Q
section
variable {X:Cx}
theorem lc_ok{N':List Str}{scope:Scope}{cl:List (Str×Addr)}{fp:List Addr}{pins:List (Addr×Obj)}{σ:St}{H2:Hp}{s2:Shared}{C:Addr}(I:Inv X pins σ H2 s2)(hc:X.calm=true)(hkind:scope.kind=.function)(hC:s2.heap.objs.size<=C)
  (hsub:SubC X cl) (hhas:(relabel scope X.env).names.all (fun p=>(p.2 != .cell && p.2 != .free) || (cl.lookup p.1).isSome)=true)
  (hf:∀ b∈fp,FpOk X pins H2 b) (ho:∀ b∈fp,∃ o,s2.heap.get? b=some o/\∀ v,o.data ≠ .cell v):(cxLC X N' scope cl C fp s2 H2).Ok where
 mod:=I.ok.mod
 kind:=hkind
 glob:=I.ok.glob
 blt:=I.ok.blt
 above:=hC
 inj:=fun x y c h1 h2=>I.ok.inj x y c (hsub.of x c h1) (hsub.of y c h2)
 has:=fun x hx=>by
  have hx:(relabel scope X.env).names.lookup x=some .cell\/(relabel scope X.env).names.lookup x=some .free:=hx
  have key:∀ k,(relabel scope X.env).names.lookup x=some k->(k=.cell\/k=.free)->∃ c,cl.lookup x=some c:=fun k hk hkk=>by
   have hm:=PySem.mem_of_lookup hk
   have:=List.all_eq_true.mp hhas _ hm
   rcases hkk with rfl | rfl <;> exact Option.isSome_iff_exists.mp (by simpa using this)
  rcases hx with hx | hx
  ·exact key _ hx (.inl rfl)
  ·exact key _ hx (.inr rfl)
 cab:=fun x c h=>by cases h
 hd:=fun _=>I.ok.hd hc
 frames:=I.ok.frames
 stk:=.inl rfl
 exf:=fun b hb=>by
  obtain⟨o,e,_⟩:=ho b hb
  obtain⟨f0,f1,f2,f3,f4,f5⟩:=hf b hb
  exact⟨Nat.ne_of_lt (Nat.lt_of_lt_of_le (Heap.lt_size e) hC),fun x c h=>f4 x c (hsub.of x c h)⟩
 bs:=I.bs
 bsz:=Nat.le_trans I.ok.bsz I.sz
 noex:=fun b o e hb=>by
  obtain⟨f0,f1,f2,f3,f4,f5⟩:=hf b hb
  rcases f3 with z | z
  ·exact I.ok.noex b o e z
  ·exact absurd (Nat.lt_of_lt_of_le (Heap.lt_size e) (Nat.le_trans I.ok.bsz z)) (Nat.lt_irrefl _)
 exfs:=fun b hb z=>by
  obtain⟨f0,f1,f2,f3,f4,f5⟩:=hf b hb
  exact(List.mem_cons.mp (I.stkSub b z)).elim f1 f2
 funs:=I.stack
 frf:=I.stkFree
theorem lc_start{N' capt:List Str}{k:Nat}{js:List Nat}{scope:Scope}{cl:List (Str×Addr)}{fp:List Addr}{pins:List (Addr×Obj)}{σ:St}{H2:Hp}{s2:Shared}{D C:Addr}{h4:Heap}{t4:Nat}{m:Str->Option Value}(I:Inv X pins σ H2 s2)(ok:(cxLC X N' scope cl C fp s2 H2).Ok)
  (hD:s2.heap.objs.size<=D) (hC:s2.heap.objs.size<=C) (hDC:D≠C) (keep:∀ b o,s2.heap.get? b=some o->h4.get? b=some o) (hns:h4.Ns C m)
  (hl:h4.get? D=some { cls:=.type "list",data:=.seq #[] 0 })
  (hsub:SubC X cl) (hcap:Capt X scope cl capt js) (hN:N'=N'.take k++capt) (hk:k<=N'.length) :
  Inv (cxLC X N' scope cl C fp s2 H2) [] (startLC k js σ) (upd H2 D (.lst [])) { s2 with heap:=h4,toks:=t4 }:=by
 have below:∀ b o,s2.heap.get? b=some o->b≠D/\b≠C:=fun b o e=>⟨Nat.ne_of_lt (Nat.lt_of_lt_of_le (Heap.lt_size e) hD),Nat.ne_of_lt (Nat.lt_of_lt_of_le (Heap.lt_size e) hC)⟩
 have hlen:N'.length=k+capt.length:=by
  have:=congrArg List.length hN
  rw [List.length_append,List.length_take] at this
  omega
 refine⟨ok,rfl,I.bare,Un.laid keep hD (I.hok.fresh hD),⟨m,hns,fun i x v h1 h2 h3=>?_⟩,fun x c h=>?_,?_,fun x c h=>?_,fun p hp=>absurd (show p∈([]:List (Addr×Obj)) from hp) (by simp),?_,?_⟩
 ·have h1:N'[i]?=some x:=h1
  unfold startLC at h2
  by_cases hi:i<k
  ·rw [List.getElem?_append_left (by simpa using hi),List.getElem?_replicate] at h2
   rw [if_pos hi] at h2
   cases h2
  ·rw [List.getElem?_append_right (by simpa using hi),List.length_replicate,List.getElem?_map] at h2
   have hx:capt[i-k]?=some x:=by
    rw [hN,List.getElem?_append_right (by rw [List.length_take];omega),List.length_take] at h1
    rw [show min k N'.length=k by omega] at h1
    exact h1
   cases ej:js[i-k]? with
   | none=>rw [ej] at h2;cases h2
   | some j =>
    rw [ej] at h2
    have h2':(σ[j]?).join=some v:=Option.some.inj h2
    obtain⟨q1,q2,q3,q4⟩:=hcap.get.2 _ _ _ hx ej
    have hv:σ[j]?=some (some v):=by
     cases e:σ[j]? with
     | none=>rw [e] at h2';cases h2'
     | some o=>rw [e] at h2';cases o with
      | none=>cases h2'
      | some v'=>simpa using h2'
    obtain⟨m0,hn0,hl0⟩:=I.loc
    obtain⟨u,r,l⟩:=hl0 j x v q1 hv (by rcases q2 with z | z;exact .inr (.inl z);exact .inr (.inr z))
    refine⟨u,r,?_⟩
    rcases l with⟨z,_⟩ | ⟨_,c,e,o,z1,z2⟩
    ·rcases q2 with q | q <;> · rw [q] at z;cases z
    ·exact .inr ⟨q4,c,q3.trans e,o,keep c o z1,z2⟩
 ·obtain⟨v,o,z1,z2⟩:=I.cell x c (hsub.of x c h)
  exact⟨v,o,keep c o z1,z2⟩
 ·show upd H2 D (.lst []) C=none
  rw [upd_ne (Ne.symm hDC)]
  exact I.hok.fresh hC
 ·obtain⟨v,o,z1,z2⟩:=I.cell x c (hsub.of x c h)
  show upd H2 D (.lst []) c=none
  rw [upd_ne (below c o z1).1]
  exact I.freeC x c (hsub.of x c h)
 ·exact I.hok.laid keep hD ⟨Nat.zero_le _,[],0,.nil,hl⟩
 ·show(startLC k js σ).length=N'.length
  unfold startLC
  rw [List.length_append,List.length_replicate,List.length_map,hlen,hcap.get.1]
structure LCok(X:Cx)(scope:Scope)(cl:List (Str×Addr))(N' capt:List Str)(k:Nat)(js:List Nat):Prop where
 clos:closureFor scope X.env=pure cl
 cell:∀ y∈scope.names,y.2 ≠ .cell
 kind:scope.kind=.function
 names:∀ y∈scope.names,y.2=.local->scope.names.lookup y.1=some .local
 sub:SubC X cl
 has:(relabel scope X.env).names.all (fun p=>(p.2 != .cell && p.2 != .free) || (cl.lookup p.1).isSome)=true
 cap:Capt X scope cl capt js
 hN:N'=N'.take k++capt
 hk:k<=N'.length
def LcEnd(X:Cx)(pins:List (Addr×Obj))(σ:St)(Q:VK)(acc:Value)(C:Addr)(r:Result)(s':Shared):Prop :=
 ∃(f:Flow) (D:Addr) (H':Hp) (m:Str->Option Value),r=.ok f/\acc=.ref D/\Inv X pins σ H' s'/\Q (.ref D) H'/\s'.heap.Ns C m/\H' C=none/\C≠X.env.locals/\X.s₀.heap.objs.size<=C/\(∀ x c,X.env.cells.lookup x=some c->c≠C)/\∀ p∈X.pn++pins,p.1≠C
theorem LcEnd.let_go{pins:List (Addr×Obj)}{σ':St}{H':Hp}{C:Addr}{s'':Shared}{h':Heap}(I:Inv X pins σ' H' s'')(hn:H' C=none)(h1:C≠X.env.locals)(h2:X.s₀.heap.objs.size<=C)(h3:∀ x c,X.env.cells.lookup x=some c->c≠C)(h4:∀ p∈X.pn++pins,p.1≠C)
  (hs:Heap.SameBut C s''.heap h'):Inv X pins σ' H' { s'' with heap:=h' } :=
 I.turned (t':=s''.toks) (fun b o hb e=>(hs.2 b hb).trans e) hn h1 (.inr h2) h3 h4
theorem lc_block{elt tg iter:Expr}{ifs:List Expr}{scope:Scope}{pos:Pos}{cl:List (Str×Addr)}{N' capt:List Str}{k:Nat}{js:List Nat}{g:TG}{tt:TT}{te:TE}{J:It}{fp:List Addr}{tn:Nat->Heap->Prop}{it:Addr}
  {pins:List (Addr×Obj)} {σ:St} {H2:Hp} {s2:Shared} {Q:VK} {E:Value->Shared->Prop} (hc:X.calm=true) (L:LCok X scope cl N' capt k js)
  (hg:∀ C fp s2 H2,PG (cxLC X N' scope cl C fp s2 H2) tg g) (ht:∀ C fp s2 H2,PTs (cxLC X N' scope cl C fp s2 H2) ifs tt) (he:∀ C fp s2 H2,PE (cxLC X N' scope cl C fp s2 H2) elt te)
  (I2:Inv X pins σ H2 s2) (T:Turn X.prog X.w X.K tg J fp it tn) (st2:tn 0 s2.heap) (f2:∀ b∈fp,FpOk X pins H2 b) (q:∀ D,H2 D=none->lcTurns J D g tt te (startLC k js σ) H2 Q) :
  wpAny (model X.prog X.w) X.A (newList []) (fun acc s3=>wpAny (model X.prog X.w) X.A (newFunctionEnv scope X.env.globals cl [] X.env.qual none .none (some X.env)) (fun cenv s4 =>
   codeAny (model X.prog X.w) X.A (.compStart (.ListComp elt [⟨tg,iter,ifs,0⟩] scope pos) 0 (.ref it) acc { cenv with scope:=relabel scope X.env }) (LcEnd X pins σ Q acc cenv.locals) s4) E s3) E s2:=by
 refine wpAny_newObj_type (wpAny_newFunctionEnv L.cell (by intro y hy;simp at hy) (fun h₁ hns₁ hsb₁=>?_) L.kind)
 dsimp only at hns₁ hsb₁ ⊢
 generalize hH2:s2.heap.push { cls:=.type "list",dict:=none,data:=.seq ([]:List Value).toArray }=G at hns₁ hsb₁ ⊢
 have hC:G.objs.size=s2.heap.objs.size+1:=by rw [<-hH2,Heap.size_push]
 have hDC:s2.heap.objs.size≠G.objs.size:=by rw [hC];exact Nat.ne_of_lt (Nat.lt_succ_self _)
 have hCle:s2.heap.objs.size<=G.objs.size:=by rw [hC];exact Nat.le_succ _
 have below:∀ b,b<s2.heap.objs.size->b≠G.objs.size:=fun b hb=>by rw [hC];exact Nat.ne_of_lt (Nat.lt_succ_of_lt hb)
 have keep:∀ b o,s2.heap.get? b=some o->h₁.get? b=some o:=fun b o e=>hsb₁.extBut b o (below b (Heap.lt_size e)) (Heap.get?_push_of_some _ (hH2 ▸ Heap.get?_push_of_some _ e))
 have hl:h₁.get? s2.heap.objs.size=some { cls:=.type "list",data:=.seq #[] 0 }:=hsb₁.extBut _ _ hDC (Heap.get?_push_of_some _ (hH2 ▸ Heap.get?_push_size _ rfl))
 have ho2:=T.obj _ _ st2
 have ok:(cxLC X N' scope cl G.objs.size fp s2 H2).Ok:=lc_ok I2 hc L.kind hCle L.sub L.has f2 ho2
 generalize hD:s2.heap.objs.size=D at hl hDC ⊢
 generalize hCC:G.objs.size=C at hns₁ hsb₁ hDC hC hCle below ok ⊢
 have hDle:s2.heap.objs.size<=D:=by rw [hD];exact Nat.le_refl _
 have I4:Inv (cxLC X N' scope cl C fp s2 H2) [] (startLC k js σ) (upd H2 D (.lst [])) { s2 with heap:=h₁,toks:=s2.toks+([]:List (Str×Value)).length } :=
  lc_start I2 ok hDle hCle hDC keep hns₁ hl L.sub L.cap L.hN L.hk
 obtain⟨W,⟨m0,w0⟩,turn⟩:=q D (I2.hok.fresh hDle)
 have tn0:tn 0 h₁:=T.keep _ _ _ st2 fun b _ o e=>keep b o e
 have fr0:∀ b∈fp,upd H2 D (.lst []) b=none:=fun b hb=>by
  obtain⟨o,e,_⟩:=ho2 b hb
  rw [upd_ne (Nat.ne_of_lt (Nat.lt_of_lt_of_le (Heap.lt_size e) hDle))]
  exact(f2 b hb).1
 have stat:∀{H':Hp},(∀ b∈fp,H' b=none)->∀ b∈fp,FpOk (cxLC X N' scope cl C fp s2 H2) [] H' b:=fun hn b hb=>by
  refine⟨hn b hb,(ok.exf b hb).1,ok.exfs b hb,.inl hb,(ok.exf b hb).2,fun p hp=>absurd (show p∈([]:List (Addr×Obj)) from hp) (by simp)⟩
 have loop:∀ s₃:Shared,s₃ = { s2 with heap:=h₁,toks:=s2.toks+([]:List (Str×Value)).length } ->
   codeAny (model X.prog X.w) X.A (.compLoop (.ListComp elt [⟨tg,iter,ifs,0⟩] scope pos) 0 (.ref it) (.ref D) (compEnvC scope cl C X.env)) (LcEnd X pins σ Q (.ref D) C) s₃:=by
  rintro s₃ rfl
  refine compLoop_any (fun n s'=>∃ i σ' H',Inv (cxLC X N' scope cl C fp s2 H2) [] σ' H' s'/\tn i s'.heap/\(∀ b∈fp,H' b=none)/\W i n σ' H') ?_ m0 ⟨0,_,_,I4,tn0,fr0,w0⟩
  rintro n s3 ⟨i,σ3,H3,I3,st3,fr3,w3⟩
  rcases turn i n σ3 H3 w3 with⟨stop,qn⟩ | ⟨go,step⟩
  ·refine thn (T.done (cxLC X N' scope cl C fp s2 H2) rfl rfl rfl rfl i [] s3 σ3 H3 (fun _ _=>False) I3 (stat fr3) st3 stop) fun r s4 ⟨hr,J4⟩=>?_
   subst hr
   obtain⟨m,hn,_⟩:=id J4.loc
   have hs:X.s₀.heap.objs.size<=C:=Nat.le_trans I2.sz hCle
   refine⟨.next,D,H3,m,rfl,rfl,I2.call' (ch:=fp) J4.os J4.base J4.hok J4.bare (fun b hb=>?_),qn,hn,J4.free,fun z=>?_,hs,fun x c h z=>?_,fun p hp z=>?_⟩
   ·obtain⟨f0,f1,f2',f3,f4,f5⟩:=f2 b hb
    exact⟨f3,f1,f4,f5⟩
   ·have:=I2.lt
    rw [<-z] at this
    exact absurd (Nat.lt_of_lt_of_le this hCle) (Nat.lt_irrefl _)
   ·obtain⟨v,o,z1,_⟩:=I2.cell x c h
    have:=Heap.lt_size z1
    rw [z] at this
    exact absurd (Nat.lt_of_lt_of_le this hCle) (Nat.lt_irrefl _)
   ·have:=Heap.lt_size (I2.pin p hp).1
    rw [z] at this
    exact absurd (Nat.lt_of_lt_of_le this hCle) (Nat.lt_irrefl _)
  ·refine thn (T.item (cxLC X N' scope cl C fp s2 H2) rfl rfl rfl rfl i [] s3 σ3 H3 (fun _ _=>False) I3 (stat fr3) st3 go) fun r s4 ⟨u,hr,h4⟩=>?_
   subst hr
   refine thn h4 fun _ s5 ⟨x,H5,I5,r5,y5,st5,fr5⟩=>?_
   have I5':=I5.pinned (stat fr5) (T.obj _ _ st5)
   refine thn (hg C fp s2 H2 _ s5 σ3 H5 x u _ I5' r5 (step x H5 y5)) fun _ s6 ⟨σ6,H6,I6,q6⟩=>?_
   refine thn (ht C fp s2 H2 _ s6 σ6 H6 _ I6 q6) fun ok s7 ⟨H7,I7,q7⟩=>?_
   have again:∀{H8:Hp} {s8:Shared},Inv (cxLC X N' scope cl C fp s2 H2) ([]++pinsAt fp s5.heap) σ6 H8 s8->(∃ m',m' < n/\W (i+1) m' σ6 H8)->∃ m,m<n/\∃ i σ' H',Inv (cxLC X N' scope cl C fp s2 H2) [] σ' H' s8/\tn i s8.heap/\(∀ b∈fp,H' b=none)/\W i m σ' H':=fun{H8 s8} I8 n8=>by
    obtain⟨m',hm,w8⟩:=n8
    refine⟨m',hm,i+1,σ6,H8,I8.unpinned,T.keep _ _ _ st5 fun b hb o e=>(I8.pin (b,o) (List.mem_append_right _ (List.mem_append_right _ (mem_pinsAt hb e)))).1,fun b hb=>?_,w8⟩
    obtain⟨o,e,d⟩:=T.obj _ _ st5 b hb
    exact(I8.pin (b,o) (List.mem_append_right _ (List.mem_append_right _ (mem_pinsAt hb e)))).2.1
   cases ok with
   | false =>
    rw [if_neg Bool.false_ne_true] at q7
    exact again I7 q7
   | true =>
    rw [if_pos rfl] at q7
    refine thn (he C fp s2 H2 _ s7 σ6 H7 _ I7 q7) fun y s8 ⟨v8,H8,I8,r8,q8⟩=>?_
    obtain⟨ys,e8,z8,w8⟩:=q8
    refine thn (mt_append (X:=cxLC X N' scope cl C fp s2 H2) _ s8 σ6 H8 (.ref D) [v8] (.ref D) [y] (fun v H=>∃ m',m' < n/\W (i+1) m' σ6 H) I8 rfl (.cons r8 .nil) ⟨D,ys,v8,rfl,rfl,e8,z8,w8⟩) fun _ s9 ⟨v9,H9,I9,_,w9⟩=>?_
    exact again I9 w9
 exact codeAny_compStart_list (loop _ rfl) (T.self _ 0 _ _ _ tn0 (loop _ rfl))
theorem pe_lc{elt tg iter:Expr}{ifs:List Expr}{scope:Scope}{pos:Pos}{cl:List (Str×Addr)}{N' capt:List Str}{k:Nat}{js:List Nat}{wi:TI}{g:TG}{tt:TT}{te:TE}(hc:X.calm=true)(L:LCok X scope cl N' capt k js)
  (hi:PI X tg iter wi) (hg:∀ C fp s2 H2,PG (cxLC X N' scope cl C fp s2 H2) tg g) (ht:∀ C fp s2 H2,PTs (cxLC X N' scope cl C fp s2 H2) ifs tt) (he:∀ C fp s2 H2,PE (cxLC X N' scope cl C fp s2 H2) elt te)
  (hs:∀ x,foldedSetIterable iter X.env x=pure x:=by intro _;rfl):PE X (.ListComp elt [⟨tg,iter,ifs,0⟩] scope pos) (tLC k js wi g tt te):=by
 intro pins s σ H Q I h
 rw [eval_ListComp]
 refine wpAny_comprehension_free (use:=none) rfl hs L.clos L.kind L.names (thn (hi pins s σ H _ I h) fun v s1 h1=>thn h1 fun itv s2 h2=>?_)
 obtain⟨it,fp,tn,J,H2,e,I2,T,st2,f2,q⟩:=h2
 subst e
 refine thn (lc_block (E:=X.xe) hc L hg ht he I2 T st2 f2 q) fun acc s3 h3=>thn h3 fun cenv s4 h4=>codeAny_mono h4 fun r s' hr=>?_
 obtain⟨f,D,H',m,rfl,rfl,J',qq,hn,b1,b2,b3,b4,b5⟩:=hr
 exact⟨m,hn,fun h' hsb=>⟨.ref D,H',LcEnd.let_go J' b1 b2 b3 b4 b5 hsb,rfl,qq⟩⟩
theorem ps_setLC{i:Nat}{x:Str}{elt tg iter:Expr}{ifs:List Expr}{scope:Scope}{pos pos' spos:Pos}{cl:List (Str×Addr)}{N' capt:List Str}{k:Nat}{js:List Nat}{wi:TI}{g:TG}{tt:TT}{te:TE}(hN:X.N.Nodup)(hi':X.N[i]?=some x)(hx:Loc X.env.scope x)(hc:X.calm=true)(L:LCok X scope cl N' capt k js)
  (hi:PI X tg iter wi) (hg:∀ C fp s2 H2,PG (cxLC X N' scope cl C fp s2 H2) tg g) (ht:∀ C fp s2 H2,PTs (cxLC X N' scope cl C fp s2 H2) ifs tt) (he:∀ C fp s2 H2,PE (cxLC X N' scope cl C fp s2 H2) elt te)
  (hsw:swapsWith (.ListComp elt [⟨tg,iter,ifs,0⟩] scope pos) (some (.Name x pos')) spos.line X.env=pure true:=by rfl)
  (hs:∀ x,foldedSetIterable iter X.env x=pure x:=by intro _;rfl) (hf:X.fn x=true\/X.env.scope.names.lookup x=some .local:=by first | exact .inl rfl | exact .inr rfl | assumption):PS X (.Assign [.Name x pos'] (.ListComp elt [⟨tg,iter,ifs,0⟩] scope pos) spos) (tAsg (tLC k js wi g tt te) (gName i)):=by
 intro pins s σ H D I h
 have h:tLC k js wi g tt te σ H (fun v H1=>D.nx (σ.set i (some v)) H1):=h
 rw [exec_Assign_Name_used _ _ _ _ hsw]
 refine wpAny_bind (wpAny_standAt (wpAny_bind ?_))
 show wpAny _ X.A (do let _ <-comprehension (.ListComp elt [⟨tg,iter,ifs,0⟩] scope pos) scope X.env _ (newList []) false (eval iter X.env) (some (assign (.Name x pos') X.env))) _ _ s
 refine wpAny_bind (wpAny_mono (wpAny_comprehension_free (use:=some (assign (.Name x pos') X.env)) (Q:=fun _ s'=>SP X pins D .next s') rfl hs L.clos L.kind L.names
  (thn (hi pins s σ H _ I h) fun v s1 h1=>thn h1 fun itv s2 h2=>?_)) (fun _ s' hq=>wpAny_pure (wpAny_pure hq)) fun _ _ e=>e)
 obtain⟨it,fp,tn,J,H2,e,I2,T,st2,f2,q⟩:=h2
 subst e
 refine thn (lc_block (E:=X.xe) hc L hg ht he I2 T st2 f2 q) fun acc s3 h3=>thn h3 fun cenv s4 h4=>codeAny_mono h4 fun r s' hr=>?_
 obtain⟨f,D',H',m,rfl,rfl,J',qq,hn,b1,b2,b3,b4,b5⟩:=hr
 show wpAny _ X.A (assign (.Name x pos') X.env (.ref D')) _ _ _
 refine wpAny_assign_Name (store_ok2 (v:=.ref D') J' hN hi' hx rfl (fun s'' J'' hsb=>?_) hf)
 obtain⟨a,hsb,ha⟩:=hsb
 have hne:cenv.locals≠a:=by
  rcases ha with z | z
  ·rw [z];exact b2
  ·exact fun z'=>b4 x a z z'.symm
 exact⟨m,hn.sameBut hsb hne,fun h' hs'=>⟨_,H',LcEnd.let_go J'' b1 b2 b3 b4 b5 hs',qq⟩⟩
end
section
variable {X:Cx}{pins:List (Addr×Obj)}{σ:St}{H:Hp}{s:Shared}
end
section
variable {X:Cx}
theorem range_all{bs:List Bool}{its:List Value}(r:Vals (bs.map V.bl) its):(List.range its.toArray.size).all (fun i=>bs.getD i true)=bs.all id:=by
 have hl:its.toArray.size=bs.length:=by have:=r.length;simp at this ⊢;omega
 rw [hl]
 clear hl r
 apply Bool.eq_iff_iff.mpr
 simp only [List.all_eq_true,List.mem_range,id]
 constructor
 ·intro h b hb
  obtain⟨i,hi,e⟩:=List.getElem_of_mem hb
  have:=h i hi
  simp [List.getD,hi,e] at this
  exact this
 ·intro h i hi
  simp only [List.getD,List.getElem?_eq_getElem hi,Option.getD_some]
  exact h _ (List.getElem_mem hi)
theorem range_any{bs:List Bool}{its:List Value}(r:Vals (bs.map V.bl) its):(List.range its.toArray.size).any (fun i=>bs.getD i true)=bs.any id:=by
 have hl:its.toArray.size=bs.length:=by have:=r.length;simp at this ⊢;omega
 rw [hl]
 clear hl r
 apply Bool.eq_iff_iff.mpr
 simp only [List.any_eq_true,List.mem_range,id]
 constructor
 ·rintro ⟨i,hi,h⟩
  simp only [List.getD,List.getElem?_eq_getElem hi,Option.getD_some] at h
  exact⟨_,List.getElem_mem hi,h⟩
 ·rintro ⟨b,hb,h⟩
  obtain⟨i,hi,e⟩:=List.getElem_of_mem hb
  exact⟨i,hi,by simp only [List.getD,List.getElem?_eq_getElem hi,Option.getD_some,e];exact h⟩
theorem bools_at{bs:List Bool}{its:List Value}(r:Vals (bs.map V.bl) its)(i:Nat)(v:Value)(h:its.toArray[i]?=some v):v=.bool (bs.getD i true):=by
 have h':its[i]?=some v:=by simpa using h
 have hi:i<its.length:=(List.getElem?_eq_some_iff.mp h').1
 have hb:i<bs.length:=by have:=r.length;simp at this;omega
 obtain⟨u,hu,ru⟩:=r.get (i:=i) (x:=.bl bs[i]) (by simp [hb])
 rw [h'] at hu
 cases hu
 have ru:v=.bool bs[i]:=ru
 rw [ru]
 simp [List.getD,hb]
theorem iter_list{A:Around}{E:Value->Shared->Prop}{s:Shared}{l:Addr}{its:Array Value}{Q:Value->Shared->Prop}{prog:Program}{w:World}(hl:s.heap.IsList l its)
  (h:∀ s2:Shared,s2 = { s with heap:=s.heap.push { cls:=.type "list_iterator",data:=.fields #[.ref l,.int 0 0] } } ->
   (s2.heap.IsListIter s.heap.objs.size l 0/\s2.heap.IsList l its)->l≠s.heap.objs.size->Q (.ref s.heap.objs.size) s2) :
  wpAny (model prog w) A (pyIter (.ref l)) Q E s:=by
 have hlt:l<s.heap.objs.size:=by obtain⟨_,e,_⟩:=hl;exact Heap.lt_size e
 exact wpAny_pyIter_list hl (h _ rfl ⟨⟨_,Heap.get?_push_size _ rfl,rfl,rfl⟩,hl.push _⟩ (Nat.ne_of_lt hlt))
theorem call_all(hc:X.calm=true):CallR X (.builtin "all") (fun xs H Q=>∃(p:Addr) (bs:List Bool),xs = [.ref p]/\SqL X.K H p (bs.map V.bl)/\Q (.bl (bs.all id)) H):=by
 intro pins s σ H xs us Q I rv h
 obtain⟨p,bs,rfl,hq,q⟩:=h
 obtain⟨u,rfl,r1⟩:=rv.one
 cases r1
 obtain⟨its,rvs,pl,hz⟩:=I.list hq
 refine call_all_walk (iter_list pl.isList fun s2 e st hne=>?_)
 subst e
 refine⟨_,_,_,_,_,_,fun i=>bs.getD i true,rfl,Walks.list (A:=X.A.in1) (I.ok.hd hc) _ p hne its.toArray,st,fun i v s Q E hP hQ=>?_,fun h' tk hk=>?_⟩
 ·rw [bools_at rvs i v hP]
  exact wpAny_truthy_bool hQ
 ·rw [range_all rvs]
  refine⟨.bl (bs.all id),H,I.kept (fun b o e=>hk b o (fun z=>?_) (Heap.get?_push_of_some _ e)),rfl,q⟩
  rw [List.mem_singleton.mp z] at e
  exact Nat.lt_irrefl _ (Heap.lt_size e)
theorem call_any(hc:X.calm=true):CallR X (.builtin "any") (fun xs H Q=>∃(p:Addr) (bs:List Bool),xs = [.ref p]/\SqL X.K H p (bs.map V.bl)/\Q (.bl (bs.any id)) H):=by
 intro pins s σ H xs us Q I rv h
 obtain⟨p,bs,rfl,hq,q⟩:=h
 obtain⟨u,rfl,r1⟩:=rv.one
 cases r1
 obtain⟨its,rvs,pl,hz⟩:=I.list hq
 refine call_any_walk (iter_list pl.isList fun s2 e st hne=>?_)
 subst e
 refine⟨_,_,_,_,_,_,fun i=>bs.getD i true,rfl,Walks.list (A:=X.A.in1) (I.ok.hd hc) _ p hne its.toArray,st,fun i v s Q E hP hQ=>?_,fun h' tk hk=>?_⟩
 ·rw [bools_at rvs i v hP]
  exact wpAny_truthy_bool hQ
 ·rw [range_any rvs]
  refine⟨.bl (bs.any id),H,I.kept (fun b o e=>hk b o (fun z=>?_) (Heap.get?_push_of_some _ e)),rfl,q⟩
  rw [List.mem_singleton.mp z] at e
  exact Nat.lt_irrefl _ (Heap.lt_size e)
def CDivW(i j:Int):Prop:=0<j/\j<10000000000000000000000000000000000000000000000000000000000000
theorem op_fdivW:OpR X (binaryOp .FloorDiv) (rI CDivW fun i j=>.int (i / j)):=opI fun i j _ _ _ _ _ hc q=>by
 have h0:j≠0:=by have:=hc.1;omega
 have e:i.fdiv j=i / j:=Int.fdiv_eq_ediv_of_nonneg i (by have:=hc.1;omega)
 refine floordiv_int h0 (by rw [e];exact q) (.inl (PyProof.noPylong_of_log2 ?_))
 have h1:j.natAbs<2 ^ 400:=Nat.lt_of_lt_of_le (show j.natAbs<10000000000000000000000000000000000000000000000000000000000000 by have h1:=hc.1;have h2:=hc.2;omega) (by decide +kernel)
 have h2:j.natAbs≠0:=by omega
 exact Nat.lt_of_lt_of_le ((Nat.log2_lt h2).mpr h1) (by decide)
end
def Callee(P:Program)(w:World)(K:PySem.W.Frag)(mg:Str->Option Value)(base:Heap)(k:Nat)(x:Str)(ps:List Str)(sp:Sp):Prop :=
 ∃ f fd,FnOk P w K mg base CX0 k f fd ps sp/\Binds K fd ps []/\PySem.W.keepIn K (.ref f)=true/\mg x=some (.ref f)
theorem pe_callC{X:Cx}{k k':Nat}{x:Str}{ps:List Str}{sp:Sp}{e:Expr}{es:List Expr}{t:TA}{p pos:Pos}(C:Callee X.prog X.w X.K X.mg X.base k x ps sp)(hr:Room k' X.A)(hg:Gl X x)(ha:PA X (e::es) t)(hk:k<=k':=by decide)
  (hdb:(x == ("__debug__" : Str))=false:=by decide) (he:starEach (e::es) X.env=(false,eval e X.env)::starEach es X.env:=by rfl) (hpl:(backTo pos (starEach es X.env)).any (·.1)=false:=by rfl) :
  PE X (.Call (.Name x p) (e::es) [] pos) (tCall sp [] E0 t):=by
 intro pins s σ H Q I h
 obtain⟨f,fd,F,b,kp,m⟩:=C
 exact pe_call F (hr.mono hk) hg m kp b .nil pass0 ha hdb he hpl pins s σ H Q I h
def But(p:Addr)(H H':Hp):Prop:=∀ b o,b≠p->H b=some o->H' b=some o
theorem But.refl(p:Addr)(H:Hp):But p H H:=fun _ _ _ h=>h
theorem But.trans{p:Addr}{H H1 H2:Hp}(a:But p H H1)(b:But p H1 H2):But p H H2:=fun c o n h=>b c o n (a c o n h)
theorem But.of_same{p:Addr}{H H':Hp}(h:Same H H'):But p H H':=fun b o _ q=>h b o q
theorem But.write{p:Addr}{H:Hp}{o:HO}:But p H (upd H p o):=fun b u n q=>by rw [upd_ne n];exact q
theorem Same.but{p:Addr}{H H1 H2:Hp}(a:Same H H1)(hp:H p=none)(b:But p H1 H2):Same H H2:=fun c o h=>b c o (ne_of_none h hp) (a c o h)
theorem same_new{H:Hp}{p:Addr}(h:H p=none)(o:HO):Same H (upd H p o):=fun b u q=>by rw [upd_ne (ne_of_none q h)];exact q
def Pen(H:Hp)(p:Addr):Prop:=∃ a b c:Int,H p=some (.lst [.int a,.int b,.int c])
theorem small{n:Nat}(h:n<=10000):n<sizeLine:=Nat.lt_of_le_of_lt h (by decide)
theorem small'{n:Nat}(h:n<=10000):n<=sizeLine:=Nat.le_of_lt (small h)
theorem atI_of{α:Type}{xs:List α}{k:Int}(h0:0<=k)(h1:k<xs.length):∃ v,atI xs k=some v/\xs[k.toNat]?=some v:=by
 have hk:k.toNat<xs.length:=by omega
 have ek:k=((k.toNat:Nat):Int):=by omega
 have q:atI xs ((k.toNat:Nat):Int)=some xs[k.toNat]:=atI_nat (List.getElem?_eq_getElem hk)
 rw [<-ek] at q
 exact⟨_,q,List.getElem?_eq_getElem hk⟩
def NextLC(n i:Nat)(D:Addr)(Wv:Nat->St->Hp->Prop)(σ2:St)(y:V)(H4:Hp):Prop :=
 ∃ ys,H4 D=some (.lst ys)/\ys.length<sizeLine/\∃ m',m' < n-i/\(m'=n-(i+1)/\i+1<=n/\Wv (i+1) σ2 (upd H4 D (.lst (ys ++ [y]))))
def SkipLC(n i:Nat)(Wv:Nat->St->Hp->Prop)(σ2:St)(H3:Hp):Prop:=∃ m',m' < n-i/\(m'=n-(i+1)/\i+1<=n/\Wv (i+1) σ2 H3)
theorem NextLC.mk{n i:Nat}{D:Addr}{Wv:Nat->St->Hp->Prop}{σ2:St}{y:V}{H4:Hp}(hi:i<n){ys:List V}(e:H4 D=some (.lst ys))(z:ys.length<=10000)(w:Wv (i+1) σ2 (upd H4 D (.lst (ys ++ [y])))):NextLC n i D Wv σ2 y H4 :=
 ⟨ys,e,small z,n-(i+1),by omega,rfl,hi,w⟩
theorem SkipLC.mk{n i:Nat}{Wv:Nat->St->Hp->Prop}{σ2:St}{H3:Hp}(hi:i<n)(w:Wv (i+1) σ2 H3):SkipLC n i Wv σ2 H3:=⟨n-(i+1),by omega,rfl,hi,w⟩
section
variable {prog:Program}{w:World}{A:Around}{E:Value->Shared->Prop}{s:Shared}
end
def zIt(b:Bool)(h:Heap)(it l:Addr)(i:Nat):Prop:=if b=true then h.IsTupleIter it l i else h.IsListIter it l i
theorem zIt.at{b:Bool}{h h':Heap}{it l:Addr}{i:Nat}(x:zIt b h it l i)(e:∀ o,h.get? it=some o->h'.get? it=some o):zIt b h' it l i:=by
 cases b
 ·exact Heap.IsListIter.at (show h.IsListIter it l i from x) e
 ·exact Heap.IsTupleIter.at (show h.IsTupleIter it l i from x) e
theorem zIt.own{b:Bool}{h:Heap}{it l:Addr}{i:Nat}(x:zIt b h it l i):∃ o,h.get? it=some o/\∀ v,o.data ≠ .cell v:=by
 cases b
 ·obtain⟨o,e,c,d⟩:=(show h.IsListIter it l i from x)
  exact⟨o,e,fun v q=>by rw [d] at q;cases q⟩
 ·obtain⟨o,e,c,d⟩:=(show h.IsTupleIter it l i from x)
  exact⟨o,e,fun v q=>by rw [d] at q;cases q⟩
section
variable {prog:Program}{w:World}{A:Around}{E:Value->Shared->Prop}{s:Shared}
end
section
variable {X:Cx}
theorem tup_whole{prog:Program}{w:World}{A:Around}{E:Value->Shared->Prop}{s:Shared}{t sl:Addr}{its:Array Value}{vl vu:Value}{lo hi:Option Int}{Q:Value->Shared->Prop}(ht:IsTup s.heap t its)(hs:s.heap.IsSliceOf sl vl vu .none)(pl:IsPart vl lo)(pu:IsPart vu hi)
  (h0:HT.sIx its.size 0 lo=0) (h1:HT.sIx its.size its.size hi=its.size) (h:Q (.ref t) s):wpAny (model prog w) A (getItem (.ref t) (.ref sl)) Q E s:=by
 obtain⟨os,hos,hcs,hds⟩:=id hs
 have hTs:s.TypeIs (.ref sl) "slice" :=⟨os,hos,hcs⟩
 unfold getItem
 try with_reducible refine wpAny_holding ?_
 first | (refine wpAny_bind (wpAny_pure ?_)) | skip
 refine wpAny_bind (wpAny_sequenceKey ht.typeIs (by decide) (wpAny_bind (wpAny_callSpecial?_slot (name:=Str.ofString "__getitem__") ht.typeIs PyProof.Rows.slot_tuple_getitem (wpAny_call_entry PyProof.Rows.slot_tuple_getitem ht.typeIs entry_tuple_getitem ?_ (args_tuple_getitem _ _)))))
 refine(show wpAny _ _ (Builtin.Tuple.tupleItemsOf (.ref t) >>= _) _ _ s from wpAny_bind (tupleItemsOf_ ht (wpAny_bind (wpAny_typeOf hTs ?_))))
 rw [if_pos (by decide)]
 refine wpAny_bind (HT.sliceApplied_gen hs pl pu ?_)
 rw [h0,h1]
 have hy:(((((0:Nat):Int) == 0 && (1:Int) == 1) && (its.size-0 == its.size))=true):=by simp
 show wpAny _ _ (if (((0:Nat):Int) == 0 && (1:Int) == 1 && (its.size-0) == its.size)=true then _ else _) _ _ s
 rw [if_pos hy]
 refine wpAny_bind (m:=Builtin.Tuple.tupleIsExact _) ?_
 unfold Builtin.Tuple.tupleIsExact
 refine wpAny_bind (wpAny_typeOf ht.typeIs (wpAny_pure ?_))
 rw [if_pos (by decide)]
 first
  | exact wpAny_bind (wpAny_rule (wpAny_pure ⟨_,rfl,wpAny_pure h⟩))
  | exact wpAny_bind (wpAny_rule (wpAny_bind (wpAny_pure (wpAny_pure ⟨_,rfl,wpAny_pure h⟩))))
  | exact wpAny_bind (wpAny_rule (wpAny_bind (wpAny_pure ⟨_,rfl,wpAny_pure h⟩)))
theorem fm_congr{α β:Type}{f g:α->Option β}:∀{l:List α},(∀ x∈l,f x=g x)->l.filterMap f=l.filterMap g
 | [],_=>rfl
 | a::l,h=>by
  rw [List.filterMap_cons,List.filterMap_cons,h a (by simp),fm_congr (l:=l) fun x hx=>h x (List.mem_cons_of_mem _ hx)]
theorem rev_pick(xs:Array Value):((List.range xs.size).filterMap fun(k:Nat)=>xs[(((xs.size:Int)-1)+(k:Int) * (-1)).toNat]?)=xs.toList.reverse:=by
 have e:((List.range xs.size).filterMap fun(k:Nat)=>xs[(((xs.size:Int)-1)+(k:Int) * (-1)).toNat]?)=((List.range xs.size).map (fun k=>xs.size-1-k)).filterMap (xs[·]?):=by
  rw [List.filterMap_map]
  refine fm_congr fun k hk=>?_
  have:=List.mem_range.mp hk
  show xs[(((xs.size:Int)-1)+(k:Int) * (-1)).toNat]?=xs[xs.size-1-k]?
  rw [show(((xs.size:Int)-1)+(k:Int) * (-1)).toNat=xs.size-1-k by omega]
 rw [e,PySem.W.krv_range,List.filterMap_reverse,PySem.W.krv_all]
theorem rev_applied{prog:Program}{w:World}{A:Around}{E:Value->Shared->Prop}{s:Shared}{sl:Addr}{t:Tok}{n:Nat}{Q:Int×Int×Nat->Shared->Prop}(hs:s.heap.IsSliceOf sl .none .none (.int (-1) t))(h:Q (((n:Nat):Int)-1,-1,n) s):wpAny (model prog w) A (Builtin.Slice.sliceApplied (.ref sl) (pure (n:Int))) Q E s:=by
 obtain⟨os,hos,hcs,hds⟩:=id hs
 unfold Builtin.Slice.sliceApplied Builtin.Slice.sliceFields
 refine wpAny_bind (wpAny_bind (wpAny_field hos hds (x:=.none) rfl (wpAny_bind (wpAny_field hos hds (x:=.none) rfl (wpAny_bind (wpAny_field hos hds (x:=.int (-1) t) rfl (wpAny_pure (wpAny_bind (slicePart_int ?_)))))))))
 show wpAny _ _ (if ((-1:Int) == 0)=true then _ else _) _ _ s
 rw [if_neg (by decide)]
 refine wpAny_bind (slicePart_none (wpAny_bind (slicePart_none (wpAny_bind (wpAny_pure ?_)))))
 show wpAny _ _ (match Builtin.Slice.sliceAdjust none none (-1) (n:Int) with | (lo,hi)=>pure (lo,(-1:Int),Builtin.Slice.slicePlaces lo hi (-1))) _ _ s
 have e:Builtin.Slice.sliceAdjust none none (-1) (n:Int)=((n:Int)-1,-1):=rfl
 rw [e]
 have e2:Builtin.Slice.slicePlaces ((n:Int)-1) (-1) (-1)=n:=by
  unfold Builtin.Slice.slicePlaces
  have h1:¬ ((-1:Int) > 0):=by decide
  rw [if_neg h1]
  show(if (n:Int)-1 > -1 then ((n:Int)-1 - -1-1) / 1+1 else 0).toNat=n
  rw [Int.ediv_one]
  split <;> omega
 show wpAny _ _ (pure ((n:Int)-1,(-1:Int),Builtin.Slice.slicePlaces ((n:Int)-1) (-1) (-1))) _ _ s
 rw [e2]
 exact wpAny_pure h
theorem tup_rev{prog:Program}{w:World}{A:Around}{E:Value->Shared->Prop}{s:Shared}{t sl:Addr}{its:Array Value}{k:Tok}{Q:Value->Shared->Prop}(ht:IsTup s.heap t its)(hs:s.heap.IsSliceOf sl .none .none (.int (-1) k))(hz:its.size<=sizeLine)
  (h:Q (.ref s.heap.objs.size) { s with heap:=s.heap.push { cls:=.type "tuple",data:=.seq its.toList.reverse.toArray } }):wpAny (model prog w) A (getItem (.ref t) (.ref sl)) Q E s:=by
 obtain⟨os,hos,hcs,hds⟩:=id hs
 have hTs:s.TypeIs (.ref sl) "slice" :=⟨os,hos,hcs⟩
 have hok:sizeOk (.seq its.toList.reverse.toArray):=by
  show its.toList.reverse.toArray.size<=sizeLine
  simpa using hz
 unfold getItem
 try with_reducible refine wpAny_holding ?_
 first | (refine wpAny_bind (wpAny_pure ?_)) | skip
 refine wpAny_bind (wpAny_sequenceKey ht.typeIs (by decide) (wpAny_bind (wpAny_callSpecial?_slot (name:=Str.ofString "__getitem__") ht.typeIs PyProof.Rows.slot_tuple_getitem (wpAny_call_entry PyProof.Rows.slot_tuple_getitem ht.typeIs entry_tuple_getitem ?_ (args_tuple_getitem _ _)))))
 refine(show wpAny _ _ (Builtin.Tuple.tupleItemsOf (.ref t) >>= _) _ _ s from wpAny_bind (tupleItemsOf_ ht (wpAny_bind (wpAny_typeOf hTs ?_))))
 rw [if_pos (by decide)]
 refine wpAny_bind (rev_applied hs ?_)
 have hno:¬ ((((its.size:Int)-1 == 0 && (-1:Int) == 1) && (its.size == its.size))=true):=by
  rw [show((-1:Int) == 1)=false from rfl,Bool.and_false,Bool.false_and]
  exact Bool.false_ne_true
 show wpAny _ _ (if ((its.size:Int)-1 == 0 && (-1:Int) == 1 && its.size == its.size)=true then _ else _) _ _ s
 rw [if_neg hno,rev_pick]
 first
  | exact wpAny_bind (m:=Builtin.Tuple.tupleExact _) (wpAny_newObj_type (wpAny_pure ⟨_,rfl,wpAny_pure h⟩) hok)
  | exact wpAny_bind (m:=Builtin.Tuple.tupleExact _) (wpAny_newObj_type (wpAny_bind (wpAny_pure (wpAny_pure ⟨_,rfl,wpAny_pure h⟩))) hok)
  | exact wpAny_bind (wpAny_bind (m:=Builtin.Tuple.tupleExact _) (wpAny_newObj_type (wpAny_pure (wpAny_pure ⟨_,rfl,wpAny_pure h⟩)) hok))
  | exact wpAny_bind (wpAny_bind (m:=Builtin.Tuple.tupleExact _) (wpAny_newObj_type (wpAny_pure ⟨_,rfl,wpAny_pure h⟩) hok))
def tDNew:TE:=fun _ H Q=>∀ p,H p=none->Q (.ref p) (upd H p (.dK []))
theorem pe_dnew{pos:Pos}:PE X (.Dict [] [] pos) tDNew:=fun pins s σ H Q I h=>by
 have big:sysModules<s.heap.objs.size:=Nat.lt_trans (by decide) (show mainGlobals<s.heap.objs.size from(I.mod.glob.keeps I.bk).lt)
 refine wpAny_Dict_empty ⟨.ref s.heap.objs.size,_,I.laid (a:=s.heap.objs.size) (o:=.dK []) (t':=s.toks) (fun _ _ q=>Heap.get?_push_of_some _ q) (Nat.le_refl _) ⟨Nat.zero_le _,beq_eq_false_iff_ne.mpr (Ne.symm (Nat.ne_of_lt big)),[],.nil,Heap.DictOf.new s.heap⟩,rfl,h _ (I.hok.fresh (Nat.le_refl _))⟩
end
inductive Kn(H:Hp):V->Prop
 | non:Kn H .non
 | bl (b:Bool):Kn H (.bl b)
 | int (i:Int):Kn H (.int i)
 | str (x:Str):Kn H (.str x)
 | lst {a:Addr} {xs:List V} (e:H a=some (.lst xs)):Kn H (.ref a)
 | tup {a:Addr} {xs:List V} (e:H a=some (.tup xs)):Kn H (.ref a)
 | dct {a:Addr} {ks:List (Key×V)} (e:H a=some (.dK ks)):Kn H (.ref a)
def tupOf(H:Hp):V->Option (List V)
 | .ref a=>match H a with | some (.tup xs)=>some xs | _=>none
 | _=>none
theorem tupOf_ref{H:Hp}{a:Addr}{xs:List V}(e:H a=some (.tup xs)):tupOf H (.ref a)=some xs:=by unfold tupOf;simp only [e]
def Th:Nat->Hp->V->Prop
 | 0,H,x=>Kn H x
 | n+1,H,x=>Kn H x/\∀ xs,tupOf H x=some xs->∀ y∈xs,Th n H y
theorem Th.tup{n:Nat}{H:Hp}{a:Addr}{xs:List V}(e:H a=some (.tup xs))(h:∀ y∈xs,Th n H y):Th (n+1) H (.ref a) :=
 ⟨.tup e,fun ys e' y hy=>by rw [tupOf_ref e] at e';cases e';exact h y hy⟩
theorem Th.flat{n:Nat}{H:Hp}{x:V}(h:Kn H x)(e:tupOf H x=none):Th n H x:=by
 cases n with
 | zero=>exact h
 | succ n=>exact⟨h,fun xs e'=>by rw [e] at e';cases e'⟩
theorem Th.int(n:Nat)(H:Hp)(i:Int):Th n H (.int i):=Th.flat (.int i) rfl
theorem Th.bl(n:Nat)(H:Hp)(b:Bool):Th n H (.bl b):=Th.flat (.bl b) rfl
theorem Th.str(n:Nat)(H:Hp)(x:Str):Th n H (.str x):=Th.flat (.str x) rfl
theorem Th.non(n:Nat)(H:Hp):Th n H .non:=Th.flat .non rfl
theorem Th.lst(n:Nat){H:Hp}{a:Addr}{xs:List V}(e:H a=some (.lst xs)):Th n H (.ref a):=Th.flat (.lst e) (by unfold tupOf;simp only [e])
theorem Th.dct(n:Nat){H:Hp}{a:Addr}{ks:List (Key×V)}(e:H a=some (.dK ks)):Th n H (.ref a):=Th.flat (.dct e) (by unfold tupOf;simp only [e])
def inB(lo hi:Int):V->Bool
 | .int i=>decide (lo<=i) && decide (i<=hi)
 | _=>false
def allB:List (Int×Int)->List V->Bool
 | [],[]=>true
 | b::bs,x::xs=>inB b.1 b.2 x && allB bs xs
 | _,_=>false
def whB(bs:List (Int×Int)):Option (List V)->Bool
 | some xs=>allB bs xs
 | none=>false
theorem Kn.butL{H H':Hp}{p:Addr}{a b:List V}{x:V}(h1:H p=some (.lst a))(h2:H' p=some (.lst b))(s:But p H H')(h:Kn H x):Kn H' x:=by
 cases h with
 | non=>exact .non
 | bl b=>exact .bl b
 | int i=>exact .int i
 | str x=>exact .str x
 | @lst c xs e =>
  by_cases hc:c=p
  ·subst hc;exact .lst h2
  ·exact .lst (s _ _ hc e)
 | tup e=>exact .tup (s _ _ (ne_of e h1 (by intro z;cases z)) e)
 | dct e=>exact .dct (s _ _ (ne_of e h1 (by intro z;cases z)) e)
theorem tupOf_butL{H H':Hp}{p:Addr}{a b:List V}{x:V}(h1:H p=some (.lst a))(h2:H' p=some (.lst b))(s:But p H H')(h:Kn H x):tupOf H' x=tupOf H x:=by
 cases h with
 | @lst c xs e =>
  by_cases hc:c=p
  ·subst hc;unfold tupOf;simp only [e,h2]
  ·unfold tupOf;simp only [e,s _ _ hc e]
 | tup e=>have:=s _ _ (ne_of e h1 (by intro z;cases z)) e;unfold tupOf;simp only [e,this]
 | dct e=>have:=s _ _ (ne_of e h1 (by intro z;cases z)) e;unfold tupOf;simp only [e,this]
 | _=>rfl
theorem Th.butL:∀{n:Nat} {H H':Hp} {p:Addr} {a b:List V} {x:V},H p=some (.lst a)->H' p=some (.lst b)->But p H H'->Th n H x->Th n H' x
 | 0,_,_,_,_,_,_,h1,h2,s,h=>Kn.butL h1 h2 s h
 | n+1,_,_,_,_,_,_,h1,h2,s,h=>⟨h.1.butL h1 h2 s,fun xs e y hy=>Th.butL h1 h2 s (h.2 xs ((tupOf_butL h1 h2 s h.1).symm.trans e) y hy)⟩
theorem Th.pen{n:Nat}{H H':Hp}{p:Addr}{x:V}(h1:Pen H p)(h2:Pen H' p)(s:But p H H')(h:Th n H x):Th n H' x:=by
 obtain⟨a,b,c,e⟩:=h1
 obtain⟨a',b',c',e'⟩:=h2
 exact Th.butL e e' s h
theorem atI_ex{α:Type}{xs:List α}{k:Int}(h0:0<=k)(h1:k<xs.length):∃ v,atI xs k=some v/\v∈xs:=by
 obtain⟨v,h,e⟩:=atI_of h0 h1
 exact⟨v,h,List.mem_of_getElem? e⟩
def NoD(H:Hp)(x:V):Prop:=∀ a,x=.ref a->(∃ xs,H a=some (.lst xs))\/∃ xs,H a=some (.tup xs)
end L2
namespace L2
end L2
namespace L2
open PySem
theorem sE_T{es:List Expr}{x1}{pos:Pos}{rest:List Expr}{env:Env}:starEach (.Tuple es x1 pos::rest) env=(false,eval (.Tuple es x1 pos) env)::starEach rest env:=by rw [starEach];intro e p h;cases h
theorem sE_L{es:List Expr}{pos:Pos}{rest:List Expr}{env:Env}:starEach (.List es pos::rest) env=(false,eval (.List es pos) env)::starEach rest env:=by rw [starEach];intro e p h;cases h
theorem sE_C{c j}{pos:Pos}{rest:List Expr}{env:Env}:starEach (.Constant c j pos::rest) env=(false,eval (.Constant c j pos) env)::starEach rest env:=by rw [starEach];intro e p h;cases h
end L2
namespace L2
open PySem PySem.Spec PyProof.Rows
end L2
namespace L2
open PySem
theorem pw_pt{X:Cx}{e:Expr}{t:TT}(h:PW X e t):PT X e t:=h.pt
end L2
namespace L2
open PySem PySem.Spec PyProof.Rows
theorem NoD.butL{H H':Hp}{p:Addr}{a b:List V}{x:V}(h1:H p=some (.lst a))(h2:H' p=some (.lst b))(s:But p H H')(h:NoD H x):NoD H' x:=fun c e=>by
 by_cases hc:c=p
 ·subst hc;exact .inl ⟨b,h2⟩
 ·rcases h c e with⟨xs,q⟩ | ⟨xs,q⟩
  ·exact .inl ⟨xs,s _ _ hc q⟩
  ·exact .inr ⟨xs,s _ _ hc q⟩
def Ts:Nat->Hp->V->Prop
 | 0,H,x=>Kn H x/\NoD H x
 | n+1,H,x=>Kn H x/\∀ xs,tupOf H x=some xs->∀ y∈xs,Ts n H y
theorem Ts.butL:∀{n:Nat} {H H':Hp} {p:Addr} {a b:List V} {x:V},H p=some (.lst a)->H' p=some (.lst b)->But p H H'->Ts n H x->Ts n H' x
 | 0,_,_,_,_,_,_,h1,h2,s,h=>⟨h.1.butL h1 h2 s,h.2.butL h1 h2 s⟩
 | n+1,_,_,_,_,_,_,h1,h2,s,h=>⟨h.1.butL h1 h2 s,fun xs e y hy=>Ts.butL h1 h2 s (h.2 xs ((tupOf_butL h1 h2 s h.1).symm.trans e) y hy)⟩
theorem Ts.pen{n:Nat}{H H':Hp}{p:Addr}{x:V}(h1:Pen H p)(h2:Pen H' p)(s:But p H H')(h:Ts n H x):Ts n H' x:=by
 obtain⟨a,b,c,e⟩:=h1
 obtain⟨a',b',c',e'⟩:=h2
 exact Ts.butL e e' s h
theorem Ts.tup{n:Nat}{H:Hp}{a:Addr}{xs:List V}(e:H a=some (.tup xs))(h:∀ y∈xs,Ts n H y):Ts (n+1) H (.ref a) :=
 ⟨.tup e,fun ys e' y hy=>by rw [tupOf_ref e] at e';cases e';exact h y hy⟩
theorem Ts.flat{n:Nat}{H:Hp}{x:V}(h:Kn H x)(e:tupOf H x=none)(d:NoD H x):Ts n H x:=by
 cases n with
 | zero=>exact⟨h,d⟩
 | succ n=>exact⟨h,fun xs e'=>by rw [e] at e';cases e'⟩
theorem Ts.int(n:Nat)(H:Hp)(i:Int):Ts n H (.int i):=Ts.flat (.int i) rfl (fun _ z=>by cases z)
theorem Ts.bl(n:Nat)(H:Hp)(b:Bool):Ts n H (.bl b):=Ts.flat (.bl b) rfl (fun _ z=>by cases z)
theorem Ts.str(n:Nat)(H:Hp)(x:Str):Ts n H (.str x):=Ts.flat (.str x) rfl (fun _ z=>by cases z)
theorem Ts.non(n:Nat)(H:Hp):Ts n H .non:=Ts.flat .non rfl (fun _ z=>by cases z)
theorem Ts.lst(n:Nat){H:Hp}{a:Addr}{xs:List V}(e:H a=some (.lst xs)):Ts n H (.ref a):=Ts.flat (.lst e) (by unfold tupOf;simp only [e]) (fun c z=>by cases z;exact .inl ⟨xs,e⟩)
theorem Ts.dct(n:Nat){H:Hp}{a:Addr}{ks:List (Key×V)}(e:H a=some (.dK ks)):Ts (n+1) H (.ref a):=⟨.dct e,fun xs e'=>by unfold tupOf at e';simp only [e] at e';cases e'⟩
open AutoSeq1 (wpAny_loadPart')
theorem noFill_tuple_times:fillsNumberSlot (.type "tuple") "mul" = pure false:=PySem.fillsNumberSlot_seq (id := "tuple.__mul__") (r:=some (.builtin "tuple.__rmul__")) PySem.F.slot_tuple_mul.lookup (by decide +kernel) PySem.F.slot_tuple_rmul.lookup (by decide +kernel)
theorem repeat_tup:seqRepeat? (.type "tuple")=pure (some (.builtin "tuple.__mul__")):=by
 unfold seqRepeat?
 rw [PySem.seqSlot_of (T := "tuple") (name := "__mul__") (id := "tuple.__mul__") PySem.F.slot_tuple_mul.lookup (by decide +kernel),PySem.seqSlot_of (T := "tuple") (name := "__rmul__") (id := "tuple.__rmul__") PySem.F.slot_tuple_rmul.lookup (by decide +kernel)]
 rfl
theorem rmul_int_tup(a:Int)(t:Tok)(l:Addr)(xs:Array Value)(n:Nat)(dd:Option Addr)(sl:Array (Option Value)):
  Meets (Builtin.«int.__rmul__» ⟨[.int a t,.ref l],[]⟩) (fun _ R s=>s.heap.get? l=some { cls:=.type "tuple",dict:=dd,data:=.seq xs n,slots:=sl }/\R (.ok (.ret Value.notImplemented)) s) :=
 .of_wp fun prog w A R s h=>by
  obtain⟨hp,g,d,tk,os⟩:=s
  obtain⟨hl,h⟩:=h
  wp_walk using wpAny_loadPart' hl
  exact⟨_,rfl,h⟩
theorem tup_mul_same(l:Addr)(xs:Array Value)(n:Nat)(x:Int)(u:Tok)(dd:Option Addr)(sl:Array (Option Value))(h0:¬ ((decide (x < -(2 ^ 63)) || decide (x ≥ 2 ^ 63))=true))(h1:(xs.isEmpty || x == 1)=true):
  Meets (Builtin.«tuple.__mul__» ⟨[.ref l,.int x u],[]⟩) (fun _ R s=>s.heap.get? l=some { cls:=.type "tuple",dict:=dd,data:=.seq xs n,slots:=sl }/\R (.ok (.ret (.ref l))) s) :=
 .of_wp fun prog w A R s h=>by
  obtain⟨hp,g,d,tk,os⟩:=s
  obtain⟨hl,h⟩:=h
  have f1:=AutoSeq1.idx_int
  have f2:=AutoSeq1.sub_tuple_tuple
  wp_walk using wpAny_loadPart' hl
  refine wpAny_ite_false (decide_eq_false h0) ?_
  wp_walk using wpAny_loadPart' hl
  exact⟨_,rfl,h⟩
theorem tup_mul_none(l:Addr)(xs:Array Value)(n:Nat)(x:Int)(u:Tok)(dd:Option Addr)(sl:Array (Option Value))(h0:¬ ((decide (x < -(2 ^ 63)) || decide (x ≥ 2 ^ 63))=true))(h1:¬ (xs.isEmpty || x == 1)=true)(h2:(decide (x<=0) || xs.isEmpty)=true):
  Meets (Builtin.«tuple.__mul__» ⟨[.ref l,.int x u],[]⟩) (fun _ R s=>s.heap.get? l=some { cls:=.type "tuple",dict:=dd,data:=.seq xs n,slots:=sl }/\R (.ok (.ret (.ref s.heap.objs.size))) { s with heap:=s.heap.push { cls:=.type "tuple",data:=.seq #[] },toks:=s.toks }) :=
 .of_wp fun prog w A R s h=>by
  obtain⟨hp,g,d,tk,os⟩:=s
  obtain⟨hl,h⟩:=h
  have f1:=AutoSeq1.idx_int
  have f2:=AutoSeq1.sub_tuple_tuple
  wp_walk using wpAny_loadPart' hl
  refine wpAny_ite_false (decide_eq_false h0) ?_
  wp_walk using wpAny_loadPart' hl
  exact⟨_,rfl,h⟩
theorem tup_mul_new(l:Addr)(xs:Array Value)(n:Nat)(x:Int)(u:Tok)(dd:Option Addr)(sl:Array (Option Value))(h0:¬ ((decide (x < -(2 ^ 63)) || decide (x ≥ 2 ^ 63))=true))(h1:¬ (xs.isEmpty || x == 1)=true)(h2:¬ (decide (x<=0) || xs.isEmpty)=true)
  (h3:¬ ((xs.size:Int) * x > (2 ^ 63-1) / 8)) (h4:¬ Builtin.Tuple.tupleTooMany ((xs.size:Int) * x)=true) (h5:(List.foldl (fun x1 x2=>x1++x2) #[] (List.replicate x.toNat xs)).size<=sizeLine) :
  Meets (Builtin.«tuple.__mul__» ⟨[.ref l,.int x u],[]⟩) (fun _ R s=>s.heap.get? l=some { cls:=.type "tuple",dict:=dd,data:=.seq xs n,slots:=sl }/\R (.ok (.ret (.ref s.heap.objs.size))) { s with heap:=s.heap.push { cls:=.type "tuple",data:=.seq (List.foldl (fun x1 x2=>x1++x2) #[] (List.replicate x.toNat xs)) },toks:=s.toks }) :=
 .of_wp fun prog w A R s h=>by
  obtain⟨hp,g,d,tk,os⟩:=s
  obtain⟨hl,h⟩:=h
  have f1:=AutoSeq1.idx_int
  have f2:=AutoSeq1.sub_tuple_tuple
  wp_walk using wpAny_loadPart' hl
  refine wpAny_ite_false (decide_eq_false h0) ?_
  wp_walk using wpAny_loadPart' hl
  refine wpAny_ite_false (decide_eq_false h3) ?_
  wp_walk using wpAny_loadPart' hl
  first
   | exact⟨_,rfl,h⟩
   | (refine wpAny_ite_false (decide_eq_false (Nat.not_lt.mpr h5)) ?_;wp_walk;exact⟨_,rfl,h⟩)
section
variable {X:Cx}
end
end L2
namespace L2
end L2
namespace L2
open PySem PySem.Spec PyProof.Rows
section
variable {X:Cx}{a b c d:Expr}{ta tb tc td:TE}{pos:Pos}
end
abbrev D:=PyData
def kD:Key->D
 | .inl i=>.int i
 | .inr x=>.str x
def PenO(a:Addr):HO:=.ext fun h=>∃(x y z:Int) (tx ty tz:Tok) (n:Nat),h.get? a=some { cls:=.type "list",data:=.seq #[.int x tx,.int y ty,.int z tz] n }
def HO.per:HO->Bool
 | .tup _=>true
 | .frz _ _=>true
 | .ext _=>true
 | _=>false
def Pers(H H':Hp):Prop:=∀ a o,H a=some o->o.per=true->H' a=some o
theorem Pers.refl(H:Hp):Pers H H:=fun _ _ h _=>h
theorem Pers.trans{H H1 H2:Hp}(a:Pers H H1)(b:Pers H1 H2):Pers H H2:=fun c o h p=>b c o (a c o h p) p
theorem Same.pers{H H':Hp}(s:Same H H'):Pers H H':=fun a o h _=>s a o h
theorem Pers.sqT{K:PySem.W.Frag}{H H':Hp}{a:Addr}{xs:List V}(p:Pers H H')(h:SqT K H a xs):SqT K H' a xs:=by
 rcases h with(h | ⟨o,h⟩) | h
 ·exact .inl (.inl (p _ _ h rfl))
 ·exact .inl (.inr ⟨o,p _ _ h rfl⟩)
 ·exact .inr h
section
variable (K:PySem.W.Frag)
mutual
inductive Rep(H:Hp):D->V->Prop
 | non:Rep H .none .non
 | bl {b:Bool}:Rep H (.bool b) (.bl b)
 | int {i:Int}:Rep H (.int i) (.int i)
 | str {x:Str}:Rep H (.str x) (.str x)
 | tup {xs:List D} {a:Addr} {vs:List V} (h:SqT K H a vs) (r:Reps H xs vs):Rep H (.tuple xs) (.ref a)
 | lst {xs:List D} {a:Addr} {vs:List V} {o:Obj} (h:H a=some (.frz o (.lst vs))) (r:Reps H xs vs):Rep H (.list xs) (.ref a)
 | dic {kvs:List (D×D)} {a:Addr} {kws:List (Key×V)} {o:Obj} (h:H a=some (.frz o (.dK kws))) (r:RepK H kvs kws):Rep H (.dict kvs) (.ref a)
inductive Reps(H:Hp):List D->List V->Prop
 | nil:Reps H [] []
 | cons {d:D} {v:V} {ds:List D} {vs:List V} (r:Rep H d v) (t:Reps H ds vs):Reps H (d::ds) (v::vs)
inductive RepK(H:Hp):List (D×D)->List (Key×V)->Prop
 | nil:RepK H [] []
 | cons {k:Key} {d:D} {v:V} {ds:List (D×D)} {vs:List (Key×V)} (r:Rep H d v) (t:RepK H ds vs):RepK H ((kD k,d)::ds) ((k,v)::vs)
end
end
section
variable {K:PySem.W.Frag}{H H':Hp}
mutual
theorem Rep.mono(p:Pers H H'):∀{d:D} {v:V},Rep K H d v->Rep K H' d v
 | _,_,.non=>.non
 | _,_,.bl=>.bl
 | _,_,.int=>.int
 | _,_,.str=>.str
 | _,_,.tup h r=>.tup (p.sqT h) (Reps.mono p r)
 | _,_,.lst h r=>.lst (p _ _ h rfl) (Reps.mono p r)
 | _,_,.dic h r=>.dic (p _ _ h rfl) (RepK.mono p r)
theorem Reps.mono(p:Pers H H'):∀{ds:List D} {vs:List V},Reps K H ds vs->Reps K H' ds vs
 | _,_,.nil=>.nil
 | _,_,.cons r t=>.cons (Rep.mono p r) (Reps.mono p t)
theorem RepK.mono(p:Pers H H'):∀{ds:List (D×D)} {vs:List (Key×V)},RepK K H ds vs->RepK K H' ds vs
 | _,_,.nil=>.nil
 | _,_,.cons r t=>.cons (Rep.mono p r) (RepK.mono p t)
end
theorem Reps.length:∀{ds:List D} {vs:List V},Reps K H ds vs->ds.length=vs.length
 | _,_,.nil=>rfl
 | _,_,.cons _ t=>by simp [t.length]
theorem Reps.append:∀{ds es:List D} {vs ws:List V},Reps K H ds vs->Reps K H es ws->Reps K H (ds++es) (vs++ws)
 | _,_,_,_,.nil,s=>s
 | _,_,_,_,.cons r t,s=>.cons r (t.append s)
theorem Reps.get:∀{ds:List D} {vs:List V} {i:Nat} {d:D},Reps K H ds vs->ds[i]?=some d->∃ v,vs[i]?=some v/\Rep K H d v
 | _,_,_,_,.nil,e=>by simp at e
 | _,_,0,_,.cons r _,e=>by simp at e;subst e;exact⟨_,rfl,r⟩
 | _,_,i+1,_,.cons _ t,e=>by
  obtain⟨v,h1,h2⟩:=t.get (i:=i) (by simpa using e)
  exact⟨v,by simpa using h1,h2⟩
theorem Reps.take:∀{ds:List D} {vs:List V} (n:Nat),Reps K H ds vs->Reps K H (ds.take n) (vs.take n)
 | _,_,0,_=>.nil
 | _,_,_+1,.nil=>.nil
 | _,_,n+1,.cons r t=>.cons r (t.take n)
theorem Reps.drop:∀{ds:List D} {vs:List V} (n:Nat),Reps K H ds vs->Reps K H (ds.drop n) (vs.drop n)
 | _,_,0,r=>r
 | _,_,_+1,.nil=>.nil
 | _,_,n+1,.cons _ t=>t.drop n
theorem Reps.set{d:D}{v:V}(r:Rep K H d v):∀{ds:List D} {vs:List V} (i:Nat),Reps K H ds vs->Reps K H (ds.set i d) (vs.set i v)
 | _,_,_,.nil=>.nil
 | _,_,0,.cons _ t=>.cons r t
 | _,_,i+1,.cons q t=>.cons q (Reps.set r i t)
theorem Reps.reverse{ds:List D}{vs:List V}(h:Reps K H ds vs):Reps K H ds.reverse vs.reverse:=by
 induction ds generalizing vs with
 | nil=>cases h;exact .nil
 | cons d ds ih =>
  cases h with
  | cons r t=>rw [List.reverse_cons,List.reverse_cons];exact(ih t).append (.cons r .nil)
theorem Reps.rep{ds:List D}{vs:List V}(h:Reps K H ds vs):∀ k:Nat,Reps K H (List.replicate k ds).flatten (List.replicate k vs).flatten
 | 0=>.nil
 | k+1=>by
  rw [List.replicate_succ,List.replicate_succ,List.flatten_cons,List.flatten_cons]
  exact h.append (h.rep k)
theorem Reps.ints:∀{ns:List Int},Reps K H (ns.map PyData.int) (ns.map V.int)
 | []=>.nil
 | _::_=>.cons .int Reps.ints
theorem Reps.of_ints:∀{ns:List Int} {vs:List V},Reps K H (ns.map PyData.int) vs->vs=ns.map V.int
 | [],_,.nil=>rfl
 | _::_,_,.cons .int t=>by rw [Reps.of_ints t];rfl
theorem Reps.same(s:Same H H'){ds:List D}{vs:List V}(r:Reps K H ds vs):Reps K H' ds vs:=r.mono s.pers
theorem Rep.same(s:Same H H'){d:D}{v:V}(r:Rep K H d v):Rep K H' d v:=r.mono s.pers
end
section
variable (K:PySem.W.Frag)
mutual
inductive RepN(H:Hp):D->V->Prop
 | non:RepN H .none .non
 | bl {b:Bool}:RepN H (.bool b) (.bl b)
 | int {i:Int}:RepN H (.int i) (.int i)
 | str {x:Str}:RepN H (.str x) (.str x)
 | tup {xs:List D} {a:Addr} {vs:List V} (h:SqT K H a vs) (r:RepNs H xs vs):RepN H (.tuple xs) (.ref a)
 | lst {xs:List D} {a:Addr} {vs:List V} (h:Rd H a (.lst vs)) (r:RepNs H xs vs):RepN H (.list xs) (.ref a)
inductive RepNs(H:Hp):List D->List V->Prop
 | nil:RepNs H [] []
 | cons {d:D} {v:V} {ds:List D} {vs:List V} (r:RepN H d v) (t:RepNs H ds vs):RepNs H (d::ds) (v::vs)
end
end
section
variable {K:PySem.W.Frag}{H H':Hp}
theorem Same.rd(s:Same H H'){a:Addr}{u:HO}(h:Rd H a u):Rd H' a u:=by
 rcases h with h | ⟨o,h⟩
 ·exact .inl (s _ _ h)
 ·exact .inr ⟨o,s _ _ h⟩
mutual
theorem RepN.gen(ht:∀{a vs},SqT K H a vs->SqT K H' a vs)(hl:∀{a vs},Rd H a (.lst vs)->Rd H' a (.lst vs)):∀{d:D} {v:V},RepN K H d v->RepN K H' d v
 | _,_,.non=>.non
 | _,_,.bl=>.bl
 | _,_,.int=>.int
 | _,_,.str=>.str
 | _,_,.tup h r=>.tup (ht h) (RepNs.gen ht hl r)
 | _,_,.lst h r=>.lst (hl h) (RepNs.gen ht hl r)
theorem RepNs.gen(ht:∀{a vs},SqT K H a vs->SqT K H' a vs)(hl:∀{a vs},Rd H a (.lst vs)->Rd H' a (.lst vs)):∀{ds:List D} {vs:List V},RepNs K H ds vs->RepNs K H' ds vs
 | _,_,.nil=>.nil
 | _,_,.cons r t=>.cons (RepN.gen ht hl r) (RepNs.gen ht hl t)
end
theorem RepN.same(s:Same H H'){d:D}{v:V}(h:RepN K H d v):RepN K H' d v:=h.gen (fun h=>s.pers.sqT h) (fun h=>s.rd h)
mutual
theorem Rep.now:∀{d:D} {v:V},Rep K H d v->(∀ kvs,d ≠ .dict kvs)->d.canLay0=true->RepN K H d v
 | _,_,.non,_,_=>.non
 | _,_,.bl,_,_=>.bl
 | _,_,.int,_,_=>.int
 | _,_,.str,_,_=>.str
 | _,_,.tup h r,_,c=>.tup h (Reps.now r (by simpa [PyData.canLay0] using c))
 | _,_,.lst h r,_,c=>.lst (.inr ⟨_,h⟩) (Reps.now r (by simpa [PyData.canLay0] using c))
 | _,_,.dic _ _,n,_=>absurd rfl (n _)
theorem Reps.now:∀{ds:List D} {vs:List V},Reps K H ds vs->PyData.canLayAll0 ds=true->RepNs K H ds vs
 | _,_,.nil,_=>.nil
 | _,_,.cons r t,c=>by
  simp only [PyData.canLayAll0,Bool.and_eq_true] at c
  exact .cons (Rep.now r (fun kvs e=>by subst e;simp [PyData.canLay0] at c) c.1) (Reps.now t c.2)
end
end
inductive Mx where
 | v (d:D) | l (xs:List D)
inductive O where
 | lst (xs:List D)
 | dct (kvs:List (Key×D))
 | nst (xss:List (List D)) (ds:List D)
 | anc (a:Addr) (o:O)
 | ins (c:Str) (fs:List (Str×D))
 | mix (ms:List Mx)
inductive W where
 | val (d:D) | vw (xs:List D) | vd (xs:List (Key×D)) | exc (x:Str×List (Str×Int)) | scr (ns:List Int) | pen | tmp (d:D) | own (o:O)
abbrev DSt:=List (Option W)
def clrS:Option W->Option W
 | some (.tmp _)=>none
 | w=>w
def clr(σ:DSt):DSt:=σ.map clrS
section
variable (K:PySem.W.Frag)
def RepL(H:Hp)(xs:List D)(v:V):Prop:=∃ a vs,v=.ref a/\Rd H a (.lst vs)/\Reps K H xs vs
def RepT(H:Hp)(d:D)(v:V):Prop:=Rep K H d v\/∃ xs,d=.list xs/\RepL K H xs v
def RepKV(K:PySem.W.Frag)(H:Hp)(ks:List (Key×D))(vs:List (Key×V)):Prop:=ks.map (·.1)=vs.map (·.1)/\Reps K H (ks.map (·.2)) (vs.map (·.2))
def Nst(H:Hp):List (List D)->List Addr->Prop
 | [],[]=>True
 | xs::xss,b::bs=>(∃ vs,H b=some (.lst vs)/\Reps K H xs vs)/\Nst H xss bs
 | _,_=>False
def MxR(H:Hp):List Mx->List V->List Addr->Prop
 | [],[],[]=>True
 | .v d::ms,u::us,bs=>Rep K H d u/\MxR H ms us bs
 | .l xs::ms,u::us,b::bs=>u=.ref b/\(∃ vs,H b=some (.lst vs)/\Reps K H xs vs)/\MxR H ms us bs
 | _,_,_=>False
def RepO(H:Hp):O->V->List Addr->Prop
 | .mix ms,v,fp=>∃ a us bs,v=.ref a/\fp=a::bs/\H a=some (.lst us)/\MxR K H ms us bs
 | .lst xs,v,fp=>∃ a vs,v=.ref a/\fp = [a]/\H a=some (.lst vs)/\Reps K H xs vs
 | .dct ks,v,fp=>∃ a vs,v=.ref a/\fp = [a]/\H a=some (.dK vs)/\RepKV K H ks vs
 | .nst xss ds,v,fp=>∃ a as us,v=.ref a/\fp=a::as/\H a=some (.lst (as.map V.ref++us))/\Nst K H xss as/\Reps K H ds us
 | .anc a o,v,fp=>v=.ref a/\RepO H o v fp
 | .ins c fs,v,fp=>∃ a dx C fv,v=.ref a/\fp = [a,dx]/\PySem.W.nsIn K mainGlobals c=some (some (.ref C))/\H a=some (.ins C dx fv)/\H dx=some (.own a)/\fv.map (·.1)=fs.map (·.1)/\Reps K H (fs.map (·.2)) (fv.map (·.2))
def RepD(H:Hp)(xs:List (Key×D))(v:V):Prop:=∃ a vs,v=.ref a/\H a=some (.dK vs)/\RepKV K H xs vs
def ExcO(C:Addr)(od:Option Addr)(a:Addr):HO:=.ext fun h=>∃ oe,h.get? a=some oe/\oe.cls=.ref C/\oe.dict=od/\∃ vs,oe.data=.fields vs
def RepX(H:Hp)(x:Str×List (Str×Int))(v:V):Prop:=∃ a C od,v=.ref a/\PySem.W.nsIn K mainGlobals x.1=some (some (.ref C))/\H a=some (ExcO C od a)/\((x.2 = []/\od=none)\/∃ d,od=some d/\H d=some (.xd (x.2.map fun p=>(p.1,V.int p.2))))
inductive Slots(H₀ H:Hp):DSt->St->List Addr->Prop
 | nil:Slots H₀ H [] [] []
 | none {v:Option V} {ws:DSt} {vs:St} {fp:List Addr} (t:Slots H₀ H ws vs fp):Slots H₀ H (Option.none::ws) (v::vs) fp
 | val {d:D} {v:V} {ws:DSt} {vs:St} {fp:List Addr} (r:Rep K H d v) (t:Slots H₀ H ws vs fp):Slots H₀ H (some (.val d)::ws) (some v::vs) fp
 | vw {xs:List D} {v:V} {ws:DSt} {vs:St} {fp:List Addr} (r:RepL K H₀ xs v) (t:Slots H₀ H ws vs fp):Slots H₀ H (some (.vw xs)::ws) (some v::vs) fp
 | vd {xs:List (Key×D)} {v:V} {ws:DSt} {vs:St} {fp:List Addr} (r:RepD K H₀ xs v) (t:Slots H₀ H ws vs fp):Slots H₀ H (some (.vd xs)::ws) (some v::vs) fp
 | exc {xs:Str×List (Str×Int)} {v:V} {ws:DSt} {vs:St} {fp:List Addr} (r:RepX K H₀ xs v) (t:Slots H₀ H ws vs fp):Slots H₀ H (some (.exc xs)::ws) (some v::vs) fp
 | scr {ns:List Int} {a:Addr} {ws:DSt} {vs:St} {fp:List Addr} (r:SqL K H₀ a (ns.map V.int)) (t:Slots H₀ H ws vs fp):Slots H₀ H (some (.scr ns)::ws) (some (.ref a)::vs) fp
 | pen {a:Addr} {ws:DSt} {vs:St} {fp:List Addr} (r:H a=some (PenO a)) (t:Slots H₀ H ws vs fp):Slots H₀ H (some .pen::ws) (some (.ref a)::vs) fp
 | tmp {d:D} {v:V} {ws:DSt} {vs:St} {fp:List Addr} (r:RepN K H d v) (t:Slots H₀ H ws vs fp):Slots H₀ H (some (.tmp d)::ws) (some v::vs) fp
 | own {o:O} {v:V} {f:List Addr} {ws:DSt} {vs:St} {fp:List Addr} (r:RepO K H o v f) (t:Slots H₀ H ws vs fp):Slots H₀ H (some (.own o)::ws) (some v::vs) (f++fp)
structure DOk(H₀ H:Hp)(σD:DSt)(σ:St):Prop where
 same:Same H₀ H
 slots:∃ fp,Slots K H₀ H σD σ fp/\fp.Nodup/\∀ a∈fp,H₀ a=none
end
section
variable {K:PySem.W.Frag}{H₀ H H':Hp}{σD:DSt}{σ:St}
theorem RepX.same(s:Same H H'){xs:Str×List (Str×Int)}{v:V}:RepX K H xs v->RepX K H' xs v:=by
 rintro ⟨a,C,od,rfl,n,h,r⟩
 refine⟨a,C,od,rfl,n,s _ _ h,?_⟩
 rcases r with r | ⟨d,e,r⟩
 ·exact .inl r
 ·exact .inr ⟨d,e,s _ _ r⟩
theorem RepD.same(s:Same H H'){xs:List (Key×D)}{v:V}:RepD K H xs v->RepD K H' xs v:=by
 rintro ⟨a,vs,rfl,h,r⟩
 exact⟨a,vs,rfl,s _ _ h,r.1,r.2.same s⟩
theorem RepL.same(s:Same H H'){xs:List D}{v:V}:RepL K H xs v->RepL K H' xs v:=by
 rintro ⟨a,vs,rfl,h,r⟩
 refine⟨a,vs,rfl,?_,r.same s⟩
 rcases h with h | ⟨o,h⟩
 ·exact .inl (s _ _ h)
 ·exact .inr ⟨o,s _ _ h⟩
theorem RepT.same(s:Same H H'){d:D}{v:V}:RepT K H d v->RepT K H' d v
 | .inl h=>.inl (h.same s)
 | .inr ⟨xs,e,h⟩=>.inr ⟨xs,e,h.same s⟩
theorem Rep.top{d:D}{v:V}(h:Rep K H d v):RepT K H d v:=.inl h
theorem RepT.list{xs:List D}{v:V}(h:RepT K H (.list xs) v):RepL K H xs v:=by
 rcases h with h | ⟨ys,e,h⟩
 ·cases h with
  | lst h r=>exact⟨_,_,rfl,.inr ⟨_,h⟩,r⟩
 ·cases e;exact h
theorem RepL.sq{xs:List D}{v:V}(h:RepL K H xs v):∃ a vs,v=.ref a/\SqL K H a vs/\Reps K H xs vs:=by
 obtain⟨a,vs,rfl,h,r⟩:=h
 exact⟨a,vs,rfl,.inl h,r⟩
theorem RepT.rep{d:D}{v:V}(h:RepT K H d v)(n:∀ xs,d ≠ .list xs):Rep K H d v:=by
 rcases h with h | ⟨ys,e,_⟩
 ·exact h
 ·exact absurd e (n ys)
theorem Nst.len:∀{xss:List (List D)} {as:List Addr},Nst K H xss as->as.length=xss.length
 | [],[],_=>rfl
 | _::_,_::_,h=>by rw [List.length_cons,List.length_cons,Nst.len h.2]
theorem Nst.live:∀{xss:List (List D)} {as:List Addr},Nst K H xss as->∀ b∈as,∃ vs,H b=some (.lst vs)
 | [],[],_,b,hb=>by cases hb
 | _::_,_::_,h,b,hb=>by
  rcases List.mem_cons.mp hb with rfl | hb
  ·obtain⟨vs,e,_⟩:=h.1;exact⟨vs,e⟩
  ·exact Nst.live h.2 b hb
theorem Nst.keep(p:Pers H H'):∀{xss:List (List D)} {as:List Addr},(∀ a∈as,∀ u,H a=some u->H' a=some u)->Nst K H xss as->Nst K H' xss as
 | [],[],_,_=>trivial
 | _::_,b::_,k,h=>by
  obtain⟨⟨vs,e,r⟩,t⟩:=h
  exact⟨⟨vs,k b List.mem_cons_self _ e,r.mono p⟩,Nst.keep p (fun a ha=>k a (List.mem_cons_of_mem _ ha)) t⟩
theorem MxR.live:∀{ms:List Mx} {us:List V} {bs:List Addr},MxR K H ms us bs->∀ b∈bs,∃ vs,H b=some (.lst vs)
 | [],[],[],_,b,hb=>by cases hb
 | .v _::_,_::_,_,h,b,hb=>MxR.live h.2 b hb
 | .l _::_,_::_,c::_,h,b,hb=>by
  rcases List.mem_cons.mp hb with rfl | hb
  ·obtain⟨vs,e,_⟩:=h.2.1;exact⟨vs,e⟩
  ·exact MxR.live h.2.2 b hb
theorem MxR.keep(p:Pers H H'):∀{ms:List Mx} {us:List V} {bs:List Addr},(∀ a∈bs,∀ u,H a=some u->H' a=some u)->MxR K H ms us bs->MxR K H' ms us bs
 | [],[],[],_,_=>trivial
 | .v _::_,_::_,_,k,h=>⟨h.1.mono p,MxR.keep p k h.2⟩
 | .l _::_,_::_,b::_,k,h=>by
  obtain⟨e0,⟨vs,e,r⟩,t⟩:=h
  exact⟨e0,⟨vs,k b List.mem_cons_self _ e,r.mono p⟩,MxR.keep p (fun a ha=>k a (List.mem_cons_of_mem _ ha)) t⟩
theorem MxR.len:∀{ms:List Mx} {us:List V} {bs:List Addr},MxR K H ms us bs->ms.length=us.length
 | [],[],[],_=>rfl
 | .v _::_,_::_,_,h=>by rw [List.length_cons,List.length_cons,MxR.len h.2]
 | .l _::_,_::_,_::_,h=>by rw [List.length_cons,List.length_cons,MxR.len h.2.2]
theorem RepO.live{o:O}{v:V}{f:List Addr}(h:RepO K H o v f):∀ a∈f,∃ u,H a=some u/\u.per=false:=by
 induction o with
 | anc a o ih=>exact ih h.2
 | mix ms =>
  obtain⟨a,us,bs,rfl,rfl,e,m⟩:=h
  intro b hb
  rcases List.mem_cons.mp hb with rfl | hb
  ·exact⟨_,e,rfl⟩
  ·obtain⟨vs,e2⟩:=m.live b hb
   exact⟨_,e2,rfl⟩
 | ins c fs =>
  obtain⟨a,dx,C,fv,rfl,rfl,_,e1,e2,_⟩:=h
  intro b hb
  simp only [List.mem_cons,List.not_mem_nil,or_false] at hb
  rcases hb with rfl | rfl
  ·exact⟨_,e1,rfl⟩
  ·exact⟨_,e2,rfl⟩
 | lst xs =>
  obtain⟨a,vs,rfl,rfl,e,r⟩:=h
  intro b hb
  rw [List.mem_singleton.mp hb]
  exact⟨_,e,rfl⟩
 | dct ks =>
  obtain⟨a,vs,rfl,rfl,e,r⟩:=h
  intro b hb
  rw [List.mem_singleton.mp hb]
  exact⟨_,e,rfl⟩
 | nst xss ds =>
  obtain⟨a,as,us,rfl,rfl,e,n,r⟩:=h
  intro b hb
  rcases List.mem_cons.mp hb with rfl | hb
  ·exact⟨_,e,rfl⟩
  ·obtain⟨vs,e2⟩:=n.live b hb
   exact⟨_,e2,rfl⟩
theorem RepO.keep{o:O}{v:V}{f:List Addr}(p:Pers H H')(k:∀ a∈f,∀ u,H a=some u->H' a=some u)(h:RepO K H o v f):RepO K H' o v f:=by
 induction o with
 | anc a o ih=>exact⟨h.1,ih h.2⟩
 | mix ms =>
  obtain⟨a,us,bs,rfl,rfl,e,m⟩:=h
  exact⟨a,us,bs,rfl,rfl,k a List.mem_cons_self _ e,m.keep p fun b hb=>k b (List.mem_cons_of_mem _ hb)⟩
 | ins c fs =>
  obtain⟨a,dx,C,fv,rfl,rfl,n,e1,e2,e3,r⟩:=h
  exact⟨a,dx,C,fv,rfl,rfl,n,k a (by simp) _ e1,k dx (by simp) _ e2,e3,r.mono p⟩
 | lst xs =>
  obtain⟨a,vs,rfl,rfl,e,r⟩:=h
  exact⟨a,vs,rfl,rfl,k a (by simp) _ e,r.mono p⟩
 | dct ks =>
  obtain⟨a,vs,rfl,rfl,e,r⟩:=h
  exact⟨a,vs,rfl,rfl,k a (by simp) _ e,r.1,r.2.mono p⟩
 | nst xss ds =>
  obtain⟨a,as,us,rfl,rfl,e,n,r⟩:=h
  exact⟨a,as,us,rfl,rfl,k a List.mem_cons_self _ e,n.keep p fun b hb=>k b (List.mem_cons_of_mem _ hb),r.mono p⟩
theorem Slots.live{fp:List Addr}(h:Slots K H₀ H σD σ fp):∀ a∈fp,∃ u,H a=some u/\u.per=false:=by
 induction h with
 | nil=>intro a ha;cases ha
 | none _ ih=>exact ih
 | val _ _ ih=>exact ih
 | vw _ _ ih=>exact ih
 | vd _ _ ih=>exact ih
 | exc _ _ ih=>exact ih
 | scr _ _ ih=>exact ih
 | pen _ _ ih=>exact ih
 | tmp _ _ ih=>exact ih
 | own r _ ih =>
  intro a ha
  rcases List.mem_append.mp ha with z | z
  ·exact r.live a z
  ·exact ih a z
theorem Slots.keep{fp:List Addr}(p:Pers H H')(kn:∀{d:D} {v:V},RepN K H d v->RepN K H' d v)(k:∀ a∈fp,∀ u,H a=some u->H' a=some u)(h:Slots K H₀ H σD σ fp):Slots K H₀ H' σD σ fp:=by
 induction h with
 | nil=>exact .nil
 | none _ ih=>exact .none (ih k)
 | val r _ ih=>exact .val (r.mono p) (ih k)
 | vw r _ ih=>exact .vw r (ih k)
 | vd r _ ih=>exact .vd r (ih k)
 | exc r _ ih=>exact .exc r (ih k)
 | scr r _ ih=>exact .scr r (ih k)
 | pen r _ ih=>exact .pen (p _ _ r rfl) (ih k)
 | tmp r _ ih=>exact .tmp (kn r) (ih k)
 | own r _ ih=>exact .own (r.keep p fun a ha=>k a (List.mem_append_left _ ha)) (ih fun a ha=>k a (List.mem_append_right _ ha))
theorem Slots.keepC{fp:List Addr}(p:Pers H H')(k:∀ a∈fp,∀ u,H a=some u->H' a=some u)(h:Slots K H₀ H σD σ fp):Slots K H₀ H' (clr σD) σ fp:=by
 induction h with
 | nil=>exact .nil
 | none _ ih=>exact .none (ih k)
 | val r _ ih=>exact .val (r.mono p) (ih k)
 | vw r _ ih=>exact .vw r (ih k)
 | vd r _ ih=>exact .vd r (ih k)
 | exc r _ ih=>exact .exc r (ih k)
 | scr r _ ih=>exact .scr r (ih k)
 | pen r _ ih=>exact .pen (p _ _ r rfl) (ih k)
 | tmp r _ ih=>exact .none (ih k)
 | own r _ ih=>exact .own (r.keep p fun a ha=>k a (List.mem_append_left _ ha)) (ih fun a ha=>k a (List.mem_append_right _ ha))
theorem Slots.length{fp:List Addr}(h:Slots K H₀ H σD σ fp):σD.length=σ.length:=by
 induction h with
 | nil=>rfl
 | none _ ih=>simp [ih]
 | val _ _ ih=>simp [ih]
 | vw _ _ ih=>simp [ih]
 | vd _ _ ih=>simp [ih]
 | exc _ _ ih=>simp [ih]
 | scr _ _ ih=>simp [ih]
 | pen _ _ ih=>simp [ih]
 | tmp _ _ ih=>simp [ih]
 | own _ _ ih=>simp [ih]
theorem DOk.after(s:Same H H')(h:DOk K H₀ H σD σ):DOk K H₀ H' σD σ:=by
 obtain⟨s0,fp,sl,nd,fr⟩:=h
 exact⟨s0.trans s,fp,sl.keep s.pers (fun h=>h.same s) fun a _ u e=>s a u e,nd,fr⟩
theorem DOk.len(h:DOk K H₀ H σD σ):σD.length=σ.length:=let ⟨_,_,sl,_⟩:=h;sl.length
theorem Slots.get{fp:List Addr}(h:Slots K H₀ H σD σ fp):∀{i:Nat} {w:W},σD[i]?=some (some w)->∃ v,σ[i]?=some (some v)/\match w with
  | .val d=>Rep K H d v
  | .vw xs=>RepL K H₀ xs v
  | .vd xs=>RepD K H₀ xs v
  | .exc xs=>RepX K H₀ xs v
  | .scr ns=>∃ a,v=.ref a/\SqL K H₀ a (ns.map V.int)
  | .pen=>∃ a,v=.ref a/\H a=some (PenO a)
  | .tmp d=>RepN K H d v
  | .own o=>∃ f,RepO K H o v f/\∀ a∈f,a∈fp:=by
 induction h with
 | nil=>intro i w e;simp at e
 | none _ ih =>
  intro i w e
  cases i with
  | zero=>simp at e
  | succ i=>exact ih (by simpa using e)
 | val r _ ih =>
  intro i w e
  cases i with
  | zero=>simp at e;subst e;exact⟨_,rfl,r⟩
  | succ i=>exact ih (by simpa using e)
 | vw r _ ih =>
  intro i w e
  cases i with
  | zero=>simp at e;subst e;exact⟨_,rfl,r⟩
  | succ i=>exact ih (by simpa using e)
 | vd r _ ih =>
  intro i w e
  cases i with
  | zero=>simp at e;subst e;exact⟨_,rfl,r⟩
  | succ i=>exact ih (by simpa using e)
 | exc r _ ih =>
  intro i w e
  cases i with
  | zero=>simp at e;subst e;exact⟨_,rfl,r⟩
  | succ i=>exact ih (by simpa using e)
 | scr r _ ih =>
  intro i w e
  cases i with
  | zero=>simp at e;subst e;exact⟨_,rfl,_,rfl,r⟩
  | succ i=>exact ih (by simpa using e)
 | pen r _ ih =>
  intro i w e
  cases i with
  | zero=>simp at e;subst e;exact⟨_,rfl,_,rfl,r⟩
  | succ i=>exact ih (by simpa using e)
 | tmp r _ ih =>
  intro i w e
  cases i with
  | zero=>simp at e;subst e;exact⟨_,rfl,r⟩
  | succ i=>exact ih (by simpa using e)
 | own r _ ih =>
  intro i w e
  cases i with
  | zero=>simp at e;subst e;exact⟨_,rfl,_,r,fun a ha=>List.mem_append_left _ ha⟩
  | succ i =>
   obtain⟨v,e1,e2⟩:=ih (by simpa using e)
   refine⟨v,e1,?_⟩
   cases w with
   | val d=>exact e2
   | vw xs=>exact e2
   | vd xs=>exact e2
   | exc xs=>exact e2
   | scr ns=>exact e2
   | pen=>exact e2
   | tmp d=>exact e2
   | own o=>obtain⟨f,r,m⟩:=e2;exact⟨f,r,fun a ha=>List.mem_append_right _ (m a ha)⟩
theorem DOk.val(h:DOk K H₀ H σD σ){i:Nat}{d:D}(e:σD[i]?=some (some (.val d))):∃ v,σ[i]?=some (some v)/\Rep K H d v:=let ⟨_,_,sl,_⟩:=h;sl.get e
theorem DOk.vw(h:DOk K H₀ H σD σ){i:Nat}{xs:List D}(e:σD[i]?=some (some (.vw xs))):∃ v,σ[i]?=some (some v)/\RepL K H xs v:=by
 obtain⟨s,_,sl,_⟩:=h
 obtain⟨v,e1,e2⟩:=sl.get e
 exact⟨v,e1,RepL.same s e2⟩
theorem DOk.vd(h:DOk K H₀ H σD σ){i:Nat}{xs:List (Key×D)}(e:σD[i]?=some (some (.vd xs))):∃ v,σ[i]?=some (some v)/\RepD K H xs v:=by
 obtain⟨s,_,sl,_⟩:=h
 obtain⟨v,e1,e2⟩:=sl.get e
 exact⟨v,e1,RepD.same s e2⟩
theorem DOk.exc(h:DOk K H₀ H σD σ){i:Nat}{xs:Str×List (Str×Int)}(e:σD[i]?=some (some (.exc xs))):∃ v,σ[i]?=some (some v)/\RepX K H xs v:=by
 obtain⟨s,_,sl,_⟩:=h
 obtain⟨v,e1,e2⟩:=sl.get e
 exact⟨v,e1,RepX.same s e2⟩
theorem DOk.scr(h:DOk K H₀ H σD σ){i:Nat}{ns:List Int}(e:σD[i]?=some (some (.scr ns))):∃ a,σ[i]?=some (some (.ref a))/\SqL K H a (ns.map V.int):=by
 obtain⟨s,_,sl,_⟩:=h
 obtain⟨v,e1,a,rfl,e2⟩:=sl.get e
 exact⟨a,e1,s.seq e2⟩
theorem DOk.pen(h:DOk K H₀ H σD σ){i:Nat}(e:σD[i]?=some (some .pen)):∃ a,σ[i]?=some (some (.ref a))/\H a=some (PenO a):=by
 obtain⟨s,_,sl,_⟩:=h
 obtain⟨v,e1,a,rfl,e2⟩:=sl.get e
 exact⟨a,e1,e2⟩
theorem DOk.tmp(h:DOk K H₀ H σD σ){i:Nat}{d:D}(e:σD[i]?=some (some (.tmp d))):∃ v,σ[i]?=some (some v)/\RepN K H d v:=let ⟨_,_,sl,_⟩:=h;sl.get e
theorem DOk.ownL(h:DOk K H₀ H σD σ){i:Nat}{xs:List D}(e:σD[i]?=some (some (.own (.lst xs)))):∃ a vs,σ[i]?=some (some (.ref a))/\H a=some (.lst vs)/\Reps K H xs vs/\H₀ a=none:=by
 obtain⟨s,fp,sl,nd,fr⟩:=h
 obtain⟨v,e1,f,⟨a,vs,rfl,rfl,e2,r⟩,m⟩:=sl.get e
 exact⟨a,vs,e1,e2,r,fr a (m a (by simp))⟩
theorem DOk.ownD(h:DOk K H₀ H σD σ){i:Nat}{xs:List (Key×D)}(e:σD[i]?=some (some (.own (.dct xs)))):∃ a vs,σ[i]?=some (some (.ref a))/\H a=some (.dK vs)/\RepKV K H xs vs/\H₀ a=none:=by
 obtain⟨s,fp,sl,nd,fr⟩:=h
 obtain⟨v,e1,f,⟨a,vs,rfl,rfl,e2,r⟩,m⟩:=sl.get e
 exact⟨a,vs,e1,e2,r,fr a (m a (by simp))⟩
theorem Slots.set{fp f:List Addr}(h:Slots K H₀ H σD σ fp){w:Option W}{v:Option V}(hw:∀{ws:DSt} {vs:St} {g:List Addr},Slots K H₀ H ws vs g->Slots K H₀ H (w::ws) (v::vs) (f++g)):
  ∀(i:Nat),i<σD.length->∃ g g',Slots K H₀ H (σD.set i w) (σ.set i v) (g++(f++g'))/\(g++g').Sublist fp:=by
 induction h with
 | nil=>intro i hi;exact absurd hi (Nat.not_lt_zero _)
 | none t ih =>
  intro i hi
  cases i with
  | zero=>exact⟨[],_,hw t,List.Sublist.refl _⟩
  | succ i=>obtain⟨g,g',e,s⟩:=ih i (Nat.lt_of_succ_lt_succ hi);exact⟨g,g',.none e,s⟩
 | val r t ih =>
  intro i hi
  cases i with
  | zero=>exact⟨[],_,hw t,List.Sublist.refl _⟩
  | succ i=>obtain⟨g,g',e,s⟩:=ih i (Nat.lt_of_succ_lt_succ hi);exact⟨g,g',.val r e,s⟩
 | vw r t ih =>
  intro i hi
  cases i with
  | zero=>exact⟨[],_,hw t,List.Sublist.refl _⟩
  | succ i=>obtain⟨g,g',e,s⟩:=ih i (Nat.lt_of_succ_lt_succ hi);exact⟨g,g',.vw r e,s⟩
 | vd r t ih =>
  intro i hi
  cases i with
  | zero=>exact⟨[],_,hw t,List.Sublist.refl _⟩
  | succ i=>obtain⟨g,g',e,s⟩:=ih i (Nat.lt_of_succ_lt_succ hi);exact⟨g,g',.vd r e,s⟩
 | exc r t ih =>
  intro i hi
  cases i with
  | zero=>exact⟨[],_,hw t,List.Sublist.refl _⟩
  | succ i=>obtain⟨g,g',e,s⟩:=ih i (Nat.lt_of_succ_lt_succ hi);exact⟨g,g',.exc r e,s⟩
 | scr r t ih =>
  intro i hi
  cases i with
  | zero=>exact⟨[],_,hw t,List.Sublist.refl _⟩
  | succ i=>obtain⟨g,g',e,s⟩:=ih i (Nat.lt_of_succ_lt_succ hi);exact⟨g,g',.scr r e,s⟩
 | pen r t ih =>
  intro i hi
  cases i with
  | zero=>exact⟨[],_,hw t,List.Sublist.refl _⟩
  | succ i=>obtain⟨g,g',e,s⟩:=ih i (Nat.lt_of_succ_lt_succ hi);exact⟨g,g',.pen r e,s⟩
 | tmp r t ih =>
  intro i hi
  cases i with
  | zero=>exact⟨[],_,hw t,List.Sublist.refl _⟩
  | succ i=>obtain⟨g,g',e,s⟩:=ih i (Nat.lt_of_succ_lt_succ hi);exact⟨g,g',.tmp r e,s⟩
 | @own o v' f' ws vs fp' r t ih =>
  intro i hi
  cases i with
  | zero=>exact⟨[],_,hw t,List.sublist_append_right _ _⟩
  | succ i =>
   obtain⟨g,g',e,s⟩:=ih i (Nat.lt_of_succ_lt_succ hi)
   refine⟨f'++g,g',?_,?_⟩
   ·rw [List.append_assoc];exact .own r e
   ·rw [List.append_assoc];exact(List.Sublist.refl _).append s
theorem DOk.put(h:DOk K H₀ H σD σ){w:Option W}{v:Option V}(hw:∀{ws:DSt} {vs:St} {g:List Addr},Slots K H₀ H ws vs g->Slots K H₀ H (w::ws) (v::vs) g)(i:Nat):DOk K H₀ H (σD.set i w) (σ.set i v):=by
 obtain⟨s,fp,sl,nd,fr⟩:=h
 by_cases hi:i<σD.length
 ·obtain⟨g,g',e,sb⟩:=sl.set (f:=[]) hw i hi
  rw [List.nil_append] at e
  exact⟨s,_,e,sb.nodup nd,fun a ha=>fr a (sb.subset ha)⟩
 ·rw [List.set_eq_of_length_le (by omega),List.set_eq_of_length_le (by rw [<-sl.length];omega)]
  exact⟨s,fp,sl,nd,fr⟩
theorem DOk.setV(h:DOk K H₀ H σD σ){d:D}{v:V}(r:Rep K H d v)(i:Nat):DOk K H₀ H (σD.set i (some (.val d))) (σ.set i (some v)):=h.put (.val r) i
theorem DOk.setO{H1:Hp}(h:DOk K H₀ H1 σD σ)(s1:Same H1 H){a:Addr}{vs:List V}{xs:List D}(n:H1 a=none)(e:H a=some (.lst vs))(r:Reps K H xs vs)(i:Nat):DOk K H₀ H (σD.set i (some (.own (.lst xs)))) (σ.set i (some (.ref a))):=by
 obtain⟨s,fp,sl,nd,fr⟩:=id h
 have lv:∀ b∈fp,b≠a:=fun b hb z=>by
  obtain⟨u,e1,_⟩:=sl.live b hb
  rw [z,n] at e1;cases e1
 obtain⟨s',fp',sl',_⟩:=id (h.after s1)
 have sl2:Slots K H₀ H σD σ fp:=sl.keep s1.pers (fun h=>h.same s1) fun b _ u e=>s1 b u e
 by_cases hi:i<σD.length
 ·obtain⟨g,g',e',sb⟩:=sl2.set (f:=[a]) (w:=some (.own (.lst xs))) (v:=some (.ref a)) (fun t=>.own ⟨a,vs,rfl,rfl,e,r⟩ t) i hi
  refine⟨s',_,e',?_,fun b hb=>?_⟩
  ·have nd2:=sb.nodup nd
   rw [List.nodup_append] at nd2 ⊢
   refine⟨nd2.1,?_,fun x hx y hy=>?_⟩
   ·rw [List.singleton_append,List.nodup_cons]
    exact⟨fun z=>lv a (sb.subset (List.mem_append_right _ z)) rfl,nd2.2.1⟩
   ·rcases List.mem_append.mp hy with z | z
    ·rw [List.mem_singleton.mp z];exact lv x (sb.subset (List.mem_append_left _ hx))
    ·exact nd2.2.2 x hx y z
  ·rcases List.mem_append.mp hb with z | z
   ·exact fr b (sb.subset (List.mem_append_left _ z))
   ·rcases List.mem_append.mp z with z | z
    ·rw [List.mem_singleton.mp z]
     cases q:H₀ a with
     | none=>rfl
     | some u=>rw [s a u q] at n;cases n
    ·exact fr b (sb.subset (List.mem_append_right _ z))
 ·rw [List.set_eq_of_length_le (by omega),List.set_eq_of_length_le (by rw [<-sl2.length];omega)]
  exact⟨s',fp,sl2,nd,fr⟩
theorem Slots.write{fp:List Addr}(h:Slots K H₀ H σD σ fp)(nd:fp.Nodup){i:Nat}{xs ys:List D}{a:Addr}{vs:List V}(e:σD[i]?=some (some (.own (.lst xs))))(ev:σ[i]?=some (some (.ref a)))(ea:∃ zs,H a=some (.lst zs))(r:Reps K H ys vs):
  Slots K H₀ (upd H a (.lst vs)) (clr (σD.set i (some (.own (.lst ys))))) σ fp:=by
 have ps:Pers H (upd H a (.lst vs)):=fun b o hb hp=>by
  obtain⟨zs,ea⟩:=ea
  rw [upd_ne (fun z=>by rw [z,ea] at hb;cases hb;cases hp)]
  exact hb
 induction h generalizing i with
 | nil=>simp at e
 | none t ih =>
  cases i with
  | zero=>simp at e
  | succ i=>exact .none (ih nd (by simpa using e) (by simpa using ev))
 | val q t ih =>
  cases i with
  | zero=>simp at e
  | succ i=>exact .val (q.mono ps) (ih nd (by simpa using e) (by simpa using ev))
 | vw q t ih =>
  cases i with
  | zero=>simp at e
  | succ i=>exact .vw q (ih nd (by simpa using e) (by simpa using ev))
 | vd q t ih =>
  cases i with
  | zero=>simp at e
  | succ i=>exact .vd q (ih nd (by simpa using e) (by simpa using ev))
 | exc q t ih =>
  cases i with
  | zero=>simp at e
  | succ i=>exact .exc q (ih nd (by simpa using e) (by simpa using ev))
 | scr q t ih =>
  cases i with
  | zero=>simp at e
  | succ i=>exact .scr q (ih nd (by simpa using e) (by simpa using ev))
 | pen q t ih =>
  cases i with
  | zero=>simp at e
  | succ i=>exact .pen (ps _ _ q rfl) (ih nd (by simpa using e) (by simpa using ev))
 | tmp q t ih =>
  cases i with
  | zero=>simp at e
  | succ i=>exact .none (ih nd (by simpa using e) (by simpa using ev))
 | @own o v f ws wvs fp' q t ih =>
  rw [List.nodup_append] at nd
  cases i with
  | zero =>
   simp at e ev
   subst e ev
   obtain⟨b,zs,eb,rfl,hb,rb⟩:=q
   cases eb
   refine .own ⟨a,vs,rfl,rfl,upd_same,r.mono ps⟩ (t.keepC ps fun c hc u hu=>?_)
   rw [upd_ne (fun z=>nd.2.2 a (by simp) c hc z.symm)]
   exact hu
  | succ i =>
   have e':ws[i]?=some (some (.own (.lst xs))):=by simpa using e
   have ev':wvs[i]?=some (some (.ref a)):=by simpa using ev
   refine .own (q.keep ps fun c hc u hu=>?_) (ih nd.2.1 e' ev')
   obtain⟨v',e1,f',⟨b,zs,rfl,rfl,hb,rb⟩,m⟩:=t.get e'
   rw [ev'] at e1
   cases e1
   rw [upd_ne (fun z=>nd.2.2 c hc a (m a (by simp)) z)]
   exact hu
theorem upd_pers{a:Addr}{o o':HO}(e:H a=some o)(p:o.per=false):Pers H (upd H a o'):=fun b u hb hp=>by
 rw [upd_ne (fun z=>by rw [z,e] at hb;cases hb;rw [p] at hp;cases hp)]
 exact hb
theorem DOk.write(h:DOk K H₀ H σD σ){i:Nat}{xs ys:List D}{a:Addr}{vs zs:List V}(e:σD[i]?=some (some (.own (.lst xs))))(ev:σ[i]?=some (some (.ref a)))(ea:H a=some (.lst zs))(r:Reps K H ys vs):DOk K H₀ (upd H a (.lst vs)) (clr (σD.set i (some (.own (.lst ys))))) σ:=by
 obtain⟨a',_,e1,_,_,n⟩:=h.ownL e
 rw [ev] at e1
 cases e1
 obtain⟨s,fp,sl,nd,fr⟩:=h
 refine⟨fun b o hb=>?_,fp,sl.write nd e ev ⟨_,ea⟩ r,nd,fr⟩
 rw [upd_ne (fun z=>by rw [z,n] at hb;cases hb)]
 exact s b o hb
end
section
variable {X:Cx}{pins:List (Addr×Obj)}{σ:St}{H:Hp}{s:Shared}{a:Addr}
theorem Inv.frz(I:Inv X pins σ H s){vs:List V}(h:H a=some (.lst vs)):∃ o,Inv X pins σ (upd H a (.frz o (.lst vs))) s:=by
 obtain⟨z,its,n,r,e⟩:=I.hok a _ h
 exact⟨_,I.write (h':=s.heap) (t':=s.toks) (x:=a) (e:=a) (by rw [h];exact trivial) (.inl rfl) (fun b u _ q=>q) ⟨_,e⟩ ⟨e,z,its,n,r,e⟩⟩
theorem Inv.frzK(I:Inv X pins σ H s){vs:List (Key×V)}(h:H a=some (.dK vs)):∃ o,Inv X pins σ (upd H a (.frz o (.dK vs))) s:=by
 obtain⟨z,y,its,r,o,es,ep,e,c⟩:=I.hok a _ h
 exact⟨o,I.write (h':=s.heap) (t':=s.toks) (x:=a) (e:=a) (by rw [h];exact trivial) (.inl rfl) (fun b u _ q=>q) ⟨_,e⟩ ⟨e,z,y,its,r,o,es,ep,e,c⟩⟩
theorem penO_ok{P:Program}{w:World}{h:Heap}{x y z:Int}{tx ty tz:Tok}{n:Nat}(e:h.get? a=some { cls:=.type "list",data:=.seq #[.int x tx,.int y ty,.int z tz] n }):ObjOk P w H h a (PenO a) :=
 ⟨⟨x,y,z,tx,ty,tz,n,e⟩,⟨_,e⟩,fun h1 h2 ⟨x,y,z,tx,ty,tz,n,e⟩ k=>⟨x,y,z,tx,ty,tz,n,k _ e⟩⟩
theorem Inv.toPen(I:Inv X pins σ H s){x y z:Int}(h:H a=some (.lst [.int x,.int y,.int z])):Inv X pins σ (upd H a (PenO a)) s:=by
 obtain⟨zz,its,n,r,e⟩:=I.hok a _ h
 cases r with
 | cons r1 r =>
  cases r with
  | cons r2 r =>
   cases r with
   | cons r3 r =>
    cases r
    obtain⟨t1,rfl⟩:=r1
    obtain⟨t2,rfl⟩:=r2
    obtain⟨t3,rfl⟩:=r3
    exact I.write (h':=s.heap) (t':=s.toks) (x:=a) (e:=a) (by rw [h];exact trivial) (.inl rfl) (fun b u _ q=>q) ⟨_,e⟩ (penO_ok e)
end
abbrev DTE:=DSt->(D->Prop)->Prop
abbrev DTF:=DSt->(List D->Prop)->Prop
abbrev DTT:=DSt->(Bool->Prop)->Prop
abbrev DTP:=DSt->(List W->Prop)->Prop
def DEnd(X:Cx)(pins:List (Addr×Obj))(σ:St)(H:Hp)(Q:D->Prop)(u:Value)(s':Shared):Prop:=∃ v H' d,Inv X pins σ H' s'/\RelV v u/\Same H H'/\Rep X.K H' d v/\Q d
def DEndT(X:Cx)(pins:List (Addr×Obj))(σ:St)(H:Hp)(Q:D->Prop)(u:Value)(s':Shared):Prop:=∃ v H' d,Inv X pins σ H' s'/\RelV v u/\Same H H'/\RepT X.K H' d v/\Q d
def DEndF(X:Cx)(pins:List (Addr×Obj))(σ:St)(H:Hp)(Q:List D->Prop)(u:Value)(s':Shared):Prop:=∃ a H' vs xs,u=.ref a/\Inv X pins σ H' s'/\Same H H'/\H a=none/\H' a=some (.lst vs)/\Reps X.K H' xs vs/\Q xs
structure DE(X:Cx)(e:Expr)(t:DTE):Prop where
 run:∀(pins:List (Addr×Obj)) (s:Shared) (σ:St) (H H₀:Hp) (σD:DSt) (Q:D->Prop),Inv X pins σ H s->DOk X.K H₀ H σD σ->t σD Q->wpAny (model X.prog X.w) X.A (eval e X.env) (DEnd X pins σ H Q) X.xe s
structure DV(X:Cx)(e:Expr)(t:DTE):Prop where
 run:∀(pins:List (Addr×Obj)) (s:Shared) (σ:St) (H H₀:Hp) (σD:DSt) (Q:D->Prop),Inv X pins σ H s->DOk X.K H₀ H σD σ->t σD Q->wpAny (model X.prog X.w) X.A (eval e X.env) (DEndT X pins σ H Q) X.xe s
structure DF(X:Cx)(e:Expr)(t:DTF):Prop where
 run:∀(pins:List (Addr×Obj)) (s:Shared) (σ:St) (H H₀:Hp) (σD:DSt) (Q:List D->Prop),Inv X pins σ H s->DOk X.K H₀ H σD σ->t σD Q->wpAny (model X.prog X.w) X.A (eval e X.env) (DEndF X pins σ H Q) X.xe s
def DEndB(X:Cx)(pins:List (Addr×Obj))(σ:St)(H:Hp)(Q:Bool->Prop)(b:Bool)(s':Shared):Prop:=∃ H',Inv X pins σ H' s'/\Same H H'/\Q b
structure DT(X:Cx)(e:Expr)(t:DTT):Prop where
 run:∀(pins:List (Addr×Obj)) (s:Shared) (σ:St) (H H₀:Hp) (σD:DSt) (Q:Bool->Prop),Inv X pins σ H s->DOk X.K H₀ H σD σ->t σD Q->wpAny (model X.prog X.w) X.A (isTrue e X.env (eval e X.env)) (DEndB X pins σ H Q) X.xe s
structure DWt(X:Cx)(e:Expr)(t:DTT):Prop where
 run:∀(whole:Sem Value) (pins:List (Addr×Obj)) (s:Shared) (σ:St) (H H₀:Hp) (σD:DSt) (Q:Bool->Prop),Inv X pins σ H s->DOk X.K H₀ H σD σ->t σD Q->wpAny (model X.prog X.w) X.A (isTrue e X.env whole) (DEndB X pins σ H Q) X.xe s
structure DA(X:Cx)(es:List Expr)(t:DTF):Prop where
 run:∀(pos:Pos) (pins:List (Addr×Obj)) (s:Shared) (σ:St) (H H₀:Hp) (σD:DSt) (Q:List D->Prop),Inv X pins σ H s->DOk X.K H₀ H σD σ->t σD Q ->
  wpAny (model X.prog X.w) X.A (spliced (backTo pos (starEach es X.env))) (fun us s'=>∃ vs H' ds,Inv X pins σ H' s'/\Vals vs us/\Same H H'/\Reps X.K H' ds vs/\Q ds) X.xe s
inductive RepTs(K:PySem.W.Frag)(H:Hp):List D->List V->Prop
 | nil:RepTs K H [] []
 | cons {d:D} {v:V} {ds:List D} {vs:List V} (r:RepT K H d v) (t:RepTs K H ds vs):RepTs K H (d::ds) (v::vs)
structure DAv(X:Cx)(es:List Expr)(t:DTF):Prop where
 run:∀(pos:Pos) (pins:List (Addr×Obj)) (s:Shared) (σ:St) (H H₀:Hp) (σD:DSt) (Q:List D->Prop),Inv X pins σ H s->DOk X.K H₀ H σD σ->t σD Q ->
  wpAny (model X.prog X.w) X.A (spliced (backTo pos (starEach es X.env))) (fun us s'=>∃ vs H' ds,Inv X pins σ H' s'/\Vals vs us/\Same H H'/\RepTs X.K H' ds vs/\Q ds) X.xe s
section
variable (K:PySem.W.Frag)
def RepW(H:Hp):W->V->Prop
 | .val d,v=>Rep K H d v
 | .vw xs,v=>RepL K H xs v
 | .vd xs,v=>RepD K H xs v
 | .exc xs,v=>RepX K H xs v
 | .scr ns,v=>∃ a,v=.ref a/\SqL K H a (ns.map V.int)
 | .pen,v=>∃ a,v=.ref a/\H a=some (PenO a)
 | .tmp _,_=>False
 | .own _,_=>False
inductive RepWs(H:Hp):List W->List V->Prop
 | nil:RepWs H [] []
 | cons {w:W} {v:V} {ws:List W} {vs:List V} (r:RepW K H w v) (t:RepWs H ws vs):RepWs H (w::ws) (v::vs)
end
theorem RepWs.length{K:PySem.W.Frag}{H:Hp}{ws:List W}{vs:List V}(h:RepWs K H ws vs):ws.length=vs.length:=by
 induction h with
 | nil=>rfl
 | cons _ _ ih=>simp [ih]
structure DPs(X:Cx)(es:List Expr)(t:DTP):Prop where
 run:∀(pos:Pos) (pins:List (Addr×Obj)) (s:Shared) (σ:St) (H H₀:Hp) (σD:DSt) (Q:List W->Prop),Inv X pins σ H s->DOk X.K H₀ H σD σ->t σD Q ->
  wpAny (model X.prog X.w) X.A (spliced (backTo pos (starEach es X.env))) (fun us s'=>∃ vs H' ws,Inv X pins σ H' s'/\Vals vs us/\Same H H'/\RepWs X.K H' ws vs/\Q ws) X.xe s
section
variable (K:PySem.W.Frag)
def cnE(t:DTE):TE:=fun σ H Q=>∃ H₀ σD QD,DOk K H₀ H σD σ/\t σD QD/\∀ v H' d,Same H H'->Rep K H' d v->QD d->Q v H'
def cnV(t:DTE):TE:=fun σ H Q=>∃ H₀ σD QD,DOk K H₀ H σD σ/\t σD QD/\∀ v H' d,Same H H'->RepT K H' d v->QD d->Q v H'
def cnF(t:DTF):TE:=fun σ H Q=>∃ H₀ σD QD,DOk K H₀ H σD σ/\t σD QD/\∀ a H' vs xs,Same H H'->H a=none->H' a=some (.lst vs)->Reps K H' xs vs->QD xs->Q (.ref a) H'
def cnT(t:DTT):TT:=fun σ H Q=>∃ H₀ σD QD,DOk K H₀ H σD σ/\t σD QD/\∀ b H',Same H H'->QD b->Q b H'
def cnA(t:DTF):TA:=fun σ H Q=>∃ H₀ σD QD,DOk K H₀ H σD σ/\t σD QD/\∀ vs H' ds,Same H H'->Reps K H' ds vs->QD ds->Q vs H'
def cnAv(t:DTF):TA:=fun σ H Q=>∃ H₀ σD QD,DOk K H₀ H σD σ/\t σD QD/\∀ vs H' ds,Same H H'->RepTs K H' ds vs->QD ds->Q vs H'
def cnP(t:DTP):TA:=fun σ H Q=>∃ H₀ σD QD,DOk K H₀ H σD σ/\t σD QD/\∀ vs H' ws,Same H H'->RepWs K H' ws vs->QD ws->Q vs H'
end
section
variable {X:Cx}{e:Expr}{es:List Expr}
theorem DE.pe{t:DTE}(h:DE X e t):PE X e (cnE X.K t):=fun pins s σ H Q I ⟨H₀,σD,QD,ok,q,k⟩=>thn (h.run pins s σ H H₀ σD QD I ok q) fun u s' ⟨v,H',d,I',r,sm,rp,qd⟩=>⟨v,H',I',r,k v H' d sm rp qd⟩
theorem DV.pe{t:DTE}(h:DV X e t):PE X e (cnV X.K t):=fun pins s σ H Q I ⟨H₀,σD,QD,ok,q,k⟩=>thn (h.run pins s σ H H₀ σD QD I ok q) fun u s' ⟨v,H',d,I',r,sm,rp,qd⟩=>⟨v,H',I',r,k v H' d sm rp qd⟩
theorem DF.pe{t:DTF}(h:DF X e t):PE X e (cnF X.K t):=fun pins s σ H Q I ⟨H₀,σD,QD,ok,q,k⟩=>thn (h.run pins s σ H H₀ σD QD I ok q) fun u s' ⟨a,H',vs,xs,eu,I',sm,n,e,rp,qd⟩=>⟨.ref a,H',I',eu,k a H' vs xs sm n e rp qd⟩
theorem DT.pt{t:DTT}(h:DT X e t):PT X e (cnT X.K t):=fun pins s σ H Q I ⟨H₀,σD,QD,ok,q,k⟩=>thn (h.run pins s σ H H₀ σD QD I ok q) fun u s' ⟨H',I',sm,qd⟩=>⟨H',I',k u H' sm qd⟩
theorem DA.pa{t:DTF}(h:DA X es t):PA X es (cnA X.K t):=fun pos pins s σ H Q I ⟨H₀,σD,QD,ok,q,k⟩=>thn (h.run pos pins s σ H H₀ σD QD I ok q) fun us s' ⟨vs,H',ds,I',r,sm,rp,qd⟩=>⟨vs,H',I',r,k vs H' ds sm rp qd⟩
theorem DAv.pa{t:DTF}(h:DAv X es t):PA X es (cnAv X.K t):=fun pos pins s σ H Q I ⟨H₀,σD,QD,ok,q,k⟩=>thn (h.run pos pins s σ H H₀ σD QD I ok q) fun us s' ⟨vs,H',ds,I',r,sm,rp,qd⟩=>⟨vs,H',I',r,k vs H' ds sm rp qd⟩
theorem DPs.pa{t:DTP}(h:DPs X es t):PA X es (cnP X.K t):=fun pos pins s σ H Q I ⟨H₀,σD,QD,ok,q,k⟩=>thn (h.run pos pins s σ H H₀ σD QD I ok q) fun us s' ⟨vs,H',ws,I',r,sm,rp,qd⟩=>⟨vs,H',I',r,k vs H' ws sm rp qd⟩
theorem DE.of{t:DTE}{t':TE}(h:PE X e t')(k:∀ σ H H₀ σD QD,DOk X.K H₀ H σD σ->t σD QD->t' σ H (fun v H'=>∃ d,Same H H'/\Rep X.K H' d v/\QD d)):DE X e t :=
 ⟨fun pins s σ H H₀ σD Q I ok q=>thn (h pins s σ H _ I (k σ H H₀ σD Q ok q)) fun u s' ⟨v,H',I',r,d,sm,rp,qd⟩=>⟨v,H',d,I',r,sm,rp,qd⟩⟩
theorem DV.of{t:DTE}{t':TE}(h:PE X e t')(k:∀ σ H H₀ σD QD,DOk X.K H₀ H σD σ->t σD QD->t' σ H (fun v H'=>∃ d,Same H H'/\RepT X.K H' d v/\QD d)):DV X e t :=
 ⟨fun pins s σ H H₀ σD Q I ok q=>thn (h pins s σ H _ I (k σ H H₀ σD Q ok q)) fun u s' ⟨v,H',I',r,d,sm,rp,qd⟩=>⟨v,H',d,I',r,sm,rp,qd⟩⟩
theorem DF.of{t:DTF}{t':TE}(h:PE X e t')(k:∀ σ H H₀ σD QD,DOk X.K H₀ H σD σ->t σD QD->t' σ H (fun v H'=>∃ a vs xs,v=.ref a/\Same H H'/\H a=none/\H' a=some (.lst vs)/\Reps X.K H' xs vs/\QD xs)):DF X e t :=
 ⟨fun pins s σ H H₀ σD Q I ok q=>thn (h pins s σ H _ I (k σ H H₀ σD Q ok q)) fun u s' ⟨v,H',I',r,a,vs,xs,ev,sm,n,e,rp,qd⟩=>⟨a,H',vs,xs,by subst ev;exact r,I',sm,n,e,rp,qd⟩⟩
theorem DT.of{t:DTT}{t':TT}(h:PT X e t')(k:∀ σ H H₀ σD QD,DOk X.K H₀ H σD σ->t σD QD->t' σ H (fun b H'=>Same H H'/\QD b)):DT X e t :=
 ⟨fun pins s σ H H₀ σD Q I ok q=>thn (h pins s σ H _ I (k σ H H₀ σD Q ok q)) fun u s' ⟨H',I',sm,qd⟩=>⟨H',I',sm,qd⟩⟩
theorem DE.dv{t:DTE}(h:DE X e t):DV X e t:=⟨fun pins s σ H H₀ σD Q I ok q=>thn (h.run pins s σ H H₀ σD Q I ok q) fun u s' ⟨v,H',d,I',r,sm,rp,qd⟩=>⟨v,H',d,I',r,sm,rp.top,qd⟩⟩
theorem freeze{pins:List (Addr×Obj)}{σ:St}{H H':Hp}{s:Shared}{a:Addr}{vs:List V}{xs:List D}(I:Inv X pins σ H' s)(sm:Same H H')(n:H a=none)(e:H' a=some (.lst vs))(r:Reps X.K H' xs vs):
  ∃ H'',Inv X pins σ H'' s/\Same H H''/\Rep X.K H'' (.list xs) (.ref a):=by
 obtain⟨o,J⟩:=I.frz e
 refine⟨_,J,fun b u hb=>?_,.lst upd_same (r.mono (upd_pers e rfl))⟩
 rw [upd_ne (ne_of_none hb n)]
 exact sm b u hb
def dFz(t:DTF):DTE:=fun σ Q=>t σ fun xs=>Q (.list xs)
theorem DF.de{t:DTF}(h:DF X e t):DE X e (dFz t):=⟨fun pins s σ H H₀ σD Q I ok q=>thn (h.run pins s σ H H₀ σD _ I ok q) fun u s' ⟨a,H',vs,xs,eu,I',sm,n,e,rp,qd⟩=>by
 obtain⟨H'',J,sm',r'⟩:=freeze I' sm n e rp
 exact⟨.ref a,H'',.list xs,J,eu,sm',r',qd⟩⟩
def dVar(i:Nat):DTE:=fun σ Q=>match σ[i]? with
 | some (some (.val d))=>Q d
 | _=>False
def dOwn(i:Nat):DTE:=fun σ Q=>match σ[i]? with
 | some (some (.val d))=>Q d
 | some (some (.own (.lst xs)))=>Q (.list xs)
 | some (some (.vw xs))=>Q (.list xs)
 | _=>False
def dC(d:D):DTE:=fun _ Q=>Q d
theorem de_var(i:Nat){x:Str}{pos:Pos}(hN:X.N[i]?=some x:=by rfl)(hv:Vis X.env.scope x:=by first | exact Or.inl rfl | exact Or.inr (Or.inl rfl) | exact Or.inr (Or.inr rfl))(hd:(x == ("__debug__" : Str))=false:=by decide)
  (hcd:(x == ("__classdict__" : Str))=false:=by decide):DE X (.Name x pos) (dVar i):=by
 refine DE.of (pe_var (i:=i) hN hv hd hcd) fun σ H H₀ σD QD ok q=>?_
 unfold dVar at q
 split at q
 ·next d e =>
  obtain⟨v,e1,r⟩:=ok.val e
  exact⟨v,e1,d,Same.refl _,r,q⟩
 ·exact q.elim
theorem dv_own(i:Nat){x:Str}{pos:Pos}(hN:X.N[i]?=some x:=by rfl)(hv:Vis X.env.scope x:=by first | exact Or.inl rfl | exact Or.inr (Or.inl rfl) | exact Or.inr (Or.inr rfl))(hd:(x == ("__debug__" : Str))=false:=by decide)
  (hcd:(x == ("__classdict__" : Str))=false:=by decide):DV X (.Name x pos) (dOwn i):=by
 refine DV.of (pe_var (i:=i) hN hv hd hcd) fun σ H H₀ σD QD ok q=>?_
 unfold dOwn at q
 split at q
 ·next d e =>
  obtain⟨v,e1,r⟩:=ok.val e
  exact⟨v,e1,d,Same.refl _,r.top,q⟩
 ·next xs e =>
  obtain⟨a,vs,e1,e2,r,_⟩:=ok.ownL e
  exact⟨.ref a,e1,.list xs,Same.refl _,.inr ⟨xs,rfl,a,vs,rfl,.inl e2,r⟩,q⟩
 ·next xs e =>
  obtain⟨v,e1,r⟩:=ok.vw e
  exact⟨v,e1,.list xs,Same.refl _,.inr ⟨xs,rfl,r⟩,q⟩
 ·exact q.elim
theorem de_int{i j pos}:DE X (.Constant (.int i) j pos) (dC (.int i)):=DE.of pe_int fun σ H H₀ σD QD ok q=>⟨.int i,Same.refl _,.int,q⟩
theorem de_bl{b j pos}:DE X (.Constant (.bool b) j pos) (dC (.bool b)):=DE.of pe_bl fun σ H H₀ σD QD ok q=>⟨.bool b,Same.refl _,.bl,q⟩
theorem de_non{j pos}:DE X (.Constant .none j pos) (dC .none):=DE.of pe_non fun σ H H₀ σD QD ok q=>⟨.none,Same.refl _,.non,q⟩
theorem de_str{x j pos}:DE X (.Constant (.str x) j pos) (dC (.str x)):=DE.of pe_str fun σ H H₀ σD QD ok q=>⟨.str x,Same.refl _,.str,q⟩
theorem de_glob{x:Str}{d:D}{v:V}{u:Value}{pos:Pos}(hg:Gl X x)(hm:X.mg x=some u)(r:RelV v u)(rp:∀ H,Rep X.K H d v)(hd:(x == ("__debug__" : Str))=false:=by decide):DE X (.Name x pos) (dC d) :=
 DE.of (pe_glob hg hm r hd) fun σ H H₀ σD QD ok q=>⟨d,Same.refl _,rp H,q⟩
def dNil:DTF:=fun _ Q=>Q []
def dCons(t:DTE)(r:DTF):DTF:=fun σ Q=>t σ fun d=>r σ fun ds=>Q (d::ds)
theorem da_nil:DA X [] dNil:=⟨fun pos pins s σ H H₀ σD Q I ok q=>thn (pa_nil pos pins s σ H (fun vs H'=>vs = []/\H'=H) I ⟨rfl,rfl⟩) fun us s' ⟨vs,H',I',r,e1,e2⟩=>by subst e1 e2;exact⟨[],H',[],I',r,Same.refl _,.nil,q⟩⟩
theorem da_cons{t:DTE}{r:DTF}(ha:DE X e t)(hr:DA X es r)(hs:starEach (e::es) X.env=(false,eval e X.env)::starEach es X.env:=by rfl):DA X (e::es) (dCons t r):=⟨fun pos pins s σ H H₀ σD Q I ok q=>by
 refine thn (pa_cons ha.pe hr.pa hs pos pins s σ H (fun vs H'=>∃ ds,Same H H'/\Reps X.K H' ds vs/\Q ds) I ?_) fun us s' ⟨vs,H',I',r,ds,sm,rp,qd⟩=>⟨vs,H',ds,I',r,sm,rp,qd⟩
 exact⟨H₀,σD,_,ok,q,fun v H1 d s1 r1 q1=>⟨H₀,σD,_,ok.after s1,q1,fun vs H2 ds s2 r2 q2=>⟨d::ds,s1.trans s2,.cons (r1.same s2) r2,q2⟩⟩⟩⟩
theorem dav_nil:DAv X [] dNil:=⟨fun pos pins s σ H H₀ σD Q I ok q=>thn (pa_nil pos pins s σ H (fun vs H'=>vs = []/\H'=H) I ⟨rfl,rfl⟩) fun us s' ⟨vs,H',I',r,e1,e2⟩=>by subst e1 e2;exact⟨[],H',[],I',r,Same.refl _,.nil,q⟩⟩
theorem dav_cons{t:DTE}{r:DTF}(ha:DV X e t)(hr:DAv X es r)(hs:starEach (e::es) X.env=(false,eval e X.env)::starEach es X.env:=by rfl):DAv X (e::es) (dCons t r):=⟨fun pos pins s σ H H₀ σD Q I ok q=>by
 refine thn (pa_cons ha.pe hr.pa hs pos pins s σ H (fun vs H'=>∃ ds,Same H H'/\RepTs X.K H' ds vs/\Q ds) I ?_) fun us s' ⟨vs,H',I',r,ds,sm,rp,qd⟩=>⟨vs,H',ds,I',r,sm,rp,qd⟩
 exact⟨H₀,σD,_,ok,q,fun v H1 d s1 r1 q1=>⟨H₀,σD,_,ok.after s1,q1,fun vs H2 ds s2 r2 q2=>⟨d::ds,s1.trans s2,.cons (r1.same s2) r2,q2⟩⟩⟩⟩
def dpNil:DTP:=fun _ Q=>Q []
def dpVal(t:DTE)(r:DTP):DTP:=fun σ Q=>t σ fun d=>r σ fun ws=>Q (.val d::ws)
def dpVw(i:Nat)(r:DTP):DTP:=fun σ Q=>match σ[i]? with
 | some (some (.own (.lst xs)))=>r σ fun ws=>Q (.vw xs::ws)
 | some (some (.vw xs))=>r σ fun ws=>Q (.vw xs::ws)
 | some (some (.scr ns))=>r σ fun ws=>Q (.scr ns::ws)
 | some (some (.val d))=>r σ fun ws=>Q (.val d::ws)
 | some (some .pen)=>r σ fun ws=>Q (.pen::ws)
 | _=>False
theorem dp_nil:DPs X [] dpNil:=⟨fun pos pins s σ H H₀ σD Q I ok q=>thn (pa_nil pos pins s σ H (fun vs H'=>vs = []/\H'=H) I ⟨rfl,rfl⟩) fun us s' ⟨vs,H',I',r,e1,e2⟩=>by subst e1 e2;exact⟨[],H',[],I',r,Same.refl _,.nil,q⟩⟩
theorem dp_val{t:DTE}{r:DTP}(ha:DE X e t)(hr:DPs X es r)(hs:starEach (e::es) X.env=(false,eval e X.env)::starEach es X.env:=by rfl):DPs X (e::es) (dpVal t r):=⟨fun pos pins s σ H H₀ σD Q I ok q=>by
 refine thn (pa_cons ha.pe hr.pa hs pos pins s σ H (fun vs H'=>∃ ws,Same H H'/\RepWs X.K H' ws vs/\Q ws) I ?_) fun us s' ⟨vs,H',I',r,ds,sm,rp,qd⟩=>⟨vs,H',ds,I',r,sm,rp,qd⟩
 exact⟨H₀,σD,_,ok,q,fun v H1 d s1 r1 q1=>⟨H₀,σD,_,ok.after s1,q1,fun vs H2 ds s2 r2 q2=>⟨.val d::ds,s1.trans s2,.cons (r1.same s2) r2,q2⟩⟩⟩⟩
theorem dp_vw(i:Nat){x:Str}{pos:Pos}{r:DTP}(hr:DPs X es r)(hN:X.N[i]?=some x:=by rfl)(hv:Vis X.env.scope x:=by first | exact Or.inl rfl | exact Or.inr (Or.inl rfl) | exact Or.inr (Or.inr rfl))(hd:(x == ("__debug__" : Str))=false:=by decide)
  (hcd:(x == ("__classdict__" : Str))=false:=by decide) (hs:starEach (.Name x pos::es) X.env=(false,eval (.Name x pos) X.env)::starEach es X.env:=by rfl):DPs X (.Name x pos::es) (dpVw i r):=⟨fun pos' pins s σ H H₀ σD Q I ok q=>by
 refine thn (pa_cons (pe_var (i:=i) hN hv hd hcd) hr.pa hs pos' pins s σ H (fun vs H'=>∃ ws,Same H H'/\RepWs X.K H' ws vs/\Q ws) I ?_) fun us s' ⟨vs,H',I',r,ds,sm,rp,qd⟩=>⟨vs,H',ds,I',r,sm,rp,qd⟩
 unfold dpVw at q
 split at q
 ·next xs e =>
  obtain⟨a,vs,e1,e2,r,_⟩:=ok.ownL e
  exact⟨.ref a,e1,H₀,σD,_,ok,q,fun ws H2 ds s2 r2 q2=>⟨.vw xs::ds,s2,.cons (RepL.same s2 ⟨a,vs,rfl,.inl e2,r⟩) r2,q2⟩⟩
 ·next xs e =>
  obtain⟨v,e1,r⟩:=ok.vw e
  exact⟨v,e1,H₀,σD,_,ok,q,fun ws H2 ds s2 r2 q2=>⟨.vw xs::ds,s2,.cons (RepL.same s2 r) r2,q2⟩⟩
 ·next ns e =>
  obtain⟨a,e1,r⟩:=ok.scr e
  exact⟨.ref a,e1,H₀,σD,_,ok,q,fun ws H2 ds s2 r2 q2=>⟨.scr ns::ds,s2,.cons ⟨a,rfl,s2.seq r⟩ r2,q2⟩⟩
 ·next d e =>
  obtain⟨v,e1,r⟩:=ok.val e
  exact⟨v,e1,H₀,σD,_,ok,q,fun ws H2 ds s2 r2 q2=>⟨.val d::ds,s2,.cons (r.same s2) r2,q2⟩⟩
 ·next e =>
  obtain⟨a,e1,r⟩:=ok.pen e
  exact⟨.ref a,e1,H₀,σD,_,ok,q,fun ws H2 ds s2 r2 q2=>⟨.pen::ds,s2,.cons ⟨a,rfl,s2 _ _ r⟩ r2,q2⟩⟩
 ·exact q.elim⟩
def dTup(t:DTF):DTE:=fun σ Q=>t σ fun ds=>ds.length<=sizeLine/\Q (.tuple ds)
def dLst(t:DTF):DTF:=fun σ Q=>t σ fun ds=>ds.length<=sizeLine/\Q ds
theorem de_tup{x1 pos}{t:DTF}(h:DA X es t):DE X (.Tuple es x1 pos) (dTup t) :=
 DE.of (pe_tup h.pa) fun σ H H₀ σD QD ok q=>⟨H₀,σD,_,ok,q,fun vs H1 ds s1 r1 q1=>⟨by rw [<-r1.length];exact q1.1,fun p hp=>⟨.tuple ds,s1.trans (same_new hp _),.tup (SqT.of upd_same) (r1.same (same_new hp _)),q1.2⟩⟩⟩
theorem df_lst{pos}{t:DTF}(h:DA X es t):DF X (.List es pos) (dLst t) :=
 DF.of (pe_lst h.pa) fun σ H H₀ σD QD ok q=>⟨H₀,σD,_,ok,q,fun vs H1 ds s1 r1 q1=>⟨by rw [<-r1.length];exact q1.1,fun p hp=>⟨p,vs,ds,rfl,s1.trans (same_new hp _),s1.free hp,upd_same,r1.same (same_new hp _),q1.2⟩⟩⟩
variable {a b:Expr}{rest:List Expr}{pos:Pos}
def onB(Q:Bool->Prop):D->Prop
 | .bool b=>Q b
 | _=>False
def dTB(t:DTE):DTT:=fun σ Q=>t σ (onB Q)
def dAnd(t u:DTT):DTT:=fun σ Q=>t σ fun c=>if c=true then u σ Q else Q false
def dOr(t u:DTT):DTT:=fun σ Q=>t σ fun c=>if c=true then Q true else u σ Q
def dNot(t:DTT):DTT:=fun σ Q=>t σ fun c=>Q (!c)
theorem DWt.dt{t:DTT}(h:DWt X e t):DT X e t:=⟨h.run _⟩
theorem dw_and1{t:DTT}(ha:DT X a t):DWt X (.BoolOp .And [a] pos) t:=⟨fun wh pins s σ H H₀ σD Q I ok q=>by
 refine isTrue_and (thn (ha.run pins s σ H H₀ σD Q I ok q) fun c s1 e=>?_)
 cases c with
 | true=>exact isTrue_and_nil e
 | false=>exact e⟩
theorem dw_or1{t:DTT}(ha:DT X a t):DWt X (.BoolOp .Or [a] pos) t:=⟨fun wh pins s σ H H₀ σD Q I ok q=>by
 refine isTrue_or (thn (ha.run pins s σ H H₀ σD Q I ok q) fun c s1 e=>?_)
 cases c with
 | false=>exact isTrue_or_nil e
 | true=>exact e⟩
theorem dw_and{t u:DTT}(ha:DT X a t)(hb:DWt X (.BoolOp .And (b::rest) pos) u):DWt X (.BoolOp .And (a::b::rest) pos) (dAnd t u):=⟨fun wh pins s σ H H₀ σD Q I ok q=>by
 refine isTrue_and (thn (ha.run pins s σ H H₀ σD _ I ok q) fun c s1 ⟨H1,I1,sm,q1⟩=>?_)
 cases c with
 | true =>
  rw [if_pos rfl] at q1
  exact thn (hb.run wh pins s1 σ H1 H₀ σD Q I1 (ok.after sm) q1) fun _ _ ⟨H2,I2,s2,q2⟩=>⟨H2,I2,sm.trans s2,q2⟩
 | false=>rw [if_neg Bool.false_ne_true] at q1;exact⟨H1,I1,sm,q1⟩⟩
theorem dw_or{t u:DTT}(ha:DT X a t)(hb:DWt X (.BoolOp .Or (b::rest) pos) u):DWt X (.BoolOp .Or (a::b::rest) pos) (dOr t u):=⟨fun wh pins s σ H H₀ σD Q I ok q=>by
 refine isTrue_or (thn (ha.run pins s σ H H₀ σD _ I ok q) fun c s1 ⟨H1,I1,sm,q1⟩=>?_)
 cases c with
 | false =>
  rw [if_neg Bool.false_ne_true] at q1
  exact thn (hb.run wh pins s1 σ H1 H₀ σD Q I1 (ok.after sm) q1) fun _ _ ⟨H2,I2,s2,q2⟩=>⟨H2,I2,sm.trans s2,q2⟩
 | true=>rw [if_pos rfl] at q1;exact⟨H1,I1,sm,q1⟩⟩
theorem dt_not{t:DTT}(ha:DT X a t):DT X (.UnaryOp .Not a pos) (dNot t):=⟨fun pins s σ H H₀ σD Q I ok q=>isTrue_not (ha.run pins s σ H H₀ σD (fun c=>Q (!c)) I ok q)⟩
def truD:D->Bool
 | .none=>false
 | .bool b=>b
 | .int i=>i != 0
 | .str x=>(x.length:Int) != 0
 | .tuple xs=>!xs.isEmpty
 | .list xs=>!xs.isEmpty
 | .dict kvs=>!kvs.isEmpty
def dTru(t:DTE):DTT:=fun σ Q=>t σ fun d=>match d with
 | .str x=>x.length<=sizeLine/\Q (truD (.str x))
 | .dict _=>False
 | d=>Q (truD d)
theorem emp_of{K:PySem.W.Frag}{H:Hp}{ds:List D}{vs:List V}(r:Reps K H ds vs):(!vs.isEmpty) = !ds.isEmpty:=by cases r <;> rfl
theorem tru_rep{K:PySem.W.Frag}{H:Hp}{d:D}{v:V}(r:RepT K H d v)(h:match d with | .str x=>x.length<=sizeLine | .dict _=>False | _=>True):TruV K v H (truD d):=by
 rcases r with r | ⟨xs,rfl,a,vs,rfl,e,r⟩
 ·cases r with
  | non=>rfl
  | bl=>rfl
  | int=>rfl
  | str=>exact⟨h,rfl⟩
  | tup q r=>exact .inr (.inl ⟨_,q,(emp_of r).symm⟩)
  | lst q r=>exact .inl ⟨_,.inl (.inr ⟨_,q⟩),(emp_of r).symm⟩
  | dic q r=>exact h.elim
 ·exact .inl ⟨vs,.inl e,(emp_of r).symm⟩
theorem dt_tru{t:DTE}(h:DV X e t)(he:∀ whole,isTrue e X.env whole=(do let v <-whole;standAt e.pos;holding [v] (truthy v)):=by intro _;rfl):DT X e (dTru t) :=
 DT.of (pt_truth h.pe he) fun σ H H₀ σD QD ok q=>⟨H₀,σD,_,ok,q,fun v H1 d s1 r1 q1=>by
  cases d with
  | str x=>exact⟨_,tru_rep r1 q1.1,s1,q1.2⟩
  | dict _=>exact q1.elim
  | none=>exact⟨_,tru_rep r1 trivial,s1,q1⟩
  | bool _=>exact⟨_,tru_rep r1 trivial,s1,q1⟩
  | int _=>exact⟨_,tru_rep r1 trivial,s1,q1⟩
  | tuple _=>exact⟨_,tru_rep r1 trivial,s1,q1⟩
  | list _=>exact⟨_,tru_rep r1 trivial,s1,q1⟩⟩
def dAndV(t u:DTE):DTE:=fun σ Q=>t σ fun d=>match d with
 | .bool c=>if c=true then u σ Q else Q (.bool false)
 | _=>False
def dOrV(t u:DTE):DTE:=fun σ Q=>t σ fun d=>match d with
 | .bool c=>if c=true then Q (.bool true) else u σ Q
 | _=>False
def dIfE(c:DTT)(t u:DTE):DTE:=fun σ Q=>c σ fun b=>if b=true then t σ Q else u σ Q
theorem de_one{op}{t:DTE}(h:DE X a t):DE X (.BoolOp op [a] pos) t:=⟨fun pins s σ H H₀ σD Q I ok q=>BoolOp_one (h.run pins s σ H H₀ σD Q I ok q)⟩
theorem DEnd.back{pins:List (Addr×Obj)}{σ:St}{H H1:Hp}{Q:D->Prop}{u:Value}{s':Shared}(s1:Same H H1)(h:DEnd X pins σ H1 Q u s'):DEnd X pins σ H Q u s':=let ⟨v,H',d,I',r,sm,rp,qd⟩:=h;⟨v,H',d,I',r,s1.trans sm,rp,qd⟩
theorem de_and{t u:DTE}(ha:DE X a t)(hb:DE X (.BoolOp .And (b::rest) pos) u):DE X (.BoolOp .And (a::b::rest) pos) (dAndV t u):=⟨fun pins s σ H H₀ σD Q I ok q=>by
 refine BoolOp_and (thn (ha.run pins s σ H H₀ σD _ I ok q) fun v s1 ⟨x,H1,d,I1,r1,sm,rp,q1⟩=>?_)
 cases d with
 | bool c =>
  cases rp
  cases r1
  refine wpAny_truthy_bool ?_
  cases c with
  | true=>exact thn (hb.run pins s1 σ H1 H₀ σD Q I1 (ok.after sm) (by simpa using q1)) fun _ _ h=>h.back sm
  | false=>exact⟨.bl false,H1,.bool false,I1,rfl,sm,.bl,by simpa using q1⟩
 | _=>exact q1.elim⟩
theorem de_or{t u:DTE}(ha:DE X a t)(hb:DE X (.BoolOp .Or (b::rest) pos) u):DE X (.BoolOp .Or (a::b::rest) pos) (dOrV t u):=⟨fun pins s σ H H₀ σD Q I ok q=>by
 refine BoolOp_or (thn (ha.run pins s σ H H₀ σD _ I ok q) fun v s1 ⟨x,H1,d,I1,r1,sm,rp,q1⟩=>?_)
 cases d with
 | bool c =>
  cases rp
  cases r1
  refine wpAny_truthy_bool ?_
  cases c with
  | false=>exact thn (hb.run pins s1 σ H1 H₀ σD Q I1 (ok.after sm) (by simpa using q1)) fun _ _ h=>h.back sm
  | true=>exact⟨.bl true,H1,.bool true,I1,rfl,sm,.bl,by simpa using q1⟩
 | _=>exact q1.elim⟩
theorem de_ifExp{c:Expr}{tc:DTT}{t u:DTE}(hc:DT X c tc)(ha:DE X a t)(hb:DE X b u):DE X (.IfExp c a b pos) (dIfE tc t u) :=
 DE.of (pe_ifExp hc.pt ha.pe hb.pe) fun σ H H₀ σD QD ok q=>⟨H₀,σD,_,ok,q,fun k H1 s1 q1=>by
  cases k with
  | true=>rw [if_pos rfl] at q1 ⊢;exact⟨H₀,σD,_,ok.after s1,q1,fun v H2 d s2 r2 q2=>⟨d,s1.trans s2,r2,q2⟩⟩
  | false=>rw [if_neg Bool.false_ne_true] at q1 ⊢;exact⟨H₀,σD,_,ok.after s1,q1,fun v H2 d s2 r2 q2=>⟨d,s1.trans s2,r2,q2⟩⟩⟩
end
section
variable {X:Cx}{pins:List (Addr×Obj)}{σ:St}{H:Hp}{s:Shared}
mutual
theorem Rep.reads(I:Inv X pins σ H s):∀{d:D} {v:V} {u:Value},Rep X.K H d v->RelV v u->d.canLay0=true->∃ as,Reads s.heap u d as
 | _,_,_,.non,r,_=>by cases r;exact⟨_,.none⟩
 | _,_,_,.bl,r,_=>by cases r;exact⟨_,.bool _⟩
 | _,_,_,.int,r,_=>by obtain⟨t,rfl⟩:=r;exact⟨_,.int _ _⟩
 | _,_,_,.str,r,_=>by obtain⟨t,rfl⟩:=r;exact⟨_,.str _ _⟩
 | _,_,_,.tup h q,r,c=>by
  cases r
  obtain⟨its,rv,⟨o,e1,e2,n,e3⟩,_⟩:=I.tuple h
  obtain⟨as,ra⟩:=Reps.reads I q rv (by simpa [PyData.canLay0] using c)
  exact⟨_,.tuple e1 e2 e3 (by simpa using ra)⟩
 | _,_,_,.lst h q,r,c=>by
  cases r
  obtain⟨_,z,its,n,rv,e⟩:=I.hok _ _ h
  obtain⟨as,ra⟩:=Reps.reads I q rv (by simpa [PyData.canLay0] using c)
  exact⟨_,.list e rfl rfl (by simpa using ra)⟩
 | _,_,_,.dic h q,r,c=>by simp [PyData.canLay0] at c
theorem Reps.reads(I:Inv X pins σ H s):∀{ds:List D} {vs:List V} {us:List Value},Reps X.K H ds vs->Vals vs us->PyData.canLayAll0 ds=true->∃ as,ReadsAll s.heap us ds as
 | _,_,_,.nil,r,_=>by cases r;exact⟨_,.nil⟩
 | _,_,_,.cons q t,r,c=>by
  cases r with
  | cons r1 r2 =>
   simp only [PyData.canLayAll0,Bool.and_eq_true] at c
   obtain⟨as,ra⟩:=Rep.reads I q r1 c.1
   obtain⟨bs,rb⟩:=Reps.reads I t r2 c.2
   exact⟨_,.cons ra rb⟩
end
theorem RepT.reads(I:Inv X pins σ H s){d:D}{v:V}{u:Value}(h:RepT X.K H d v)(r:RelV v u)(c:d.canLay0=true):∃ as,Reads s.heap u d as:=by
 rcases h with h | ⟨xs,rfl,a,vs,rfl,e,q⟩
 ·exact h.reads I r c
 ·cases r
  obtain⟨z,its,n,rv,e⟩:=e.ok I.hok
  obtain⟨as,ra⟩:=Reps.reads I q rv (by simpa [PyData.canLay0] using c)
  exact⟨_,.list e rfl rfl (by simpa using ra)⟩
end
def Lay(d:D):Prop:=SeqAt.shaped d=true
theorem Lay.can{d:D}(h:Lay d):d.canLay0=true:=by unfold Lay SeqAt.shaped at h;rw [Bool.and_eq_true] at h;exact h.1
theorem Lay.deep{d:D}(h:Lay d):d.depth<=64:=by unfold Lay SeqAt.shaped at h;rw [Bool.and_eq_true] at h;exact of_decide_eq_true h.2
abbrev DOp:=D->D->(D->Prop)->Prop
structure OpD(X:Cx)(f:Value->Value->Sem Value)(g:DOp):Prop where
 run:∀(pins:List (Addr×Obj)) (s:Shared) (σ:St) (H:Hp) (x y:V) (v u:Value) (a b:D) (Q:D->Prop),Inv X pins σ H s->RelV x v->RelV y u->RepT X.K H a x->RepT X.K H b y->g a b Q->wpAny (model X.prog X.w) X.A (f v u) (DEnd X pins σ H Q) X.xe s
structure OpF(X:Cx)(f:Value->Value->Sem Value)(g:D->D->(List D->Prop)->Prop):Prop where
 run:∀(pins:List (Addr×Obj)) (s:Shared) (σ:St) (H:Hp) (x y:V) (v u:Value) (a b:D) (Q:List D->Prop),Inv X pins σ H s->RelV x v->RelV y u->RepT X.K H a x->RepT X.K H b y->g a b Q->wpAny (model X.prog X.w) X.A (f v u) (DEndF X pins σ H Q) X.xe s
def dOp(g:DOp)(ta tb:DTE):DTE:=fun σ Q=>ta σ fun a=>tb σ fun b=>g a b Q
section
variable {X:Cx}{a b c:Expr}{ta tb tc:DTE}{pos:Pos}
theorem OpD.of{f:Value->Value->Sem Value}{r:R2}{g:DOp}(h:OpR X f r)(k:∀ x y H a b Q,RepT X.K H a x->RepT X.K H b y->g a b Q->r x y H (fun v H'=>∃ d,Same H H'/\Rep X.K H' d v/\Q d)):OpD X f g :=
 ⟨fun pins s σ H x y v u a b Q I rx ry ra rb q=>thn (h pins s σ H x y v u _ I rx ry (k x y H a b Q ra rb q)) fun w s' ⟨z,H',I',rz,d,sm,rp,qd⟩=>⟨z,H',d,I',rz,sm,rp,qd⟩⟩
theorem OpF.of{f:Value->Value->Sem Value}{r:R2}{g:D->D->(List D->Prop)->Prop}(h:OpR X f r)(k:∀ x y H a b Q,RepT X.K H a x->RepT X.K H b y->g a b Q->r x y H (fun v H'=>∃ p vs xs,v=.ref p/\Same H H'/\H p=none/\H' p=some (.lst vs)/\Reps X.K H' xs vs/\Q xs)):OpF X f g :=
 ⟨fun pins s σ H x y v u a b Q I rx ry ra rb q=>thn (h pins s σ H x y v u _ I rx ry (k x y H a b Q ra rb q)) fun w s' ⟨z,H',I',rz,p,vs,xs,ez,sm,n,e,rp,qd⟩=>⟨p,H',vs,xs,by subst ez;exact rz,I',sm,n,e,rp,qd⟩⟩
theorem OpF.opD{f:Value->Value->Sem Value}{g:D->D->(List D->Prop)->Prop}(h:OpF X f g):OpD X f (fun a b Q=>g a b fun xs=>Q (.list xs)) :=
 ⟨fun pins s σ H x y v u a b Q I rx ry ra rb q=>thn (h.run pins s σ H x y v u a b _ I rx ry ra rb q) fun w s' ⟨p,H',vs,xs,ew,I',sm,n,e,rp,qd⟩=>by
  obtain⟨H'',J,sm',r'⟩:=freeze I' sm n e rp
  exact⟨.ref p,H'',.list xs,J,ew,sm',r',qd⟩⟩
theorem bin2{ta tb:DTE}(ha:DV X a ta)(hb:DV X b tb){pins:List (Addr×Obj)}{s:Shared}{σ:St}{H H₀:Hp}{σD:DSt}{R:D->D->Prop}(I:Inv X pins σ H s)(ok:DOk X.K H₀ H σD σ)(h:ta σD fun x=>tb σD fun y=>R x y)
  {α:Type} {Q:α->Shared->Prop} {f:Value->Value->Sem α}
  (hf:∀ v u s2 x y H2 d e,Inv X pins σ H2 s2->RelV x v->RelV y u->Same H H2->RepT X.K H2 d x->RepT X.K H2 e y->R d e->wpAny (model X.prog X.w) X.A (f v u) Q X.xe s2) :
  wpAny (model X.prog X.w) X.A (eval a X.env) (fun v s₁=>wpAny (model X.prog X.w) X.A (eval b X.env) (fun u s₂=>wpAny (model X.prog X.w) X.A (f v u) Q X.xe s₂) X.xe s₁) X.xe s:=by
 refine thn (ha.run pins s σ H H₀ σD _ I ok h) fun v s1 ⟨x,H1,d,I1,r1,sm1,p1,q1⟩=>?_
 refine thn (hb.run pins s1 σ H1 H₀ σD _ I1 (ok.after sm1) q1) fun u s2 ⟨y,H2,e,I2,r2,sm2,p2,q2⟩=>?_
 exact hf v u s2 x y H2 d e I2 r1 r2 (sm1.trans sm2) (p1.same sm2) p2 q2
theorem de_op{op:Operator}{g:DOp}(ho:OpD X (binaryOp op) g)(ha:DV X a ta)(hb:DV X b tb):DE X (.BinOp a op b pos) (dOp g ta tb) :=
 ⟨fun pins s σ H H₀ σD Q I ok q=>wpAny_BinOp (bin2 ha hb I ok q fun v u s2 x y H2 d e I2 rx ry sm rd re qd=>thn (ho.run pins s2 σ H2 x y v u d e Q I2 rx ry rd re qd) fun _ _ z=>z.back sm)⟩
theorem de_cmp{op:CmpOp}{g:DOp}(ho:OpD X (compareOp op) g)(ha:DV X a ta)(hb:DV X b tb)(hm:behindInMarks op b=false):DE X (.Compare a [op] [b] pos) (dOp g ta tb) :=
 ⟨fun pins s σ H H₀ σD Q I ok q=>wpAny_Compare1 (bin2 ha hb I ok q fun v u s2 x y H2 d e I2 rx ry sm rd re qd=>thn (ho.run pins s2 σ H2 x y v u d e Q I2 rx ry rd re qd) fun _ _ z=>z.back sm) hm⟩
theorem dt_cmp{op:CmpOp}{g:DOp}(ho:OpD X (compareOp op) g)(ha:DV X a ta)(hb:DV X b tb)(hm:behindInMarks op b=false):DT X (.Compare a [op] [b] pos) (dTB (dOp g ta tb)) :=
 ⟨fun pins s σ H H₀ σD Q I ok q=>by
  refine wpAny_isTrue_Compare1 (thn (ha.run pins s σ H H₀ σD _ I ok q) fun v s1 ⟨x,H1,d,I1,r1,sm1,p1,q1⟩=>thn (hb.run pins s1 σ H1 H₀ σD _ I1 (ok.after sm1) q1) fun u s2 ⟨y,H2,e,I2,r2,sm2,p2,q2⟩ =>
   thn (ho.run pins s2 σ H2 x y v u d e _ I2 r1 r2 (p1.same sm2) p2 q2) fun k s3 ⟨z,H3,dz,I3,r3,sm3,p3,q3⟩=>?_) hm
  cases dz with
  | bool k =>
   cases p3
   cases r3
   exact wpAny_truthy_bool ⟨H3,I3,(sm1.trans sm2).trans sm3,q3⟩
  | _=>exact q3.elim⟩
def dChain(g g':DOp)(ta tb tc:DTE):DTE:=fun σ Q=>ta σ fun a=>tb σ fun b=>g a b fun z=>match z with
 | .bool k=>if k=true then tc σ fun c=>g' b c Q else Q (.bool false)
 | _=>False
theorem de_chain{op op':CmpOp}{g g':DOp}(ho:OpD X (compareOp op) g)(ho':OpD X (compareOp op') g')(ha:DV X a ta)(hb:DV X b tb)(hc:DV X c tc)
  (hm:lastMarks [op,op'] [b,c]=false:=by with_unfolding_all rfl):DE X (.Compare a [op,op'] [b,c] pos) (dChain g g' ta tb tc):=⟨fun pins s σ H H₀ σD Q I ok q=>by
 refine Compare_chain (thn (ha.run pins s σ H H₀ σD _ I ok q) fun v s1 ⟨x,H1,d,I1,r1,sm1,p1,q1⟩=>chain_link (thn (hb.run pins s1 σ H1 H₀ σD _ I1 (ok.after sm1) q1) fun u s2 ⟨y,H2,e,I2,r2,sm2,p2,q2⟩ =>
  thn (ho.run pins s2 σ H2 x y v u d e _ I2 r1 r2 (p1.same sm2) p2 q2) fun k s3 ⟨z,H3,dz,I3,r3,sm3,p3,q3⟩=>?_)) hm
 cases dz with
 | bool k =>
  cases p3
  cases r3
  refine wpAny_truthy_bool ?_
  cases k with
  | false=>exact ite_ff ⟨.bl false,H3,.bool false,I3,rfl,(sm1.trans sm2).trans sm3,.bl,by simpa using q3⟩
  | true =>
   refine ite_tt (chain_last (thn (hc.run pins s3 σ H3 H₀ σD (fun c=>g' e c Q) I3 (ok.after ((sm1.trans sm2).trans sm3)) (by simpa using q3)) fun w' s4 ⟨z',H4,f,I4,r4,sm4,p4,q4⟩=>?_))
   exact thn (ho'.run pins s4 σ H4 y z' u w' e f Q I4 r2 r4 ((p2.same sm3).same sm4) p4 q4) fun _ _ z=>z.back (((sm1.trans sm2).trans sm3).trans sm4)
 | _=>exact q3.elim⟩
theorem dt_chain{op op':CmpOp}{g g':DOp}(ho:OpD X (compareOp op) g)(ho':OpD X (compareOp op') g')(ha:DV X a ta)(hb:DV X b tb)(hc:DV X c tc)
  (hm:lastMarks [op,op'] [b,c]=false:=by with_unfolding_all rfl):DT X (.Compare a [op,op'] [b,c] pos) (dTB (dChain g g' ta tb tc)):=⟨fun pins s σ H H₀ σD Q I ok q=>by
 refine isTrue_chain (thn (ha.run pins s σ H H₀ σD _ I ok q) fun v s1 ⟨x,H1,d,I1,r1,sm1,p1,q1⟩=>test_link (thn (hb.run pins s1 σ H1 H₀ σD _ I1 (ok.after sm1) q1) fun u s2 ⟨y,H2,e,I2,r2,sm2,p2,q2⟩ =>
  thn (ho.run pins s2 σ H2 x y v u d e _ I2 r1 r2 (p1.same sm2) p2 q2) fun k s3 ⟨z,H3,dz,I3,r3,sm3,p3,q3⟩=>?_)) hm
 cases dz with
 | bool k =>
  cases p3
  cases r3
  refine wpAny_truthy_bool ?_
  cases k with
  | false=>exact ite_ff ⟨H3,I3,(sm1.trans sm2).trans sm3,by simpa [onB] using q3⟩
  | true =>
   refine ite_tt (test_last (thn (hc.run pins s3 σ H3 H₀ σD (fun c=>g' e c (onB Q)) I3 (ok.after ((sm1.trans sm2).trans sm3)) (by simpa using q3)) fun w' s4 ⟨z',H4,f,I4,r4,sm4,p4,q4⟩=>?_))
   refine thn (ho'.run pins s4 σ H4 y z' u w' e f _ I4 r2 r4 ((p2.same sm3).same sm4) p4 q4) fun k' s5 ⟨z2,H5,dz2,I5,r5,sm5,p5,q5⟩=>?_
   cases dz2 with
   | bool k2 =>
    cases p5
    cases r5
    exact wpAny_truthy_bool ⟨H5,I5,(((sm1.trans sm2).trans sm3).trans sm4).trans sm5,q5⟩
   | _=>exact q5.elim
 | _=>exact q3.elim⟩
def dUn(g:D->(D->Prop)->Prop)(ta:DTE):DTE:=fun σ Q=>ta σ fun a=>g a Q
def gNeg:D->(D->Prop)->Prop
 | .int i,Q=>Q (.int (-i))
 | _,_=>False
theorem de_neg(ha:DE X a ta):DE X (.UnaryOp .USub a pos) (dUn gNeg ta) :=
 DE.of (pe_un un_neg ha.pe) fun σ H H₀ σD QD ok q=>⟨H₀,σD,_,ok,q,fun v H1 d s1 r1 q1=>by
  cases d with
  | int i=>cases r1;exact⟨i,rfl,.int (-i),s1,.int,q1⟩
  | _=>exact q1.elim⟩
def gNot:D->(D->Prop)->Prop
 | .bool b,Q=>Q (.bool (!b))
 | _,_=>False
theorem de_not(ha:DE X a ta):DE X (.UnaryOp .Not a pos) (dUn gNot ta) :=
 DE.of (pe_not ha.pe) fun σ H H₀ σD QD ok q=>⟨H₀,σD,_,ok,q,fun v H1 d s1 r1 q1=>by
  cases d with
  | bool i=>cases r1;exact⟨i,rfl,.bool (!i),s1,.bl,q1⟩
  | _=>exact q1.elim⟩
theorem RepT.int{K:PySem.W.Frag}{H:Hp}{i:Int}{v:V}(h:RepT K H (.int i) v):v=.int i:=by
 rcases h with h | ⟨_,e,_⟩
 ·cases h;rfl
 ·cases e
theorem RepT.str{K:PySem.W.Frag}{H:Hp}{i:Str}{v:V}(h:RepT K H (.str i) v):v=.str i:=by
 rcases h with h | ⟨_,e,_⟩
 ·cases h;rfl
 ·cases e
theorem RepT.bool{K:PySem.W.Frag}{H:Hp}{i:Bool}{v:V}(h:RepT K H (.bool i) v):v=.bl i:=by
 rcases h with h | ⟨_,e,_⟩
 ·cases h;rfl
 ·cases e
theorem RepT.none{K:PySem.W.Frag}{H:Hp}{v:V}(h:RepT K H .none v):v=.non:=by
 rcases h with h | ⟨_,e,_⟩
 ·cases h;rfl
 ·cases e
theorem RepT.tuple{K:PySem.W.Frag}{H:Hp}{xs:List D}{v:V}(h:RepT K H (.tuple xs) v):∃ a vs,v=.ref a/\SqT K H a vs/\Reps K H xs vs:=by
 rcases h with h | ⟨_,e,_⟩
 ·cases h with
  | tup h r=>exact⟨_,_,rfl,h,r⟩
 ·cases e
def gII(C:Int->Int->Prop)(f:Int->Int->D):DOp
 | .int i,.int j,Q=>C i j/\Q (f i j)
 | _,_,_=>False
def gII0(f:Int->Int->D):DOp
 | .int i,.int j,Q=>Q (f i j)
 | _,_,_=>False
theorem OpD.ii{f:Value->Value->Sem Value}{C:Int->Int->Prop}{g:Int->Int->Int}(h:OpR X f (rI C fun i j=>.int (g i j))):OpD X f (gII C fun i j=>.int (g i j)) :=
 OpD.of h fun x y H a b Q ra rb q=>by
  cases a with
  | int i =>
   cases b with
   | int j=>cases ra.int;cases rb.int;exact⟨i,j,rfl,rfl,q.1,.int _,Same.refl _,.int,q.2⟩
   | _=>exact q.elim
  | _=>exact q.elim
theorem OpD.ii0{f:Value->Value->Sem Value}{g:Int->Int->Int}(h:OpR X f (rI0 fun i j=>.int (g i j))):OpD X f (gII0 fun i j=>.int (g i j)) :=
 OpD.of h fun x y H a b Q ra rb q=>by
  cases a with
  | int i =>
   cases b with
   | int j=>cases ra.int;cases rb.int;exact⟨i,j,rfl,rfl,.int _,Same.refl _,.int,q⟩
   | _=>exact q.elim
  | _=>exact q.elim
theorem OpD.ib0{f:Value->Value->Sem Value}{g:Int->Int->Bool}(h:OpR X f (rI0 fun i j=>.bl (g i j))):OpD X f (gII0 fun i j=>.bool (g i j)) :=
 OpD.of h fun x y H a b Q ra rb q=>by
  cases a with
  | int i =>
   cases b with
   | int j=>cases ra.int;cases rb.int;exact⟨i,j,rfl,rfl,.bool _,Same.refl _,.bl,q⟩
   | _=>exact q.elim
  | _=>exact q.elim
theorem o_sub:OpD X (binaryOp .Sub) (gII0 fun i j=>.int (i-j)):=OpD.ii0 op_sub
theorem o_mod:OpD X (binaryOp .Mod) (gII (fun _ j=>0<j) fun i j=>.int (i % j)):=OpD.ii op_mod
theorem o_pow:OpD X (binaryOp .Pow) (gII CPow fun i j=>.int (i ^ j.toNat)):=OpD.ii op_pow
theorem o_lt:OpD X (compareOp .Lt) (gII0 fun i j=>.bool (decide (i<j))):=OpD.ib0 op_lt
theorem o_le:OpD X (compareOp .LtE) (gII0 fun i j=>.bool (decide (i<=j))):=OpD.ib0 op_le
theorem o_gt:OpD X (compareOp .Gt) (gII0 fun i j=>.bool (decide (j<i))):=OpD.ib0 op_gt
theorem o_ge:OpD X (compareOp .GtE) (gII0 fun i j=>.bool (decide (j<=i))):=OpD.ib0 op_ge
def gCat:D->D->(List D->Prop)->Prop
 | .list xs,.list ys,Q=>xs.length+ys.length<=sizeLine/\Q (xs++ys)
 | _,_,_=>False
theorem op_catR:OpR X (binaryOp .Add) (fun x y H Q=>∃ l b xs zs,x=.ref l/\y=.ref b/\Rd H l (.lst xs)/\Rd H b (.lst zs)/\xs.length+zs.length<=sizeLine/\∀ p,H p=none->Q (.ref p) (upd H p (.lst (xs++zs)))):=by
 intro pins s σ H x y v u Q I rx ry h
 obtain⟨l,b,xs,zs,rfl,rfl,hH,hB,hz,q⟩:=h
 cases rx
 cases ry
 obtain⟨z,its,n,r,e⟩:=hH.ok I.hok
 obtain⟨z2,its2,n2,r2,e2⟩:=hB.ok I.hok
 have hl:=r.length
 have hl2:=r2.length
 refine PySem.P.add_list e e2 ?_ (by rw [List.size_toArray,List.size_toArray];omega)
 have ea:its.toArray++its2.toArray=(its++its2).toArray:=by simp
 rw [ea]
 exact⟨.ref _,_,I.lnew (t':=s.toks) (r.append r2) (by rw [List.length_append];omega),rfl,q _ I.fresh⟩
theorem f_cat:OpF X (binaryOp .Add) gCat:=OpF.of op_catR fun x y H a b Q ra rb q=>by
 cases a with
 | list xs =>
  cases b with
  | list ys =>
   obtain⟨l,vs,rfl,hl,r1⟩:=ra.list
   obtain⟨m,ws,rfl,hm,r2⟩:=rb.list
   exact⟨l,m,vs,ws,rfl,rfl,hl,hm,by rw [<-r1.length,<-r2.length];exact q.1,fun p hp=>⟨p,_,xs++ys,rfl,same_new hp _,hp,upd_same,(r1.append r2).same (same_new hp _),q.2⟩⟩
  | _=>exact q.elim
 | _=>exact q.elim
def gRep:D->D->(List D->Prop)->Prop
 | .list xs,.int k,Q=>-(2 ^ 63)<=k/\k<2 ^ 63/\xs.length * k.toNat<=sizeLine/\Q (List.replicate k.toNat xs).flatten
 | _,_,_=>False
theorem op_repR:OpR X (binaryOp .Mult) (fun x y H Q=>∃ l k xs,x=.ref l/\y=.int k/\Rd H l (.lst xs)/\-(2 ^ 63)<=k/\k<2 ^ 63/\xs.length * k.toNat<=sizeLine /\
 ∀ p,H p=none->Q (.ref p) (upd H p (.lst (List.replicate k.toNat xs).flatten))):=by
 intro pins s σ H x y v u Q I rx ry h
 obtain⟨l,k,xs,rfl,rfl,hH,h1,h2,hz,q⟩:=h
 cases rx
 obtain⟨t,rfl⟩:=ry
 obtain⟨z,its,n,r,e⟩:=hH.ok I.hok
 have hl:=r.length
 have hlen:its.toArray.size * k.toNat<=sizeLine:=by rw [List.size_toArray,<-hl];exact hz
 have hcap:¬ its.toArray.size * k.toNat > (2 ^ 63-1) / 8:=by
  have:(sizeLine:Nat)<=(2 ^ 63-1) / 8:=by decide
  omega
 have hfit:¬ (!Builtin.List.listFitsIndex k)=true:=by
  rw [fitsIndex_both h1 h2]
  exact Bool.false_ne_true
 have hlong:¬ Builtin.List.listTooLong (its.toArray.size * k.toNat)=true:=by
  rw [notLongL hlen]
  exact Bool.false_ne_true
 have hnew:List.foldl (fun x1 x2=>x1++x2) #[] (List.replicate (if its.toArray.isEmpty=true then 0 else k.toNat) its.toArray)=(List.replicate k.toNat its).flatten.toArray:=by
  have f0:∀ m:Nat,List.foldl (fun x1 x2=>x1++x2) #[] (List.replicate m its.toArray)=(List.replicate m its).flatten.toArray:=fun m=>by
   have:=foldl_rep its m []
   rw [List.nil_append] at this
   exact this
  rw [f0]
  cases its with
  | nil=>simp
  | cons a r'=>rw [if_neg (by simp)]
 refine wpAny_binaryOp_repeat_ref (T := "list") (U := "int") (by decide) ⟨_,e,rfl⟩ (fun s'=>typeIs_int s' k t) noFill_list_mul F.fills_int_mul F.slot_int_rmul repeat_list F.slot_int_index.lookup
  (call_meets F.slot_int_rmul (typeIs_int s k t) F.entry_int_rmul (F.args_int_rmul_2 _ _) (int___rmul___int_list k t l its.toArray n)
   ⟨e,rfl,⟨_,e,rfl⟩,call_meets F.slot_list_mul ⟨_,e,rfl⟩ F.entry_list_mul (F.args_list_mul_2 _ _) (AutoListH.list___mul___list_int_3 l its.toArray n k t hfit hcap hlong) ⟨e,?_⟩⟩)
 rw [hnew]
 exact⟨.ref _,_,I.lnew (t':=s.toks) (r.rep k.toNat) (by rw [len_rep,Nat.mul_comm];exact hz),rfl,q _ I.fresh⟩
theorem f_rep:OpF X (binaryOp .Mult) gRep:=OpF.of op_repR fun x y H a b Q ra rb q=>by
 cases a with
 | list xs =>
  cases b with
  | int k =>
   obtain⟨l,vs,rfl,hl,r1⟩:=ra.list
   cases rb.int
   obtain⟨h1,h2,h3,q⟩:=q
   exact⟨l,k,vs,rfl,rfl,hl,h1,h2,by rw [<-r1.length];exact h3,fun p hp=>⟨p,_,_,rfl,same_new hp _,hp,upd_same,(r1.rep k.toNat).same (same_new hp _),q⟩⟩
  | _=>exact q.elim
 | _=>exact q.elim
def gAdd:DOp
 | .int i,.int j,Q=>Q (.int (i+j))
 | .str x,.str y,Q=>x.length+y.length<=sizeLine/\Q (.str (x++y))
 | .tuple xs,.tuple ys,Q=>xs.length+ys.length<=sizeLine/\Q (.tuple (xs++ys))
 | .list xs,.list ys,Q=>xs.length+ys.length<=sizeLine/\Q (.list (xs++ys))
 | _,_,_=>False
theorem op_catS:OpR X (binaryOp .Add) (fun x y H Q=>∃ a b xs ys,x=.ref a/\y=.ref b/\SqT X.K H a xs/\SqT X.K H b ys/\xs.length+ys.length<=sizeLine/\∀ p H',Same H H'->SqT X.K H' p (xs++ys)->Q (.ref p) H'):=by
 intro pins s σ H x y v u Q I rx ry h
 obtain⟨a,b,xs,ys,rfl,rfl,ha,hb,hz,q⟩:=h
 cases rx
 cases ry
 obtain⟨its,r1,p1,_⟩:=I.tuple ha
 obtain⟨its2,r2,p2,_⟩:=I.tuple hb
 by_cases hx:xs = []
 ·obtain⟨⟨cls,dd,data,sl⟩,ho,hc,n,hd⟩:=id p1
  obtain⟨⟨cls2,dd2,data2,sl2⟩,ho2,hc2,n2,hd2⟩:=id p2
  simp only at hc hd hc2 hd2
  subst hc hd hc2 hd2
  have hv:its = []:=r1.nil_iff.mpr hx
  refine concat_meets ⟨_,ho,rfl⟩ ⟨_,ho2,rfl⟩ noFill_tuple_add seq_tuple_add PySem.F.slot_tuple_add PySem.F.entry_tuple_add (PySem.F.args_tuple_add_2 _ _) (tuple_addW0 a b its.toArray its2.toArray n n2 dd dd2 sl sl2 (by simp [hv])) ⟨ho,ho2,?_⟩
  exact⟨.ref b,H,I,rfl,q b H (Same.refl H) (by rw [hx,List.nil_append];exact hb)⟩
 ·refine HT.cat_tup p1 p2 (fun z=>hx (r1.nil_iff.mp z)) (fun z=>⟨.ref a,H,I,rfl,q a H (Same.refl H) (by rw [r2.nil_iff.mp z,List.append_nil];exact ha)⟩) (fun z=>?_) (by rw [<-r1.length,<-r2.length];exact hz)
  refine⟨.ref s.heap.objs.size,_,I.laid (t':=s.toks) (o:=.tup (xs++ys)) (fun b ob q=>Heap.get?_push_of_some _ q) (Nat.le_refl _) ?_,rfl,q _ _ (same_new (I.hok.fresh (Nat.le_refl _)) _) (SqT.of upd_same)⟩
  exact⟨by rw [List.length_append];exact hz,_,r1.append r2,TupD.new _ _⟩
theorem o_catT:OpD X (binaryOp .Add) (fun a b Q=>match a,b with | .tuple xs,.tuple ys=>xs.length+ys.length<=sizeLine/\Q (.tuple (xs++ys)) | _,_=>False):=OpD.of op_catS fun x y H a b Q ra rb q=>by
 cases a with
 | tuple xs =>
  cases b with
  | tuple ys =>
   obtain⟨l,vs,rfl,hl,r1⟩:=ra.tuple
   obtain⟨m,ws,rfl,hm,r2⟩:=rb.tuple
   exact⟨l,m,vs,ws,rfl,rfl,hl,hm,by rw [<-r1.length,<-r2.length];exact q.1,fun p H' sm e=>⟨_,sm,.tup e ((r1.append r2).same sm),q.2⟩⟩
  | _=>exact q.elim
 | _=>exact q.elim
theorem o_addS:OpD X (binaryOp .Add) (fun a b Q=>match a,b with | .str x,.str y=>x.length+y.length<=sizeLine/\Q (.str (x++y)) | _,_=>False):=OpD.of op_add_str fun x y H a b Q ra rb q=>by
 cases a with
 | str xs =>
  cases b with
  | str ys=>cases ra.str;cases rb.str;exact⟨_,_,rfl,rfl,q.1,.str _,Same.refl _,.str,q.2⟩
  | _=>exact q.elim
 | _=>exact q.elim
theorem o_add:OpD X (binaryOp .Add) gAdd:=⟨fun pins s σ H x y v u a b Q I rx ry ra rb q=>by
 cases a with
 | int i=>cases b with
  | int j=>exact(OpD.ii0 op_add).run pins s σ H x y v u _ _ Q I rx ry ra rb q
  | _=>exact q.elim
 | str i=>cases b with
  | str j=>exact o_addS.run pins s σ H x y v u _ _ Q I rx ry ra rb q
  | _=>exact q.elim
 | tuple i=>cases b with
  | tuple j=>exact o_catT.run pins s σ H x y v u _ _ Q I rx ry ra rb q
  | _=>exact q.elim
 | list i=>cases b with
  | list j=>exact f_cat.opD.run pins s σ H x y v u _ _ Q I rx ry ra rb q
  | _=>exact q.elim
 | _=>exact q.elim⟩
def gMul:DOp
 | .int i,.int j,Q=>CMul i j/\Q (.int (i * j))
 | .list xs,.int k,Q=>-(2 ^ 63)<=k/\k<2 ^ 63/\xs.length * k.toNat<=sizeLine/\Q (.list (List.replicate k.toNat xs).flatten)
 | _,_,_=>False
theorem o_mul:OpD X (binaryOp .Mult) gMul:=⟨fun pins s σ H x y v u a b Q I rx ry ra rb q=>by
 cases a with
 | int i=>cases b with
  | int j=>exact(OpD.ii op_mul).run pins s σ H x y v u _ _ Q I rx ry ra rb q
  | _=>exact q.elim
 | list i=>cases b with
  | int j=>exact f_rep.opD.run pins s σ H x y v u _ _ Q I rx ry ra rb q
  | _=>exact q.elim
 | _=>exact q.elim⟩
def gEq:DOp
 | .int i,.int j,Q=>Q (.bool (decide (i=j)))
 | .str i,.str j,Q=>Q (.bool (decide (i=j)))
 | .bool i,.bool j,Q=>Q (.bool (decide (i=j)))
 | a,b,Q=>Lay a/\Lay b/\Q (.bool (PyData.eqv a b))
def gNe:DOp
 | .int i,.int j,Q=>Q (.bool (!decide (i=j)))
 | .str i,.str j,Q=>Q (.bool (!decide (i=j)))
 | .bool i,.bool j,Q=>Q (.bool (!decide (i=j)))
 | a,b,Q=>Lay a/\Lay b/\Q (.bool (!PyData.eqv a b))
theorem o_eqG(hu:X.A.units+64<cLine):OpD X (compareOp .Eq) (fun a b Q=>Lay a/\Lay b/\Q (.bool (PyData.eqv a b))):=⟨fun pins s σ H x y v u a b Q I rx ry ra rb q=>by
 obtain⟨as,e1⟩:=ra.reads I rx q.1.can
 obtain⟨bs,e2⟩:=rb.reads I ry q.2.1.can
 exact eq_dataH e1 e2 q.1 q.2.1 hu ⟨.bl _,H,_,I,rfl,Same.refl _,.bl,q.2.2⟩⟩
theorem o_neG(hu:X.A.units+64<cLine):OpD X (compareOp .NotEq) (fun a b Q=>Lay a/\Lay b/\Q (.bool (!PyData.eqv a b))):=⟨fun pins s σ H x y v u a b Q I rx ry ra rb q=>by
 obtain⟨as,e1⟩:=ra.reads I rx q.1.can
 obtain⟨bs,e2⟩:=rb.reads I ry q.2.1.can
 exact ne_dataH e1 e2 q.1 q.2.1 hu ⟨.bl _,H,_,I,rfl,Same.refl _,.bl,q.2.2⟩⟩
theorem o_eqS{f:D->D->Bool}(neg:Bool)(op:CmpOp)(h:OpR X (compareOp op) (fun x y H Q=>scal x y=true/\Q (.bl (if neg then !decide (x=y) else decide (x=y))) H)):
  OpD X (compareOp op) (fun a b Q=>match a,b with
   | .int i,.int j=>Q (.bool (if neg then !decide (i=j) else decide (i=j)))
   | .str i,.str j=>Q (.bool (if neg then !decide (i=j) else decide (i=j)))
   | .bool i,.bool j=>Q (.bool (if neg then !decide (i=j) else decide (i=j)))
   | _,_=>False):=OpD.of h fun x y H a b Q ra rb q=>by
 cases a with
 | int i=>cases b with
  | int j =>
   cases ra.int;cases rb.int
   have e:decide (V.int i=V.int j)=decide (i=j):=by rw [Bool.eq_iff_iff];simp
   rw [e]
   exact⟨rfl,.bool _,Same.refl _,.bl,q⟩
  | _=>exact q.elim
 | str i=>cases b with
  | str j =>
   cases ra.str;cases rb.str
   have e:decide (V.str i=V.str j)=decide (i=j):=by rw [Bool.eq_iff_iff];simp
   rw [e]
   exact⟨rfl,.bool _,Same.refl _,.bl,q⟩
  | _=>exact q.elim
 | bool i=>cases b with
  | bool j =>
   cases ra.bool;cases rb.bool
   have e:decide (V.bl i=V.bl j)=decide (i=j):=by rw [Bool.eq_iff_iff];simp
   rw [e]
   exact⟨rfl,.bool _,Same.refl _,.bl,q⟩
  | _=>exact q.elim
 | _=>exact q.elim
theorem o_eq{k:Nat}(hr:Room k X.A):OpD X (compareOp .Eq) gEq:=⟨fun pins s σ H x y v u a b Q I rx ry ra rb q=>by
 have G:=(o_eqG (X:=X) hr.units).run pins s σ H x y v u a b Q I rx ry ra rb
 have S:=(o_eqS (X:=X) (f:=fun _ _=>true) false .Eq op_eq).run pins s σ H x y v u a b Q I rx ry ra rb
 cases a <;> cases b <;> first | exact S q | exact G q⟩
theorem o_ne{k:Nat}(hr:Room k X.A):OpD X (compareOp .NotEq) gNe:=⟨fun pins s σ H x y v u a b Q I rx ry ra rb q=>by
 have G:=(o_neG (X:=X) hr.units).run pins s σ H x y v u a b Q I rx ry ra rb
 have S:=(o_eqS (X:=X) (f:=fun _ _=>true) true .NotEq op_ne).run pins s σ H x y v u a b Q I rx ry ra rb
 cases a <;> cases b <;> first | exact S q | exact G q⟩
def isNone:D->Bool
 | .none=>true
 | _=>false
def gIsN:DOp:=fun a b Q=>match b with
 | .none=>Q (.bool (isNone a))
 | _=>False
theorem isNone_rep{K:PySem.W.Frag}{H:Hp}{d:D}{v:V}(h:RepT K H d v):decide (v=.non)=isNone d:=by
 rcases h with h | ⟨xs,rfl,a,vs,rfl,_⟩
 ·cases h <;> rfl
 ·rfl
theorem o_isN:OpD X (compareOp .Is) gIsN:=OpD.of op_isN fun x y H a b Q ra rb q=>by
 cases b with
 | none=>cases rb.none;refine⟨rfl,.bool (isNone a),Same.refl _,?_,q⟩;rw [isNone_rep ra];exact .bl
 | _=>exact q.elim
def inD(x:D)(ys:List D):Bool:=ys.any fun y=>PyData.eqv y x
def gIn(neg:Bool):DOp:=fun a b Q=>match b with
 | .list ys=>Lay a/\Lay (.list ys)/\Q (.bool (if neg then !inD a ys else inD a ys))
 | .tuple ys=>Lay a/\Lay (.tuple ys)/\Q (.bool (if neg then !inD a ys else inD a ys))
 | _=>False
theorem Lay.all{xs:List D}(h:Lay (.list xs)):PyData.canLayAll0 xs=true:=by simpa [PyData.canLay0] using h.can
theorem Lay.allT{xs:List D}(h:Lay (.tuple xs)):PyData.canLayAll0 xs=true:=by simpa [PyData.canLay0] using h.can
theorem o_in{k:Nat}(hr:Room k X.A):OpD X (compareOp .In) (gIn false):=⟨fun pins s σ H x y v u a b Q I rx ry ra rb q=>by
 have hu:=hr.un
 cases b with
 | list ys =>
  obtain⟨as,e1⟩:=ra.reads I rx q.1.can
  obtain⟨bs,e2⟩:=rb.reads I ry q.2.1.can
  have:=q.1.deep
  exact SeqAt.in_list_reads e2 e1 q.2.1.all q.1.can (by omega) ⟨.bl _,H,_,I,rfl,Same.refl _,.bl,q.2.2⟩
 | tuple ys =>
  obtain⟨as,e1⟩:=ra.reads I rx q.1.can
  obtain⟨bs,e2⟩:=rb.reads I ry q.2.1.can
  have:=q.1.deep
  exact SeqAt.in_tuple_reads e2 e1 q.2.1.allT q.1.can (by omega) ⟨.bl _,H,_,I,rfl,Same.refl _,.bl,q.2.2⟩
 | _=>exact q.elim⟩
theorem o_notIn{k:Nat}(hr:Room k X.A):OpD X (compareOp .NotIn) (gIn true):=⟨fun pins s σ H x y v u a b Q I rx ry ra rb q=>by
 have hu:=hr.un
 cases b with
 | list ys =>
  obtain⟨as,e1⟩:=ra.reads I rx q.1.can
  obtain⟨bs,e2⟩:=rb.reads I ry q.2.1.can
  have:=q.1.deep
  exact SeqAt.notIn_list_reads e2 e1 q.2.1.all q.1.can (by omega) ⟨.bl _,H,_,I,rfl,Same.refl _,.bl,q.2.2⟩
 | tuple ys =>
  obtain⟨as,e1⟩:=ra.reads I rx q.1.can
  obtain⟨bs,e2⟩:=rb.reads I ry q.2.1.can
  have:=q.1.deep
  exact SeqAt.notIn_tuple_reads e2 e1 q.2.1.allT q.1.can (by omega) ⟨.bl _,H,_,I,rfl,Same.refl _,.bl,q.2.2⟩
 | _=>exact q.elim⟩
end
structure CallD(X:Cx)(f:Value)(g:List D->(D->Prop)->Prop):Prop where
 run:∀(pins:List (Addr×Obj)) (s:Shared) (σ:St) (H:Hp) (vs:List V) (us:List Value) (ds:List D) (Q:D->Prop),Inv X pins σ H s->Vals vs us->RepTs X.K H ds vs->g ds Q->wpAny (model X.prog X.w) X.A (call f us) (DEnd X pins σ H Q) X.xe s
structure CallF(X:Cx)(f:Value)(g:List D->(List D->Prop)->Prop):Prop where
 run:∀(pins:List (Addr×Obj)) (s:Shared) (σ:St) (H:Hp) (vs:List V) (us:List Value) (ds:List D) (Q:List D->Prop),Inv X pins σ H s->Vals vs us->RepTs X.K H ds vs->g ds Q->wpAny (model X.prog X.w) X.A (call f us) (DEndF X pins σ H Q) X.xe s
def dCB(g:List D->(D->Prop)->Prop)(t:DTF):DTE:=fun σ Q=>t σ fun ds=>g ds Q
def dCF(g:List D->(List D->Prop)->Prop)(t:DTF):DTF:=fun σ Q=>t σ fun ds=>g ds Q
section
variable {X:Cx}{f:Value}{g:List D->(D->Prop)->Prop}{gf:List D->(List D->Prop)->Prop}{e:Expr}{es:List Expr}{t:DTF}{x:Str}{p pos:Pos}
theorem CallD.of{r:List V->Hp->VK->Prop}(h:CallR X f r)(k:∀ vs H ds Q,RepTs X.K H ds vs->g ds Q->r vs H (fun v H'=>∃ d,Same H H'/\Rep X.K H' d v/\Q d)):CallD X f g :=
 ⟨fun pins s σ H vs us ds Q I rv rd q=>thn (h pins s σ H vs us _ I rv (k vs H ds Q rd q)) fun w s' ⟨z,H',I',rz,d,sm,rp,qd⟩=>⟨z,H',d,I',rz,sm,rp,qd⟩⟩
theorem CallF.of{r:List V->Hp->VK->Prop}(h:CallR X f r)(k:∀ vs H ds Q,RepTs X.K H ds vs->gf ds Q->r vs H (fun v H'=>∃ p vs xs,v=.ref p/\Same H H'/\H p=none/\H' p=some (.lst vs)/\Reps X.K H' xs vs/\Q xs)):CallF X f gf :=
 ⟨fun pins s σ H vs us ds Q I rv rd q=>thn (h pins s σ H vs us _ I rv (k vs H ds Q rd q)) fun w s' ⟨z,H',I',rz,p,ws,xs,ez,sm,n,e,rp,qd⟩=>⟨p,H',ws,xs,by subst ez;exact rz,I',sm,n,e,rp,qd⟩⟩
theorem CallD.cr(h:CallD X f g):CallR X f (fun vs H Q=>∃ ds QD,RepTs X.K H ds vs/\g ds QD/\∀ v H' d,Same H H'->Rep X.K H' d v->QD d->Q v H') :=
 fun pins s σ H vs us Q I rv ⟨ds,QD,rd,q,k⟩=>thn (h.run pins s σ H vs us ds QD I rv rd q) fun w s' ⟨z,H',d,I',rz,sm,rp,qd⟩=>⟨z,H',I',rz,k z H' d sm rp qd⟩
theorem CallF.cr(h:CallF X f gf):CallR X f (fun vs H Q=>∃ ds QD,RepTs X.K H ds vs/\gf ds QD/\∀ a H' ws xs,Same H H'->H a=none->H' a=some (.lst ws)->Reps X.K H' xs ws->QD xs->Q (.ref a) H') :=
 fun pins s σ H vs us Q I rv ⟨ds,QD,rd,q,k⟩=>thn (h.run pins s σ H vs us ds QD I rv rd q) fun w s' ⟨a,H',ws,xs,ew,I',sm,n,e,rp,qd⟩=>⟨.ref a,H',I',ew,k a H' ws xs sm n e rp qd⟩
theorem de_callB{id:String}(hc:CallD X (.builtin id) g)(hg:Gl X x)(hm:X.mg x=none)(hv:bootBuiltins x=some (.builtin id))(ha:DAv X (e::es) t)(hn:x ≠ "__name__" := by decide)(hdb:(x == ("__debug__" : Str))=false:=by decide)
  (he:starEach (e::es) X.env=(false,eval e X.env)::starEach es X.env:=by rfl) (hpl:(backTo pos (starEach es X.env)).any (·.1)=false:=by rfl):DE X (.Call (.Name x p) (e::es) [] pos) (dCB g t) :=
 DE.of (pe_callB hc.cr hg hm hv ha.pa hn hdb he hpl) fun σ H H₀ σD QD ok q=>⟨H₀,σD,_,ok,q,fun vs H1 ds s1 r1 q1=>⟨ds,_,r1,q1,fun v H' d s2 rp qd=>⟨d,s1.trans s2,rp,qd⟩⟩⟩
theorem df_callB{id:String}(hc:CallF X (.builtin id) gf)(hg:Gl X x)(hm:X.mg x=none)(hv:bootBuiltins x=some (.builtin id))(ha:DAv X (e::es) t)(hn:x ≠ "__name__" := by decide)(hdb:(x == ("__debug__" : Str))=false:=by decide)
  (he:starEach (e::es) X.env=(false,eval e X.env)::starEach es X.env:=by rfl) (hpl:(backTo pos (starEach es X.env)).any (·.1)=false:=by rfl):DF X (.Call (.Name x p) (e::es) [] pos) (dCF gf t) :=
 DF.of (pe_callB hc.cr hg hm hv ha.pa hn hdb he hpl) fun σ H H₀ σD QD ok q=>⟨H₀,σD,_,ok,q,fun vs H1 ds s1 r1 q1=>⟨ds,_,r1,q1,fun a H' ws xs s2 n e rp qd=>⟨a,ws,xs,rfl,s1.trans s2,s1.free n,e,rp,qd⟩⟩⟩
theorem de_callTy{id:String}(hc:CallD X (.type id) g)(hg:Gl X x)(hm:X.mg x=none)(hv:bootBuiltins x=some (.type id))(ha:DAv X (e::es) t)(hn:x ≠ "__name__" := by decide)(hdb:(x == ("__debug__" : Str))=false:=by decide)
  (he:starEach (e::es) X.env=(false,eval e X.env)::starEach es X.env:=by rfl) (hpl:(backTo pos (starEach es X.env)).any (·.1)=false:=by rfl):DE X (.Call (.Name x p) (e::es) [] pos) (dCB g t) :=
 DE.of (pe_callTy hc.cr hg hm hv ha.pa hn hdb he hpl) fun σ H H₀ σD QD ok q=>⟨H₀,σD,_,ok,q,fun vs H1 ds s1 r1 q1=>⟨ds,_,r1,q1,fun v H' d s2 rp qd=>⟨d,s1.trans s2,rp,qd⟩⟩⟩
theorem df_callTy{id:String}(hc:CallF X (.type id) gf)(hg:Gl X x)(hm:X.mg x=none)(hv:bootBuiltins x=some (.type id))(ha:DAv X (e::es) t)(hn:x ≠ "__name__" := by decide)(hdb:(x == ("__debug__" : Str))=false:=by decide)
  (he:starEach (e::es) X.env=(false,eval e X.env)::starEach es X.env:=by rfl) (hpl:(backTo pos (starEach es X.env)).any (·.1)=false:=by rfl):DF X (.Call (.Name x p) (e::es) [] pos) (dCF gf t) :=
 DF.of (pe_callTy hc.cr hg hm hv ha.pa hn hdb he hpl) fun σ H H₀ σD QD ok q=>⟨H₀,σD,_,ok,q,fun vs H1 ds s1 r1 q1=>⟨ds,_,r1,q1,fun a H' ws xs s2 n e rp qd=>⟨a,ws,xs,rfl,s1.trans s2,s1.free n,e,rp,qd⟩⟩⟩
theorem RepTs.one{K:PySem.W.Frag}{H:Hp}{d:D}{vs:List V}(h:RepTs K H [d] vs):∃ v,vs = [v]/\RepT K H d v:=by
 cases h with
 | cons r t=>cases t;exact⟨_,rfl,r⟩
theorem RepTs.two{K:PySem.W.Frag}{H:Hp}{d e:D}{vs:List V}(h:RepTs K H [d,e] vs):∃ v w,vs = [v,w]/\RepT K H d v/\RepT K H e w:=by
 cases h with
 | cons r t=>cases t with
  | cons r2 t=>cases t;exact⟨_,_,rfl,r,r2⟩
def gLen:List D->(D->Prop)->Prop
 | [.str x],Q=>x.length<=sizeLine/\Q (.int x.length)
 | [.list xs],Q=>Q (.int xs.length)
 | [.tuple xs],Q=>Q (.int xs.length)
 | _,_=>False
theorem c_len:CallD X (.builtin "len") gLen:=CallD.of call_len fun vs H ds Q rd q=>by
 match ds,q,rd with
 | [.str x],q,rd =>
  obtain⟨v,rfl,r⟩:=rd.one
  cases r.str
  exact⟨_,x.length,rfl,⟨q.1,rfl⟩,_,Same.refl _,.int,q.2⟩
 | [.list xs],q,rd =>
  obtain⟨v,rfl,r⟩:=rd.one
  obtain⟨a,vs,rfl,h,r⟩:=r.list.sq
  exact⟨_,xs.length,rfl,.inl ⟨vs,h,r.length⟩,_,Same.refl _,.int,q⟩
 | [.tuple xs],q,rd =>
  obtain⟨v,rfl,r⟩:=rd.one
  obtain⟨a,vs,rfl,h,r⟩:=r.tuple
  exact⟨_,xs.length,rfl,.inr ⟨vs,h,r.length⟩,_,Same.refl _,.int,q⟩
def gMax:List D->(D->Prop)->Prop
 | [.int i,.int j],Q=>Q (.int (max i j))
 | _,_=>False
theorem c_max(hc:X.calm=true):CallD X (.builtin "max") gMax:=CallD.of (call_max2 hc) fun vs H ds Q rd q=>by
 match ds,q,rd with
 | [.int i,.int j],q,rd =>
  obtain⟨v,w,rfl,r1,r2⟩:=rd.two
  cases r1.int
  cases r2.int
  refine⟨i,j,rfl,_,Same.refl _,.int,?_⟩
  have e:(if j > i then j else i)=max i j:=by split <;> omega
  rw [e]
  exact q
def gInt:List D->(D->Prop)->Prop
 | [.int i],Q=>Q (.int i)
 | [.bool b],Q=>Q (.int (if b then 1 else 0))
 | _,_=>False
theorem c_int:CallD X (.type "int") gInt:=CallD.of call_int1 fun vs H ds Q rd q=>by
 match ds,q,rd with
 | [.int i],q,rd =>
  obtain⟨v,rfl,r⟩:=rd.one
  cases r.int
  exact .inl ⟨i,rfl,_,Same.refl _,.int,q⟩
 | [.bool i],q,rd =>
  obtain⟨v,rfl,r⟩:=rd.one
  cases r.bool
  exact .inr ⟨i,rfl,_,Same.refl _,.int,q⟩
def gList:List D->(List D->Prop)->Prop
 | [.list xs],Q=>Q xs
 | [.tuple xs],Q=>Q xs
 | _,_=>False
theorem c_list:CallF X (.type "list") gList:=CallF.of call_list_of fun vs H ds Q rd q=>by
 match ds,q,rd with
 | [.list xs],q,rd =>
  obtain⟨v,rfl,r⟩:=rd.one
  obtain⟨a,vs,rfl,h,r⟩:=r.list.sq
  exact⟨a,vs,rfl,.inl h,fun l hl=>⟨l,vs,xs,rfl,same_new hl _,hl,upd_same,r.same (same_new hl _),q⟩⟩
 | [.tuple xs],q,rd =>
  obtain⟨v,rfl,r⟩:=rd.one
  obtain⟨a,vs,rfl,h,r⟩:=r.tuple
  exact⟨a,vs,rfl,.inr h,fun l hl=>⟨l,vs,xs,rfl,same_new hl _,hl,upd_same,r.same (same_new hl _),q⟩⟩
def gTuple:List D->(D->Prop)->Prop
 | [.list xs],Q=>Q (.tuple xs)
 | [.tuple xs],Q=>Q (.tuple xs)
 | _,_=>False
theorem c_tuple:CallD X (.type "tuple") gTuple:=CallD.of call_tuple_of fun vs H ds Q rd q=>by
 match ds,q,rd with
 | [.list xs],q,rd =>
  obtain⟨v,rfl,r⟩:=rd.one
  obtain⟨a,vs,rfl,h,r⟩:=r.list.sq
  exact⟨a,vs,rfl,.inl ⟨h,fun l hl=>⟨_,same_new hl _,.tup (SqT.of upd_same) (r.same (same_new hl _)),q⟩⟩⟩
 | [.tuple xs],q,rd =>
  obtain⟨v,rfl,r⟩:=rd.one
  obtain⟨a,vs,rfl,h,r⟩:=r.tuple
  exact⟨a,vs,rfl,.inr ⟨h,_,Same.refl _,.tup h r,q⟩⟩
def boolsD:List D->Option (List Bool)
 | []=>some []
 | .bool i::r=>(boolsD r).map (i :: ·)
 | _::_=>none
theorem boolsD_map(ns:List Bool):boolsD (ns.map PyData.bool)=some ns:=by
 induction ns with
 | nil=>rfl
 | cons n ns ih=>simp [boolsD,ih]
theorem boolsD_rep{K:PySem.W.Frag}{H:Hp}:∀{xs:List D} {vs:List V} {ns:List Bool},Reps K H xs vs->boolsD xs=some ns->vs=ns.map V.bl
 | [],_,ns,r,e=>by cases r;simp [boolsD] at e;subst e;rfl
 | x::xs,_,ns,r,e=>by
  cases r with
  | cons r t =>
   cases x with
   | bool i =>
    simp only [boolsD,Option.map_eq_some_iff] at e
    obtain⟨ms,e1,rfl⟩:=e
    cases r
    rw [boolsD_rep t e1]
    rfl
   | _=>simp [boolsD] at e
def gAll:List D->(D->Prop)->Prop
 | [.list xs],Q=>∃ ns,boolsD xs=some ns/\Q (.bool (ns.all id))
 | _,_=>False
def gAny:List D->(D->Prop)->Prop
 | [.list xs],Q=>∃ ns,boolsD xs=some ns/\Q (.bool (ns.any id))
 | _,_=>False
theorem c_all(hc:X.calm=true):CallD X (.builtin "all") gAll:=CallD.of (call_all hc) fun vs H ds Q rd q=>by
 match ds,q,rd with
 | [.list xs],q,rd =>
  obtain⟨v,rfl,r⟩:=rd.one
  obtain⟨a,vs,rfl,h,r⟩:=r.list.sq
  obtain⟨ns,e,q⟩:=q
  cases boolsD_rep r e
  exact⟨a,ns,rfl,h,_,Same.refl _,.bl,q⟩
theorem c_any(hc:X.calm=true):CallD X (.builtin "any") gAny:=CallD.of (call_any hc) fun vs H ds Q rd q=>by
 match ds,q,rd with
 | [.list xs],q,rd =>
  obtain⟨v,rfl,r⟩:=rd.one
  obtain⟨a,vs,rfl,h,r⟩:=r.list.sq
  obtain⟨ns,e,q⟩:=q
  cases boolsD_rep r e
  exact⟨a,ns,rfl,h,_,Same.refl _,.bl,q⟩
def isD:String->D->Bool
 | "int",.int _=>true
 | "int",.bool _=>true
 | "bool",.bool _=>true
 | "str",.str _=>true
 | "list",.list _=>true
 | "tuple",.tuple _=>true
 | "dict",.dict _=>true
 | _,_=>false
def tyD:D->String
 | .none => "NoneType"
 | .bool _ => "bool"
 | .int _ => "int"
 | .str _ => "str"
 | .list _ => "list"
 | .tuple _ => "tuple"
 | .dict _ => "dict"
theorem isinst_rep{pins:List (Addr×Obj)}{σ:St}{H:Hp}{s:Shared}{A:Around}{E:Value->Shared->Prop}{Q:Value->Shared->Prop}{c:Value}{b:Bool}{d:D}{v:V}{u:Value}(I:Inv X pins σ H s)(rp:RepT X.K H d v)(ru:RelV v u)(e:PySem.W.kitOne X.K (.type (tyD d)) c=some b)
  (h:∀ tk,Q (.bool b) { s with toks:=tk }):wpAny (model X.prog X.w) A (call (.builtin "isinstance") [u,c]) Q E s:=by
 rcases rp with rp | ⟨xs,rfl,a,vs,rfl,hr,_⟩
 ·cases rp with
  | non=>cases ru;exact PySem.W.kia_one PySem.W.kitx_none I.kIn True.intro e (fun z=>nomatch z) h
  | bl=>cases ru;exact PySem.W.kia_one PySem.W.kitx_bool I.kIn True.intro e (fun z=>nomatch z) h
  | int=>obtain⟨t,rfl⟩:=ru;exact PySem.W.kia_one PySem.W.kitx_int I.kIn True.intro e (fun z=>nomatch z) h
  | str=>obtain⟨t,rfl⟩:=ru;exact PySem.W.kia_one PySem.W.kitx_str I.kIn True.intro e (fun z=>nomatch z) h
  | tup q r =>
   cases ru
   obtain⟨its,_,⟨o,h1,h2,_⟩,_⟩:=I.tuple q
   exact PySem.W.kia_one PySem.W.kitx_tuple I.kIn ⟨o,h1,h2⟩ e (fun z=>nomatch z) h
  | lst q r =>
   cases ru
   obtain⟨_,_,_,n,_,h1⟩:=I.hok _ _ q
   exact PySem.W.kia_one PySem.W.kitx_list I.kIn ⟨_,h1,rfl⟩ e (fun z=>nomatch z) h
  | dic q r =>
   cases ru
   obtain⟨_,_,_,vs,_,o,es,ep,h1,h2,_⟩:=I.hok _ _ q
   exact PySem.W.kia_one PySem.W.kitx_dict I.kIn ⟨o,h1,h2.1⟩ e (fun z=>nomatch z) h
 ·cases ru
  obtain⟨_,_,n,_,h1⟩:=hr.ok I.hok
  exact PySem.W.kia_one PySem.W.kitx_list I.kIn ⟨_,h1,rfl⟩ e (fun z=>nomatch z) h
def dIs(n:String)(t:DTE):DTE:=fun σ Q=>t σ fun d=>Q (.bool (isD n d))
theorem de_isT{n:String}{ta:DTE}{x2:Str}{p2:Pos}(hk:∀ d:D,PySem.W.kitOne X.K (.type (tyD d)) (.type n)=some (isD n d))(hg:Gl X "isinstance")(hm:X.mg "isinstance" = none)(hv:bootBuiltins "isinstance" = some (.builtin "isinstance"))(ha:DV X e ta)
  (hg2:Gl X x2) (hm2:X.mg x2=none) (hv2:bootBuiltins x2=some (.type n)) (hn2:x2 ≠ "__name__" := by decide) (hdb2:(x2 == ("__debug__" : Str))=false:=by decide)
  (he:starEach (e :: [.Name x2 p2]) X.env=(false,eval e X.env)::starEach [.Name x2 p2] X.env:=by rfl) (he2:starEach [.Name x2 p2] X.env=(false,eval (.Name x2 p2) X.env)::starEach [] X.env:=by rfl) (hpl:(backTo pos (starEach [.Name x2 p2] X.env)).any (·.1)=false:=by rfl):DE X (.Call (.Name "isinstance" p) [e,.Name x2 p2] [] pos) (dIs n ta):=by
 have hc:CallR X (.builtin "isinstance") (fun vs H Q=>∃ d v,vs = [v,.ty n]/\RepT X.K H d v/\Q (.bl (isD n d)) H):=fun pins s σ H xs us Q I rv ⟨d,v,e,r,q⟩=>by
  subst e
  obtain⟨u,w,rfl,r1,r2⟩:=rv.two
  cases r2
  exact isinst_rep I r r1 (hk d) fun tk=>⟨.bl (isD n d),H,I.tok tk,rfl,q⟩
 refine DE.of (pe_callB hc hg hm hv (pa_cons ha.pe (pa_cons (pe_bltn (v:=.ty n) hg2 hm2 hv2 rfl hn2 hdb2) pa_nil he2) he) (by decide) (by decide) he hpl) fun σ H H₀ σD QD ok q=>?_
 exact⟨H₀,σD,_,ok,q,fun v H1 d s1 r1 q1=>⟨d,v,rfl,r1,_,s1,.bl,q1⟩⟩
theorem k_int{K:PySem.W.Frag}(d:D):PySem.W.kitOne K (.type (tyD d)) (.type "int")=some (isD "int" d):=by cases d <;> rfl
theorem k_bool{K:PySem.W.Frag}(d:D):PySem.W.kitOne K (.type (tyD d)) (.type "bool")=some (isD "bool" d):=by cases d <;> rfl
theorem k_str{K:PySem.W.Frag}(d:D):PySem.W.kitOne K (.type (tyD d)) (.type "str")=some (isD "str" d):=by cases d <;> rfl
theorem k_tuple{K:PySem.W.Frag}(d:D):PySem.W.kitOne K (.type (tyD d)) (.type "tuple")=some (isD "tuple" d):=by cases d <;> rfl
variable {a b:Expr}{ta tb:DTE}
def gIx:DOp
 | .list xs,.int i,Q=>∃ d,atI xs i=some d/\Q d
 | .tuple xs,.int i,Q=>∃ d,atI xs i=some d/\Q d
 | .str x,.int i,Q=>x.length<=sizeLine/\∃ c,atI x.cps.toList i=some c/\Q (.str ⟨#[c]⟩)
 | _,_,_=>False
theorem atI_rep{K:PySem.W.Frag}{H:Hp}{xs:List D}{vs:List V}{i:Int}{d:D}(r:Reps K H xs vs)(h:atI xs i=some d):∃ v,atI vs i=some v/\Rep K H d v:=by
 unfold atI at h ⊢
 rw [<-r.length]
 cases e:ixN xs.length i with
 | none=>rw [e] at h;cases h
 | some j =>
  rw [e] at h
  exact r.get h
theorem de_ix(ha:DV X a ta)(hb:DE X b tb)(hs:PlainIx b):DE X (.Subscript a b pos) (dOp gIx ta tb) :=
 DE.of (pe_ix ix_seq ha.pe hb.pe hs) fun σ H H₀ σD QD ok q=>⟨H₀,σD,_,ok,q,fun v H1 d s1 r1 q1=>⟨H₀,σD,_,ok.after s1,q1,fun w H2 d2 s2 r2 q2=>by
  have r1:=r1.same s2
  have sm:=s1.trans s2
  cases d2 with
  | int i =>
   cases r2
   cases d with
   | list xs =>
    obtain⟨l,vs,rfl,hl,r⟩:=r1.list.sq
    obtain⟨d,e,q⟩:=q2
    obtain⟨x,e1,e2⟩:=atI_rep r e
    exact .inl ⟨l,vs,i,x,rfl,rfl,hl,e1,d,sm,e2,q⟩
   | tuple xs =>
    obtain⟨l,vs,rfl,hl,r⟩:=r1.tuple
    obtain⟨d,e,q⟩:=q2
    obtain⟨x,e1,e2⟩:=atI_rep r e
    exact .inr (.inl ⟨l,vs,i,x,rfl,rfl,hl,e1,d,sm,e2,q⟩)
   | str x =>
    cases r1.str
    obtain⟨hz,c,e,q⟩:=q2
    exact .inr (.inr ⟨x,i,c,rfl,rfl,hz,e,_,sm,.str,q⟩)
   | _=>exact q2.elim
  | _=>cases d <;> exact q2.elim⟩⟩
abbrev DTO:=DSt->(Option Int->Prop)->Prop
structure DO(X:Cx)(e:Option Expr)(t:DTO):Prop where
 po:PO X e (fun σ H Q=>∃ H₀ σD QD,DOk X.K H₀ H σD σ/\t σD QD/\∀ o H',Same H H'->QD o->Q o H')
def dNoPart:DTO:=fun _ Q=>Q none
def dPart(t:DTE):DTO:=fun σ Q=>t σ fun d=>match d with
 | .int i=>Q (some i)
 | _=>False
theorem do_none:DO X none dNoPart:=⟨fun pins s σ H Q I ⟨H₀,σD,QD,ok,q,k⟩=>po_none pins s σ H Q I (k none H (Same.refl _) q)⟩
theorem do_some(h:DE X a ta):DO X (some a) (dPart ta):=⟨fun pins s σ H Q I ⟨H₀,σD,QD,ok,q,k⟩=>po_some h.pe pins s σ H Q I ⟨H₀,σD,_,ok,q,fun v H1 d s1 r1 q1=>by
 cases d with
 | int i=>cases r1;exact⟨i,rfl,k _ _ s1 q1⟩
 | _=>exact q1.elim⟩⟩
def sliceD(xs:List D)(lo hi:Option Int):List D:=(xs.drop (HT.sIx xs.length 0 lo)).take (HT.sIx xs.length xs.length hi-HT.sIx xs.length 0 lo)
theorem Reps.cut{K:PySem.W.Frag}{H:Hp}{xs:List D}{vs:List V}(r:Reps K H xs vs)(lo hi:Option Int):Reps K H (sliceD xs lo hi) (cutV vs lo hi):=by
 unfold sliceD cutV
 rw [<-r.length]
 exact(r.drop _).take _
variable {lo hi:Option Expr}{tl th:DTO}{p2:Pos}
theorem sl_tupS:SlR X (fun x lo hi H Q=>∃ a xs,x=.ref a/\SqT X.K H a xs/\∀ p H',Same H H'->SqT X.K H' p (cutV xs lo hi)->Q (.ref p) H'):=by
 intro pins s σ H x v vl vu lo hi sl Q I rx hs pl pu h
 obtain⟨a,xs,rfl,hx,q⟩:=h
 by_cases hw:HT.sIx xs.length 0 lo=0/\HT.sIx xs.length xs.length hi=xs.length
 ·cases rx
  obtain⟨its,r,ht,hz⟩:=I.tuple hx
  have hlen:its.toArray.size=xs.length:=by rw [List.size_toArray];exact r.length.symm
  refine⟨"tuple",_,PyProof.Rows.slot_tuple_getitem.lookup,ht.typeIs,tup_whole ht hs pl pu (by rw [hlen];exact hw.1) (by rw [hlen];exact hw.2) ⟨.ref a,H,I,rfl,q a H (Same.refl H) ?_⟩⟩
  unfold cutV
  rw [hw.1,hw.2,List.drop_zero,Nat.sub_zero,List.take_length]
  exact hx
 ·exact sl_tup pins s σ H (.ref a) v vl vu lo hi sl Q I rx hs pl pu ⟨a,xs,rfl,hx,hw,fun p hp=>q p _ (same_new hp _) (SqT.of upd_same)⟩
def dSl(te:DTE)(tl th:DTO):DTE:=fun σ Q=>te σ fun d=>tl σ fun l=>th σ fun u=>match d with
 | .list xs=>Q (.list (sliceD xs l u))
 | .tuple xs=>Q (.tuple (sliceD xs l u))
 | _=>False
theorem de_slice(he:DV X e ta)(hl:DO X lo tl)(hu:DO X hi th):DE X (.Subscript e (.Slice lo hi none p2) pos) (dSl ta tl th):=⟨fun pins s σ H H₀ σD Q I ok q=>by
 refine thn (pe_slice (SlR.or sl_list sl_tupS) he.pe hl.po hu.po pins s σ H (fun v H'=>(∃ d,Same H H'/\Rep X.K H' d v/\Q d)\/∃ p vs xs,v=.ref p/\Same H H'/\H p=none/\H' p=some (.lst vs)/\Reps X.K H' xs vs/\Q (.list xs)) I ?_) fun u s' ⟨v,H',I',r,z⟩=>?_
 ·exact⟨H₀,σD,_,ok,q,fun v H1 d s1 r1 q1=>⟨H₀,σD,_,ok.after s1,q1,fun l H2 s2 q2=>⟨H₀,σD,_,(ok.after s1).after s2,q2,fun u H3 s3 q3=>by
   cases d with
   | list xs =>
    obtain⟨b,vs,rfl,hb,r⟩:=((r1.same s2).same s3).list.sq
    exact .inl ⟨b,vs,rfl,hb,fun p hp=>.inr ⟨p,_,_,rfl,((s1.trans s2).trans s3).trans (same_new hp _),((s1.trans s2).trans s3).free hp,upd_same,(r.cut l u).same (same_new hp _),q3⟩⟩
   | tuple xs =>
    obtain⟨b,vs,rfl,hb,r⟩:=((r1.same s2).same s3).tuple
    exact .inr ⟨b,vs,rfl,hb,fun p H4 s4 e4=>.inl ⟨_,((s1.trans s2).trans s3).trans s4,.tup e4 ((r.cut l u).same s4),q3⟩⟩
   | _=>exact q3.elim⟩⟩⟩
 ·rcases z with⟨d,sm,rp,qd⟩ | ⟨p,vs,xs,rfl,sm,n,e,rp,qd⟩
  ·exact⟨v,H',d,I',r,sm,rp,qd⟩
  ·obtain⟨H'',J,sm',r'⟩:=freeze I' sm n e rp
   exact⟨.ref p,H'',.list xs,J,r,sm',r',qd⟩⟩
def dScrSl(i:Nat)(tl th:DTO):DTF:=fun σ Q=>match σ[i]? with
 | some (some (.scr ns))=>tl σ fun l=>th σ fun u=>Q ((sliceD (ns.map PyData.int) l u))
 | _=>False
theorem df_scr(i:Nat){x:Str}{pos':Pos}(hl:DO X lo tl)(hu:DO X hi th)(hN:X.N[i]?=some x:=by rfl)(hv:Vis X.env.scope x:=by first | exact Or.inl rfl | exact Or.inr (Or.inl rfl) | exact Or.inr (Or.inr rfl))(hd:(x == ("__debug__" : Str))=false:=by decide)
  (hcd:(x == ("__classdict__" : Str))=false:=by decide):DF X (.Subscript (.Name x pos') (.Slice lo hi none p2) pos) (dScrSl i tl th) :=
 DF.of (pe_slice sl_list (pe_var (i:=i) hN hv hd hcd) hl.po hu.po) fun σ H H₀ σD QD ok q=>by
  unfold dScrSl at q
  split at q
  ·next ns e =>
   obtain⟨b,e1,hb⟩:=ok.scr e
   exact⟨_,e1,H₀,σD,_,ok,q,fun l H2 s2 q2=>⟨H₀,σD,_,ok.after s2,q2,fun u H3 s3 q3=>⟨b,_,rfl,s3.seq (s2.seq hb),fun p hp=>⟨p,_,_,rfl,(s2.trans s3).trans (same_new hp _),(s2.trans s3).free hp,upd_same,Reps.ints.cut l u,q3⟩⟩⟩⟩
  ·exact q.elim
def dScrLen(i:Nat):DTE:=fun σ Q=>match σ[i]? with
 | some (some (.scr ns))=>Q (.int ns.length)
 | _=>False
theorem de_scrLen(i:Nat){x:Str}{pos':Pos}(hg:Gl X "len")(hm:X.mg "len" = none)(hN:X.N[i]?=some x:=by rfl)(hv:Vis X.env.scope x:=by first | exact Or.inl rfl | exact Or.inr (Or.inl rfl) | exact Or.inr (Or.inr rfl))(hd:(x == ("__debug__" : Str))=false:=by decide)
  (hcd:(x == ("__classdict__" : Str))=false:=by decide):DE X (.Call (.Name "len" p) [.Name x pos'] [] pos) (dScrLen i) :=
 DE.of (pe_callB call_len_seq hg hm PySem.boot_len (pa_cons (pe_var (i:=i) hN hv hd hcd) pa_nil)) fun σ H H₀ σD QD ok q=>by
  unfold dScrLen at q
  split at q
  ·next ns e =>
   obtain⟨b,e1,hb⟩:=ok.scr e
   exact⟨_,e1,b,_,rfl,.inl hb,_,Same.refl _,.int,by rw [List.length_map];exact q⟩
  ·exact q.elim
def dScrIx(i:Nat)(tb:DTE):DTE:=fun σ Q=>match σ[i]? with
 | some (some (.scr ns))=>tb σ fun d=>match d with
  | .int k=>∃ n,atI ns k=some n/\Q (.int n)
  | _=>False
 | _=>False
theorem atI_map{α β:Type}(f:α->β)(xs:List α)(i:Int):atI (xs.map f) i=(atI xs i).map f:=by
 unfold atI
 rw [List.length_map]
 cases ixN xs.length i with
 | none=>rfl
 | some j=>simp
theorem de_scrIx(i:Nat){x:Str}{pos':Pos}(hb:DE X b tb)(hs:PlainIx b)(hN:X.N[i]?=some x:=by rfl)(hv:Vis X.env.scope x:=by first | exact Or.inl rfl | exact Or.inr (Or.inl rfl) | exact Or.inr (Or.inr rfl))(hd:(x == ("__debug__" : Str))=false:=by decide)
  (hcd:(x == ("__classdict__" : Str))=false:=by decide):DE X (.Subscript (.Name x pos') b pos) (dScrIx i tb) :=
 DE.of (pe_ix ix_list (pe_var (i:=i) hN hv hd hcd) hb.pe hs) fun σ H H₀ σD QD ok q=>by
  unfold dScrIx at q
  split at q
  ·next ns e =>
   obtain⟨b,e1,hb⟩:=ok.scr e
   refine⟨_,e1,H₀,σD,_,ok,q,fun w H2 d2 s2 r2 q2=>?_⟩
   cases d2 with
   | int k =>
    cases r2
    obtain⟨n,en,q⟩:=q2
    exact⟨b,_,k,.int n,rfl,rfl,s2.seq hb,by rw [atI_map,en];rfl,_,s2,.int,q⟩
   | _=>exact q2.elim
  ·exact q.elim
end
structure ItOk(K:PySem.W.Frag)(Kp:Hp->Hp->Prop)(J:It)(H1:Hp)(ds:List D):Prop where
 go:∀ H i d,Kp H1 H->ds[i]?=some d->J.go i H/\∀ x H',J.yld i H x H'->Same H H'/\Rep K H' d x
 stop:∀ H,Kp H1 H->J.stop ds.length H
theorem ItOk.weak{K:PySem.W.Frag}{J:It}{H1:Hp}{ds:List D}(h:ItOk K Pers J H1 ds):ItOk K Same J H1 ds:=⟨fun H i d s=>h.go H i d s.pers,fun H s=>h.stop H s.pers⟩
def cnI(K:PySem.W.Frag)(Kp:Hp->Hp->Prop)(t:DTF):TI:=fun σ H R=>∃ H₀ σD QD,DOk K H₀ H σD σ/\t σD QD/\∀ J H1 ds,Same H H1->ItOk K Kp J H1 ds->QD ds->R J H1
structure DI(X:Cx)(tg iter:Expr)(t:DTF):Prop where
 pi:PI X tg iter (cnI X.K Pers t)
structure DIw(X:Cx)(tg iter:Expr)(t:DTF):Prop where
 pi:PI X tg iter (cnI X.K Same t)
section
variable {X:Cx}{tg iter e:Expr}{t:DTF}{te:DTE}{p pos:Pos}
theorem DI.w(h:DI X tg iter t):DIw X tg iter t:=⟨fun pins s σ H R I ⟨H₀,σD,QD,ok,q,k⟩=>h.pi pins s σ H R I ⟨H₀,σD,QD,ok,q,fun J H1 ds s1 o qd=>k J H1 ds s1 o.weak qd⟩⟩
theorem pi_seq{l:Expr}{tl:TE}(hl:PE X l tl):PI X tg l (fun σ H R=>tl σ H fun x H1=>(∃ a xs,x=.ref a/\SqL X.K H1 a xs/\R (Itl X.K a) H1)\/∃ a xs,x=.ref a/\SqT X.K H1 a xs/\R (Itt X.K a) H1):=by
 intro pins s σ H R I h
 refine thn (hl pins s σ H _ I h) fun v s1 ⟨x,H1,I1,r1,q1⟩=>?_
 rcases q1 with⟨a,xs,e,hq,q⟩ | ⟨a,xs,e,hq,q⟩
 ·subst e
  cases r1
  obtain⟨its,rv,p,hz⟩:=I1.list hq
  refine wpAny_pyIter_list p.isList ?_
  refine⟨s1.heap.objs.size,[s1.heap.objs.size],_,_,H1,rfl,I1.kept (t':=s1.toks) fun b o e=>Heap.get?_push_of_some _ e,turn_list a _,⟨_,Heap.get?_push_size _ rfl,rfl,rfl⟩,fun b hb=>?_,q⟩
  have e:b=s1.heap.objs.size:=by simpa using hb
  subst e
  exact I1.fpOk (Nat.le_refl _) (I1.hok.fresh (Nat.le_refl _))
 ·subst e
  cases r1
  obtain⟨its,rv,p,hz⟩:=I1.tuple hq
  refine wpAny_pyIter_tuple (show s1.heap.IsTuple a its.toArray from p) ?_
  refine⟨s1.heap.objs.size,[s1.heap.objs.size],_,_,H1,rfl,I1.kept (t':=s1.toks) fun b o e=>Heap.get?_push_of_some _ e,turn_tuple a _,⟨_,Heap.get?_push_size _ rfl,rfl,rfl⟩,fun b hb=>?_,q⟩
  have e:b=s1.heap.objs.size:=by simpa using hb
  subst e
  exact I1.fpOk (Nat.le_refl _) (I1.hok.fresh (Nat.le_refl _))
def dSeqI(te:DTE):DTF:=fun σ Q=>te σ fun d=>match d with
 | .list xs=>Q xs
 | .tuple xs=>Q xs
 | _=>False
theorem itl_ok{K:PySem.W.Frag}{Kp:Hp->Hp->Prop}{H1:Hp}{a:Addr}{xs:List D}{vs:List V}(kp:∀ H,Kp H1 H->SqL K H a vs/\Reps K H xs vs):ItOk K Kp (Itl K a) H1 xs where
 go:=fun H i d k e=>by
  obtain⟨hs,r⟩:=kp H k
  obtain⟨v,e1,r1⟩:=r.get e
  refine⟨⟨vs,v,hs,e1⟩,fun x H' y=>?_⟩
  obtain⟨rfl,y⟩:=y
  have:=y vs hs
  rw [e1] at this
  cases this
  exact⟨Same.refl _,r1⟩
 stop:=fun H k=>by
  obtain⟨hs,r⟩:=kp H k
  exact⟨vs,hs,by rw [r.length];exact Nat.le_refl _⟩
theorem itt_ok{K:PySem.W.Frag}{Kp:Hp->Hp->Prop}{H1:Hp}{a:Addr}{xs:List D}{vs:List V}(kp:∀ H,Kp H1 H->SqT K H a vs/\Reps K H xs vs):ItOk K Kp (Itt K a) H1 xs where
 go:=fun H i d k e=>by
  obtain⟨hs,r⟩:=kp H k
  obtain⟨v,e1,r1⟩:=r.get e
  refine⟨⟨vs,v,hs,e1⟩,fun x H' y=>?_⟩
  obtain⟨rfl,y⟩:=y
  have:=y vs hs
  rw [e1] at this
  cases this
  exact⟨Same.refl _,r1⟩
 stop:=fun H k=>by
  obtain⟨hs,r⟩:=kp H k
  exact⟨vs,hs,by rw [r.length];exact Nat.le_refl _⟩
theorem Pers.sqF{K:PySem.W.Frag}{H H':Hp}{a:Addr}{o:Obj}{vs:List V}(p:Pers H H')(h:H a=some (.frz o (.lst vs))):SqL K H' a vs:=.inl (.inr ⟨o,p _ _ h rfl⟩)
theorem di_seq(h:DE X e te):DI X tg e (dSeqI te):=⟨fun pins s σ H R I ⟨H₀,σD,QD,ok,q,k⟩=>pi_seq h.pe pins s σ H R I ⟨H₀,σD,_,ok,q,fun v H1 d s1 r1 q1=>by
 cases d with
 | list xs =>
  cases r1 with
  | lst hf r=>exact .inl ⟨_,_,rfl,.inl (.inr ⟨_,hf⟩),k _ _ xs s1 (itl_ok fun H' pr=>⟨pr.sqF hf,r.mono pr⟩) q1⟩
 | tuple xs =>
  cases r1 with
  | tup hf r=>exact .inr ⟨_,_,rfl,hf,k _ _ xs s1 (itt_ok fun H' pr=>⟨pr.sqT hf,r.mono pr⟩) q1⟩
 | _=>exact q1.elim⟩⟩
theorem RepL.sq'{K:PySem.W.Frag}{H H':Hp}{a:Addr}{vs:List V}(s:Same H H')(h:Rd H a (.lst vs)):SqL K H' a vs:=by
 rcases h with h | ⟨o,h⟩
 ·exact .inl (.inl (s _ _ h))
 ·exact .inl (.inr ⟨o,s _ _ h⟩)
theorem diw_seq(h:DV X e te):DIw X tg e (dSeqI te):=⟨fun pins s σ H R I ⟨H₀,σD,QD,ok,q,k⟩=>pi_seq h.pe pins s σ H R I ⟨H₀,σD,_,ok,q,fun v H1 d s1 r1 q1=>by
 cases d with
 | list xs =>
  obtain⟨a,vs,rfl,hf,r⟩:=r1.list
  exact .inl ⟨_,_,rfl,.inl hf,k _ _ xs s1 (itl_ok fun H' pr=>⟨RepL.sq' pr hf,r.same pr⟩) q1⟩
 | tuple xs =>
  obtain⟨a,vs,rfl,hf,r⟩:=r1.tuple
  exact .inr ⟨_,_,rfl,hf,k _ _ xs s1 (itt_ok fun H' pr=>⟨pr.pers.sqT hf,r.same pr⟩) q1⟩
 | _=>exact q1.elim⟩⟩
def rangeD(lo:Int)(n:Nat):List D:=(List.range n).map fun i=>.int (lo+(i:Nat))
theorem itr_ok{K:PySem.W.Frag}{Kp:Hp->Hp->Prop}{H1:Hp}(lo:Int)(n:Nat):ItOk K Kp (Itr lo n) H1 (rangeD lo n) where
 go:=fun H i d k e=>by
  have hi:i<n:=by have:=(List.getElem?_eq_some_iff.mp e).1;simpa [rangeD] using this
  refine⟨hi,fun x H' y=>?_⟩
  obtain⟨rfl,rfl⟩:=y
  refine⟨Same.refl _,?_⟩
  simp [rangeD,List.getElem?_map,List.getElem?_range hi] at e
  subst e
  exact .int
 stop:=fun H k=>by
  show n<=(rangeD lo n).length
  simp [rangeD]
def dRange1(ta:DTF):DTF:=fun σ Q=>ta σ fun ds=>match ds with
 | [.int j]=>(-(2 ^ 62)<=j/\j<2 ^ 62)/\Q (rangeD 0 j.toNat)
 | _=>False
variable {a b:Expr}
theorem di_range1(hg:Gl X "range")(hm:X.mg "range" = none)(ha:DA X [a] t)(hs:starEach [a] X.env = [(false,eval a X.env)]:=by rfl):DI X tg (.Call (.Name "range" p) [a] [] pos) (dRange1 t) :=
 ⟨fun pins s σ H R I ⟨H₀,σD,QD,ok,q,k⟩=>pi_range1 hg hm ha.pa hs pins s σ H R I ⟨H₀,σD,_,ok,q,fun vs H1 ds s1 r1 q1=>by
  match ds,r1,q1 with
  | [.int j],r1,q1 =>
   cases r1 with
   | cons r t =>
    cases t
    cases r
    exact⟨j,rfl,q1.1.1,q1.1.2,k _ _ _ s1 (itr_ok 0 j.toNat) q1.2⟩⟩⟩
abbrev DTG:=D->DSt->(DSt->Prop)->Prop
abbrev DTGs:=List D->DSt->(DSt->Prop)->Prop
structure DG(X:Cx)(tg:Expr)(is:List Nat)(g:DTG):Prop where
 run:∀(pins:List (Addr×Obj)) (s:Shared) (σ:St) (H H₀:Hp) (σD:DSt) (v:V) (u:Value) (d:D) (Q:DSt->Prop),Inv X pins σ H s->DOk X.K H₀ H σD σ->RelV v u->Rep X.K H d v->g d σD Q ->
  wpAny (model X.prog X.w) X.A (assign tg X.env u) (fun _ s'=>∃ σ' σD',Inv X pins σ' H s'/\DOk X.K H₀ H σD' σ'/\(∀ j,j∉is->σ'[j]?=σ[j]?)/\Q σD') X.xe s
structure DGs(X:Cx)(ts:List Expr)(is:List Nat)(g:DTGs):Prop where
 run:∀(pins:List (Addr×Obj)) (s:Shared) (σ:St) (H H₀:Hp) (σD:DSt) (vs:List V) (us:List Value) (ds:List D) (Q:DSt->Prop),Inv X pins σ H s->DOk X.K H₀ H σD σ->Vals vs us->Reps X.K H ds vs->g ds σD Q ->
  wpAny (model X.prog X.w) X.A (assignInOrder ((assignEach ts X.env).map (·.2)) us) (fun _ s'=>∃ σ' σD',Inv X pins σ' H s'/\DOk X.K H₀ H σD' σ'/\(∀ j,j∉is->σ'[j]?=σ[j]?)/\Q σD') X.xe s
def dgName(i:Nat):DTG:=fun d σ Q=>Q (σ.set i (some (.val d)))
theorem dg_name{i:Nat}{x:Str}(hN:X.N.Nodup)(hi:X.N[i]?=some x)(hx:Loc X.env.scope x)(hf:X.fn x=true\/X.env.scope.names.lookup x=some .local:=by first | exact .inl rfl | exact .inr rfl | assumption):DG X (.Name x pos) [i] (dgName i) :=
 ⟨fun pins s σ H H₀ σD v u d Q I ok r rp q=>wpAny_assign_Name (store_ok I hN hi hx r (fun s' I'=>⟨_,_,I',ok.setV rp i,fun j hj=>List.getElem?_set_ne (fun z=>hj (by simp [z])),q⟩) hf)⟩
def dgNil:DTGs:=fun ds σ Q=>ds = []/\Q σ
def dgCons(g:DTG)(gs:DTGs):DTGs:=fun ds σ Q=>match ds with
 | d::r=>g d σ fun σ'=>gs r σ' Q
 | []=>False
theorem dgs_nil:DGs X [] [] dgNil:=⟨fun pins s σ H H₀ σD vs us ds Q I ok r rp q=>by
 obtain⟨rfl,q⟩:=q
 cases rp
 cases r
 exact assignInOrder_nil ⟨σ,σD,I,ok,fun _ _=>rfl,q⟩⟩
theorem dgs_cons{e:Expr}{es:List Expr}{i1 i2:List Nat}{g:DTG}{gs:DTGs}(h1:DG X e i1 g)(h2:DGs X es i2 gs)
  (hs:(assignEach (e::es) X.env).map (·.2)=assign e X.env::(assignEach es X.env).map (·.2):=by rfl):DGs X (e::es) (i1++i2) (dgCons g gs):=⟨fun pins s σ H H₀ σD vs us ds Q I ok r rp q=>by
 cases rp with
 | nil=>exact q.elim
 | cons rd rds =>
  cases r with
  | cons r rr =>
   rw [hs]
   refine assignInOrder_cons (thn (h1.run pins s σ H H₀ σD _ _ _ _ I ok r rd q) fun _ s1 ⟨σ1,σD1,I1,ok1,f1,q1⟩=>?_)
   refine thn (h2.run pins s1 σ1 H H₀ σD1 _ _ _ Q I1 ok1 rr rds q1) fun _ s2 ⟨σ2,σD2,I2,ok2,f2,q2⟩=>⟨σ2,σD2,I2,ok2,fun j hj=>?_,q2⟩
   rw [f2 j (fun z=>hj (List.mem_append_right _ z)),f1 j (fun z=>hj (List.mem_append_left _ z))]⟩
def dgTup(n:Nat)(gs:DTGs):DTG:=fun d σ Q=>match d with
 | .tuple xs=>xs.length=n/\gs xs σ Q
 | _=>False
theorem dg_tup{es:List Expr}{k:Nat}{is:List Nat}{gs:DTGs}{n:Nat}(hc:X.calm=true)(h:DGs X es is gs)(hn:(assignEach es X.env).length=n:=by rfl)(hst:(assignEach es X.env).findIdx? (·.1)=none:=by rfl):DG X (.Tuple es k pos) is (dgTup n gs):=⟨fun pins s σ H H₀ σD v u d Q I ok r rp q=>by
 cases d with
 | tuple xs =>
  obtain⟨hl,q⟩:=q
  cases rp with
  | tup hq rr =>
   cases r
   obtain⟨its,rv,ht,hz⟩:=I.tuple hq
   refine assign_Tuple_tuple (I.ok.hd hc) ht (by simp [hn,<-hl,<-rv.length,rr.length]) hst fun h' hx=>?_
   have I1:Inv X pins σ H { s with heap:=h' }:=I.kept (t':=s.toks) fun b o e=>hx b o (Nat.ne_of_lt (Heap.lt_size e)) e
   exact h.run pins _ σ H H₀ σD _ _ xs Q I1 ok (by simpa using rv) rr q
 | _=>exact q.elim⟩
def lcD(f:D->(Option D->Prop)->Prop):List D->(List D->Prop)->Prop
 | [],Q=>Q []
 | d::ds,Q=>f d fun o=>lcD f ds fun ys=>Q (match o with | some y=>y::ys | none=>ys)
def seenW:Option W->Option W
 | some (.own (.lst xs))=>some (.vw xs)
 | some (.own (.dct xs))=>some (.vd xs)
 | some (.own (.nst _ _))=>none
 | some (.own (.anc _ _))=>none
 | some (.own (.ins _ _))=>none
 | some (.own (.mix _))=>none
 | some (.tmp _)=>none
 | w=>w
def startD(k:Nat)(js:List Nat)(σ:DSt):DSt:=List.replicate k none++js.map fun j=>seenW (σ[j]?).join
def lcF(g:DTG)(tt:DTT)(te:DTE)(σ0:DSt):D->(Option D->Prop)->Prop:=fun d k=>g d σ0 fun σ2=>tt σ2 fun b=>if b=true then te σ2 fun y=>k (some y) else k none
def dLC(k:Nat)(js:List Nat)(ti:DTF)(g:DTG)(tt:DTT)(te:DTE):DTF:=fun σ Q=>ti σ fun ds=>ds.length<=sizeLine/\lcD (lcF g tt te (startD k js σ)) ds Q
structure DTs(X:Cx)(ifs:List Expr)(t:DTT):Prop where
 pts:PTs X ifs (cnT X.K t)
def dTrue:DTT:=fun _ Q=>Q true
theorem dts_nil:DTs X [] dTrue:=⟨fun pins s σ H Q I ⟨H₀,σD,QD,ok,q,k⟩=>pts_nil pins s σ H Q I (k true H (Same.refl _) q)⟩
theorem dts_one{c:Expr}{t:DTT}(h:DT X c t):DTs X [c] t:=⟨pts_one h.pt⟩
theorem Slots.keepN{K:PySem.W.Frag}{H₀ H:Hp}{σD:DSt}{σ:St}{fp:List Addr}(h:Slots K H₀ H σD σ fp):∀{σ':St},σ'.length=σ.length->(∀ j:Nat,σD[j]?=some Option.none\/σ'[j]?=σ[j]?)->Slots K H₀ H σD σ' fp:=by
 induction h with
 | nil=>intro σ' hl _;cases σ' with
  | nil=>exact .nil
  | cons _ _=>simp at hl
 | none t ih =>
  intro σ' hl k
  cases σ' with
  | nil=>simp at hl
  | cons x σ'=>exact .none (ih (by simpa using hl) fun j=>by simpa using k (j+1))
 | val r t ih =>
  intro σ' hl k
  cases σ' with
  | nil=>simp at hl
  | cons x σ' =>
   have:=k 0
   simp at this
   subst this
   exact .val r (ih (by simpa using hl) fun j=>by simpa using k (j+1))
 | vw r t ih =>
  intro σ' hl k
  cases σ' with
  | nil=>simp at hl
  | cons x σ' =>
   have:=k 0
   simp at this
   subst this
   exact .vw r (ih (by simpa using hl) fun j=>by simpa using k (j+1))
 | vd r t ih =>
  intro σ' hl k
  cases σ' with
  | nil=>simp at hl
  | cons x σ' =>
   have:=k 0
   simp at this
   subst this
   exact .vd r (ih (by simpa using hl) fun j=>by simpa using k (j+1))
 | exc r t ih =>
  intro σ' hl k
  cases σ' with
  | nil=>simp at hl
  | cons x σ' =>
   have:=k 0
   simp at this
   subst this
   exact .exc r (ih (by simpa using hl) fun j=>by simpa using k (j+1))
 | scr r t ih =>
  intro σ' hl k
  cases σ' with
  | nil=>simp at hl
  | cons x σ' =>
   have:=k 0
   simp at this
   subst this
   exact .scr r (ih (by simpa using hl) fun j=>by simpa using k (j+1))
 | pen r t ih =>
  intro σ' hl k
  cases σ' with
  | nil=>simp at hl
  | cons x σ' =>
   have:=k 0
   simp at this
   subst this
   exact .pen r (ih (by simpa using hl) fun j=>by simpa using k (j+1))
 | tmp r t ih =>
  intro σ' hl k
  cases σ' with
  | nil=>simp at hl
  | cons x σ' =>
   have:=k 0
   simp at this
   subst this
   exact .tmp r (ih (by simpa using hl) fun j=>by simpa using k (j+1))
 | own r t ih =>
  intro σ' hl k
  cases σ' with
  | nil=>simp at hl
  | cons x σ' =>
   have:=k 0
   simp at this
   subst this
   exact .own r (ih (by simpa using hl) fun j=>by simpa using k (j+1))
theorem DOk.keepN{K:PySem.W.Frag}{H₀ H:Hp}{σD:DSt}{σ σ':St}(h:DOk K H₀ H σD σ)(hl:σ'.length=σ.length)(k:∀ j:Nat,σD[j]?=some Option.none\/σ'[j]?=σ[j]?):DOk K H₀ H σD σ':=let ⟨s,fp,sl,r⟩:=h;⟨s,fp,sl.keepN hl k,r⟩
theorem DOk.block{K:PySem.W.Frag}{H₀ H:Hp}{σD:DSt}{σ:St}(h:DOk K H₀ H σD σ)(k:Nat)(js:List Nat):DOk K H H (startD k js σD) (startLC k js σ):=by
 refine⟨Same.refl _,[],?_,List.nodup_nil,fun a ha=>by cases ha⟩
 have two:∀ js:List Nat,Slots K H H (js.map fun j=>seenW (σD[j]?).join) (js.map fun j=>(σ[j]?).join) []:=by
  intro js
  induction js with
  | nil=>exact .nil
  | cons j js ih =>
   simp only [List.map_cons]
   have nn:∀ v,Slots K H H (none::js.map fun j=>seenW (σD[j]?).join) (v::js.map fun j=>(σ[j]?).join) []:=fun v=>.none ih
   cases e:σD[j]? with
   | none=>exact nn _
   | some o =>
    cases o with
    | none=>exact nn _
    | some w =>
     cases w with
     | val d =>
      obtain⟨v,e1,r⟩:=h.val e
      rw [e1]
      exact .val r ih
     | vw xs =>
      obtain⟨v,e1,r⟩:=h.vw e
      rw [e1]
      exact .vw r ih
     | vd xs =>
      obtain⟨v,e1,r⟩:=h.vd e
      rw [e1]
      exact .vd r ih
     | exc xs =>
      obtain⟨v,e1,r⟩:=h.exc e
      rw [e1]
      exact .exc r ih
     | scr ns =>
      obtain⟨a,e1,r⟩:=h.scr e
      rw [e1]
      exact .scr r ih
     | pen =>
      obtain⟨a,e1,r⟩:=h.pen e
      rw [e1]
      exact .pen r ih
     | tmp d=>exact nn _
     | own o =>
      cases o with
      | lst xs =>
       obtain⟨a,vs,e1,e2,r,_⟩:=h.ownL e
       rw [e1]
       exact .vw ⟨a,vs,rfl,.inl e2,r⟩ ih
      | dct xs =>
       obtain⟨a,vs,e1,e2,r,_⟩:=h.ownD e
       rw [e1]
       exact .vd ⟨a,vs,rfl,e2,r⟩ ih
      | nst xss ds=>exact nn _
      | anc _ _=>exact nn _
      | ins _ _=>exact nn _
      | mix _=>exact nn _
 unfold startD startLC
 induction k with
 | zero=>exact two js
 | succ k ih=>exact .none ih
theorem lc_turns{g:DTG}{tt:DTT}{te:DTE}{k:Nat}{js is:List Nat}{σ:St}{σD:DSt}{H₀ H1:Hp}{J:It}{ds:List D}{QD:List D->Prop}{Dd:Addr}{gL:TG}(ok:DOk X.K H₀ H1 σD σ)(it:ItOk X.K Same J H1 ds)(hz:ds.length<=sizeLine)
  (hg:∀ d v σ' H' Q (σ0:DSt),DOk X.K H1 H' σ0 σ'->Rep X.K H' d v->g d σ0 Q->gL v σ' H' (fun σ2 H2=>H2=H'/\σ2.length=σ'.length/\(∀ j,j∉is->σ2[j]?=σ'[j]?)/\∃ σD2,DOk X.K H1 H' σD2 σ2/\Q σD2))
  (mono:∀ v σ' H' (Q Q':St->Hp->Prop),(∀ σ2 H2,Q σ2 H2->Q' σ2 H2)->gL v σ' H' Q->gL v σ' H' Q')
  (his:∀ j∈is,j<k) (hn:H1 Dd=none) (q:lcD (lcF g tt te (startD k js σD)) ds QD) :
  lcTurns J Dd gL (cnT X.K tt) (cnE X.K te) (startLC k js σ) H1 (fun v H'=>∃ a vs xs,v=.ref a/\Same H1 H'/\H1 a=none/\H' a=some (.lst vs)/\Reps X.K H' xs vs/\QD xs):=by
 have sub:∀{Q1:List D->Prop} {i:Nat} {d:D},ds[i]?=some d->lcD (lcF g tt te (startD k js σD)) (ds.drop i) Q1=lcF g tt te (startD k js σD) d (fun o=>lcD (lcF g tt te (startD k js σD)) (ds.drop (i+1)) fun ys=>Q1 (match o with | some y=>y::ys | none=>ys)):=fun{Q1 i d} e=>by
  obtain⟨hi,e'⟩:=List.getElem?_eq_some_iff.mp e
  rw [List.drop_eq_getElem_cons hi,e']
  rfl
 refine⟨fun i m σ' H'=>m=ds.length-i/\i<=ds.length/\Same H1 H'/\σ'.length=(startLC k js σ).length/\(∀ j,k<=j->σ'[j]?=(startLC k js σ)[j]?)/\∃ acc vs,H' Dd=some (.lst vs)/\Reps X.K H' acc vs/\acc.length<=i/\lcD (lcF g tt te (startD k js σD)) (ds.drop i) (fun ys=>QD (acc++ys)),
  ⟨ds.length,rfl,Nat.zero_le _,same_new hn _,rfl,fun _ _=>rfl,[],[],upd_same,.nil,Nat.le_refl _,q⟩,?_⟩
 rintro i m σ' H' ⟨rfl,hi,sm,hl,fr,acc,vs,eD,ra,la,q1⟩
 have ok1:DOk X.K H1 H' (startD k js σD) σ':=by
  refine DOk.keepN ((ok.block k js).after sm) hl fun j=>?_
  by_cases hj:j<k
  ·left
   unfold startD
   rw [List.getElem?_append_left (by simpa using hj),List.getElem?_replicate,if_pos hj]
  ·right
   exact fr j (by omega)
 by_cases hlt:i<ds.length
 ·have e:ds[i]?=some ds[i]:=by simp [hlt]
  obtain⟨go,yl⟩:=it.go H' i ds[i] sm e
  refine .inr ⟨go,fun x H2 y=>?_⟩
  obtain⟨s2,r2⟩:=yl x H2 y
  rw [sub e] at q1
  refine mono _ _ _ _ _ (fun σ2 H3 z=>?_) (hg ds[i] x σ' H2 _ _ (ok1.after s2) r2 q1)
  obtain⟨rfl,l2,f2,σD2,ok2,q2⟩:=z
  have fr2:∀ j,k<=j->σ2[j]?=(startLC k js σ)[j]?:=fun j hj=>by rw [f2 j (fun z=>absurd (his j z) (by omega)),fr j hj]
  refine⟨H1,σD2,_,ok2,q2,fun b H4 s4 q4=>?_⟩
  cases b with
  | true =>
   rw [if_pos rfl] at q4 ⊢
   refine⟨H1,σD2,_,ok2.after s4,q4,fun y H5 dy s5 r5 q5=>?_⟩
   have eD5:=s5 _ _ (s4 _ _ (s2 _ _ eD))
   have ra5:=((ra.same s2).same s4).same s5
   refine⟨vs,eD5,by rw [<-ra5.length];omega,ds.length-(i+1),by omega,rfl,hlt,?_,l2.trans hl,fr2,acc ++ [dy],vs ++ [y],upd_same,?_,by rw [List.length_append,List.length_singleton];omega,?_⟩
   ·exact Same.but (((sm.trans s2).trans s4).trans s5) hn But.write
   ·exact(ra5.append (.cons r5 .nil)).mono (upd_pers eD5 rfl)
   ·simpa using q5
  | false =>
   rw [if_neg Bool.false_ne_true] at q4 ⊢
   exact⟨ds.length-(i+1),by omega,rfl,hlt,(sm.trans s2).trans s4,l2.trans hl,fr2,acc,vs,s4 _ _ (s2 _ _ eD),(ra.same s2).same s4,by omega,by simpa using q4⟩
 ·have e:i=ds.length:=by omega
  subst e
  rw [List.drop_length] at q1
  refine .inl ⟨it.stop H' sm,Dd,vs,acc,rfl,sm,hn,eD,ra,?_⟩
  have:lcD (lcF g tt te (startD k js σD)) [] (fun ys=>QD (acc++ys)):=q1
  simpa [lcD] using this
def cnG(K:PySem.W.Frag)(is:List Nat)(g:DTG):TG:=fun v σ H Q=>∃ H₀ σD d QD,DOk K H₀ H σD σ/\Rep K H d v/\g d σD QD/\∀ σ' σD',σ'.length=σ.length->DOk K H₀ H σD' σ'->(∀ j,j∉is->σ'[j]?=σ[j]?)->QD σD'->Q σ' H
theorem DG.pg{is:List Nat}{g:DTG}(h:DG X tg is g):PG X tg (cnG X.K is g):=fun pins s σ H v u Q I r ⟨H₀,σD,d,QD,ok,rp,q,k⟩=>thn (h.run pins s σ H H₀ σD v u d QD I ok r rp q) fun _ s' ⟨σ',σD',I',ok',f,qd⟩=>⟨σ',H,I',k σ' σD' (by rw [I'.len,I.len]) ok' f qd⟩
variable {elt:Expr}{ifs:List Expr}{scope:Scope}{cl:List (Str×Addr)}{N' capt:List Str}{k:Nat}{js is:List Nat}{ti:DTF}{g:DTG}{tt:DTT}{te:DTE}
theorem df_lc(hc:X.calm=true)(L:LCok X scope cl N' capt k js)
  (hi:DIw X tg iter ti) (hg:∀ C fp s2 H2,DG (cxLC X N' scope cl C fp s2 H2) tg is g) (ht:∀ C fp s2 H2,DTs (cxLC X N' scope cl C fp s2 H2) ifs tt) (he:∀ C fp s2 H2,DE (cxLC X N' scope cl C fp s2 H2) elt te)
  (his:∀ j∈is,j<k:=by decide) (hs:∀ x,foldedSetIterable iter X.env x=pure x:=by intro _;rfl):DF X (.ListComp elt [⟨tg,iter,ifs,0⟩] scope pos) (dLC k js ti g tt te) :=
 DF.of (pe_lc hc L hi.pi (fun C fp s2 H2=>(hg C fp s2 H2).pg) (fun C fp s2 H2=>(ht C fp s2 H2).pts) (fun C fp s2 H2=>(he C fp s2 H2).pe) hs) fun σ H H₀ σD QD ok q=>⟨H₀,σD,_,ok,q,fun J H1 ds s1 it q1 Dd hn=>by
  have z:=lc_turns (k:=k) (js:=js) (is:=is) (gL:=cnG X.K is g) (Dd:=Dd) (ok.after s1) it q1.1 (fun d v σ' H' Q σ0 ok0 r0 q0=>⟨H1,σ0,d,Q,ok0,r0,q0,fun σ2 σD2 l2 ok2 f2 q2=>⟨rfl,l2,f2,σD2,ok2,q2⟩⟩)
   (fun v σ' H' Q Q' m ⟨a,b,c,d,e1,e2,e3,e4⟩=>⟨a,b,c,d,e1,e2,e3,fun σ2 σD2 l o f q=>m _ _ (e4 σ2 σD2 l o f q)⟩) his hn q1.2
  obtain⟨W,w0,turn⟩:=z
  refine⟨W,w0,fun i m σ' H' w=>?_⟩
  rcases turn i m σ' H' w with⟨st,a,vs,xs,e,sm,n,e2,r,qd⟩ | h
  ·exact .inl ⟨st,a,vs,xs,e,s1.trans sm,s1.free n,e2,r,qd⟩
  ·exact .inr h⟩
end
inductive Ret where
 | val (d:D) | new (xs:List D)
def Ret.d:Ret->D
 | .val d=>d
 | .new xs=>.list xs
abbrev DSp:=List W->(Ret->Prop)->Prop
def RepR(K:PySem.W.Frag)(H H':Hp):Ret->V->Prop
 | .val d,v=>Rep K H' d v
 | .new xs,v=>∃ a vs,v=.ref a/\H a=none/\H' a=some (.lst vs)/\Reps K H' xs vs
def cnSp(K:PySem.W.Frag)(sp:DSp):Sp:=fun vs H Q _=>∃ ws QD,RepWs K H ws vs/\sp ws QD/\∀ v H' r,Same H H'->RepR K H H' r v->QD r->Q v H'
def dCall(sp:DSp)(t:DTP):DTE:=fun σ Q=>t σ fun ws=>sp ws fun r=>Q r.d
def dCallF(sp:DSp)(t:DTP):DTF:=fun σ Q=>t σ fun ws=>sp ws fun r=>match r with
 | .new xs=>Q xs
 | .val _=>False
section
variable {X:Cx}{e:Expr}{es:List Expr}{k k':Nat}{x:Str}{ps:List Str}{sp:DSp}{t:DTP}{p pos:Pos}
theorem call_out{pins:List (Addr×Obj)}{σ:St}{H H₀:Hp}{σD:DSt}{s:Shared}{Q:Ret->Prop}(C:Callee X.prog X.w X.K X.mg X.base k x ps (cnSp X.K sp))(hr:Room k' X.A)(hg:Gl X x)(ha:DPs X (e::es) t)(hk:k<=k')
  (hdb:(x == ("__debug__" : Str))=false) (he:starEach (e::es) X.env=(false,eval e X.env)::starEach es X.env) (hpl:(backTo pos (starEach es X.env)).any (·.1)=false) (I:Inv X pins σ H s) (ok:DOk X.K H₀ H σD σ) (q:t σD fun ws=>sp ws Q) :
  wpAny (model X.prog X.w) X.A (eval (.Call (.Name x p) (e::es) [] pos) X.env) (fun u s'=>∃ v H' r,Inv X pins σ H' s'/\RelV v u/\Same H H'/\RepR X.K H H' r v/\Q r) X.xe s:=by
 refine thn (pe_callC C hr hg ha.pa hk hdb he hpl pins s σ H (fun v H'=>∃ r,Same H H'/\RepR X.K H H' r v/\Q r) I ?_) fun u s' ⟨v,H',I',r,z,sm,rp,qd⟩=>⟨v,H',z,I',r,sm,rp,qd⟩
 refine⟨H₀,σD,_,ok,q,fun vs H1 ws s1 r1 q1=>⟨ws,Q,by rw [List.append_nil];exact r1,q1,fun v H' r s2 rp qd=>⟨r,s1.trans s2,?_,qd⟩⟩⟩
 cases r with
 | val d=>exact rp
 | new xs=>obtain⟨a,vs,e1,n,e2,r⟩:=rp;exact⟨a,vs,e1,s1.free n,e2,r⟩
theorem de_call(C:Callee X.prog X.w X.K X.mg X.base k x ps (cnSp X.K sp))(hr:Room k' X.A)(hg:Gl X x)(ha:DPs X (e::es) t)(hk:k<=k':=by decide)(hdb:(x == ("__debug__" : Str))=false:=by decide)
  (he:starEach (e::es) X.env=(false,eval e X.env)::starEach es X.env:=by rfl) (hpl:(backTo pos (starEach es X.env)).any (·.1)=false:=by rfl):DE X (.Call (.Name x p) (e::es) [] pos) (dCall sp t) :=
 ⟨fun pins s σ H H₀ σD Q I ok q=>thn (call_out C hr hg ha hk hdb he hpl I ok q) fun u s' ⟨v,H',r,I',rv,sm,rp,qd⟩=>by
  cases r with
  | val d=>exact⟨v,H',d,I',rv,sm,rp,qd⟩
  | new xs =>
   obtain⟨a,vs,rfl,n,e,r⟩:=rp
   obtain⟨H'',J,sm',r'⟩:=freeze I' sm n e r
   exact⟨.ref a,H'',.list xs,J,rv,sm',r',qd⟩⟩
theorem df_call(C:Callee X.prog X.w X.K X.mg X.base k x ps (cnSp X.K sp))(hr:Room k' X.A)(hg:Gl X x)(ha:DPs X (e::es) t)(hk:k<=k':=by decide)(hdb:(x == ("__debug__" : Str))=false:=by decide)
  (he:starEach (e::es) X.env=(false,eval e X.env)::starEach es X.env:=by rfl) (hpl:(backTo pos (starEach es X.env)).any (·.1)=false:=by rfl):DF X (.Call (.Name x p) (e::es) [] pos) (dCallF sp t) :=
 ⟨fun pins s σ H H₀ σD Q I ok q=>thn (call_out C hr hg ha hk hdb he hpl I ok q) fun u s' ⟨v,H',r,I',rv,sm,rp,qd⟩=>by
  cases r with
  | val d=>exact qd.elim
  | new xs =>
   obtain⟨a,vs,rfl,n,e,r⟩:=rp
   exact⟨a,H',vs,xs,rv,I',sm,n,e,r,qd⟩⟩
end
structure DEnds where
 nx:DSt->Prop
 rt:Ret->Prop
 bk:DSt->Prop:=fun _=>False
 ct:DSt->Prop:=fun _=>False
abbrev DTS:=DEnds->DSt->Prop
def DSP(X:Cx)(pins:List (Addr×Obj))(H₀ H:Hp)(Dn:DEnds)(f:Flow)(s':Shared):Prop :=
 match f with
 | .next=>∃ σ' H' σD',Inv X pins σ' H' s'/\DOk X.K H₀ H' σD' σ'/\Pers H H'/\Dn.nx σD'
 | .brk=>∃ σ' H' σD',Inv X pins σ' H' s'/\DOk X.K H₀ H' σD' σ'/\Pers H H'/\Dn.bk σD'
 | .cont=>∃ σ' H' σD',Inv X pins σ' H' s'/\DOk X.K H₀ H' σD' σ'/\Pers H H'/\Dn.ct σD'
 | .ret u=>∃ v σ' H' r,Inv X pins σ' H' s'/\RelV v u/\Same H₀ H'/\RepR X.K H₀ H' r v/\Dn.rt r
structure DS(X:Cx)(st:Stmt)(t:DTS):Prop where
 run:∀(pins:List (Addr×Obj)) (s:Shared) (σ:St) (H H₀:Hp) (σD:DSt) (Dn:DEnds),Inv X pins σ H s->DOk X.K H₀ H σD σ->t Dn σD->wpAny (model X.prog X.w) X.A (exec st X.env) (DSP X pins H₀ H Dn) X.xe s
structure DSs(X:Cx)(st:List Stmt)(t:DTS):Prop where
 run:∀(pins:List (Addr×Obj)) (s:Shared) (σ:St) (H H₀:Hp) (σD:DSt) (Dn:DEnds),Inv X pins σ H s->DOk X.K H₀ H σD σ->t Dn σD->wpAny (model X.prog X.w) X.A (execs st X.env) (DSP X pins H₀ H Dn) X.xe s
theorem DSP.back{X:Cx}{pins:List (Addr×Obj)}{H₀ H H1:Hp}{Dn:DEnds}{f:Flow}{s':Shared}(p:Pers H H1)(h:DSP X pins H₀ H1 Dn f s'):DSP X pins H₀ H Dn f s':=by
 cases f with
 | next=>obtain⟨a,b,c,e1,e2,e3,e4⟩:=h;exact⟨a,b,c,e1,e2,p.trans e3,e4⟩
 | brk=>obtain⟨a,b,c,e1,e2,e3,e4⟩:=h;exact⟨a,b,c,e1,e2,p.trans e3,e4⟩
 | cont=>obtain⟨a,b,c,e1,e2,e3,e4⟩:=h;exact⟨a,b,c,e1,e2,p.trans e3,e4⟩
 | ret u=>exact h
def dEnds(K:PySem.W.Frag)(H₀ H:Hp)(Dn:DEnds):Ends where
 nx:=fun σ' H'=>∃ σD',DOk K H₀ H' σD' σ'/\Pers H H'/\Dn.nx σD'
 bk:=fun σ' H'=>∃ σD',DOk K H₀ H' σD' σ'/\Pers H H'/\Dn.bk σD'
 ct:=fun σ' H'=>∃ σD',DOk K H₀ H' σD' σ'/\Pers H H'/\Dn.ct σD'
 rt:=fun v H'=>∃ r,Same H₀ H'/\RepR K H₀ H' r v/\Dn.rt r
section
variable {X:Cx}{st:Stmt}{sts rest:List Stmt}{t u:DTS}{e:Expr}{te:DTE}{tf:DTF}{pos:Pos}
theorem SP.dsp{pins:List (Addr×Obj)}{H₀ H:Hp}{Dn:DEnds}{f:Flow}{s':Shared}(h:SP X pins (dEnds X.K H₀ H Dn) f s'):DSP X pins H₀ H Dn f s':=by
 cases f with
 | next=>obtain⟨a,b,e1,c,e2,e3,e4⟩:=h;exact⟨a,b,c,e1,e2,e3,e4⟩
 | brk=>obtain⟨a,b,e1,c,e2,e3,e4⟩:=h;exact⟨a,b,c,e1,e2,e3,e4⟩
 | cont=>obtain⟨a,b,e1,c,e2,e3,e4⟩:=h;exact⟨a,b,c,e1,e2,e3,e4⟩
 | ret u=>obtain⟨v,a,b,e1,e2,r,e3,e4,e5⟩:=h;exact⟨v,a,b,r,e1,e2,e3,e4,e5⟩
theorem DS.of{t':TS}(h:PS X st t')(k:∀ σ H H₀ σD Dn,DOk X.K H₀ H σD σ->t Dn σD->t' (dEnds X.K H₀ H Dn) σ H):DS X st t :=
 ⟨fun pins s σ H H₀ σD Dn I ok q=>thn (h pins s σ H _ I (k σ H H₀ σD Dn ok q)) fun _ _ z=>z.dsp⟩
def cnS(K:PySem.W.Frag)(t:DTS):TS:=fun E σ H=>∃ H₀ σD Dn,DOk K H₀ H σD σ/\t Dn σD/\(∀ σ' H' σD',DOk K H₀ H' σD' σ'->Pers H H'->Dn.nx σD'->E.nx σ' H')/\(∀ v H' r,Same H₀ H'->RepR K H₀ H' r v->Dn.rt r->E.rt v H') /\
 (∀ σ' H' σD',DOk K H₀ H' σD' σ'->Pers H H'->Dn.bk σD'->E.bk σ' H')/\∀ σ' H' σD',DOk K H₀ H' σD' σ'->Pers H H'->Dn.ct σD'->E.ct σ' H'
theorem DSs.ps(h:DSs X sts t):PSs X sts (cnS X.K t):=fun pins s σ H E I ⟨H₀,σD,Dn,ok,q,k1,k2,k3,k4⟩=>thn (h.run pins s σ H H₀ σD Dn I ok q) fun f s' z=>by
 cases f with
 | next=>obtain⟨a,b,c,e1,e2,e3,e4⟩:=z;exact⟨a,b,e1,k1 a b c e2 e3 e4⟩
 | brk=>obtain⟨a,b,c,e1,e2,e3,e4⟩:=z;exact⟨a,b,e1,k3 a b c e2 e3 e4⟩
 | cont=>obtain⟨a,b,c,e1,e2,e3,e4⟩:=z;exact⟨a,b,e1,k4 a b c e2 e3 e4⟩
 | ret u=>obtain⟨v,a,b,r,e1,e2,e3,e4,e5⟩:=z;exact⟨v,a,b,e1,e2,k2 v b r e3 e4 e5⟩
def dNext:DTS:=fun Dn σ=>Dn.nx σ
def dSeq(t u:DTS):DTS:=fun Dn σ=>t { Dn with nx:=u Dn } σ
theorem dss_nil:DSs X [] dNext:=⟨fun _ _ σ H _ σD _ I ok h=>wpAny_execs_nil ⟨σ,H,σD,I,ok,Pers.refl _,h⟩⟩
theorem dss_cons(h1:DS X st t)(h2:DSs X rest u):DSs X (st::rest) (dSeq t u):=⟨fun pins s σ H H₀ σD Dn I ok q=>by
 refine wpAny_execs_cons (thn (h1.run pins s σ H H₀ σD { Dn with nx:=u Dn } I ok q) fun f s1 z=>?_)
 cases f with
 | next =>
  obtain⟨σ',H',σD',I',ok',p,q'⟩:=z
  exact thn (h2.run pins s1 σ' H' H₀ σD' Dn I' ok' q') fun _ _ y=>y.back p
 | ret v=>exact z
 | brk=>exact z
 | cont=>exact z⟩
theorem dss_one(h1:DS X st t):DSs X [st] t:=⟨fun pins s σ H H₀ σD Dn I ok q=>by
 refine wpAny_execs_cons (thn (h1.run pins s σ H H₀ σD Dn I ok q) fun f s1 z=>?_)
 cases f with
 | next=>exact wpAny_execs_nil z
 | ret v=>exact z
 | brk=>exact z
 | cont=>exact z⟩
def dRet(te:DTE):DTS:=fun Dn σ=>te σ fun d=>Dn.rt (.val d)
def dRetF(tf:DTF):DTS:=fun Dn σ=>tf σ fun xs=>Dn.rt (.new xs)
theorem ds_ret(he:DE X e te):DS X (.Return (some e) pos) (dRet te) :=
 DS.of (ps_ret he.pe) fun σ H H₀ σD Dn ok q=>⟨H₀,σD,_,ok,q,fun v H1 d s1 r1 q1=>⟨.val d,ok.same.trans s1,r1,q1⟩⟩
theorem ds_retF(he:DF X e tf):DS X (.Return (some e) pos) (dRetF tf) :=
 DS.of (ps_ret he.pe) fun σ H H₀ σD Dn ok q=>⟨H₀,σD,_,ok,q,fun a H1 vs xs s1 n e r1 q1=>⟨.new xs,ok.same.trans s1,⟨a,vs,rfl,ok.same.free n,e,r1⟩,q1⟩⟩
def dSet(i:Nat)(te:DTE):DTS:=fun Dn σ=>te σ fun d=>Dn.nx (σ.set i (some (.val d)))
def dSetO(i:Nat)(tf:DTF):DTS:=fun Dn σ=>tf σ fun xs=>Dn.nx (σ.set i (some (.own (.lst xs))))
def dSetP(i:Nat)(tf:DTF):DTS:=fun Dn σ=>tf σ fun xs=>(∃ a b c:Int,xs = [.int a,.int b,.int c])/\Dn.nx (σ.set i (some .pen))
theorem ds_set{i:Nat}{x:Str}{pos':Pos}(hN:X.N.Nodup)(hi:X.N[i]?=some x)(hx:Loc X.env.scope x)(he:DE X e te)(hs:swapsWith e (some (.Name x pos')) pos.line X.env=pure false:=by rfl)(hf:X.fn x=true\/X.env.scope.names.lookup x=some .local:=by first | exact .inl rfl | exact .inr rfl | assumption):
  DS X (.Assign [.Name x pos'] e pos) (dSet i te) :=
 DS.of (ps_set hN hi hx he.pe hs hf) fun σ H H₀ σD Dn ok q=>⟨H₀,σD,_,ok,q,fun v H1 d s1 r1 q1=>⟨_,(ok.after s1).setV r1 i,s1.pers,q1⟩⟩
theorem ds_setO{i:Nat}{x:Str}{pos':Pos}(hN:X.N.Nodup)(hi:X.N[i]?=some x)(hx:Loc X.env.scope x)(he:DF X e tf)(hs:swapsWith e (some (.Name x pos')) pos.line X.env=pure false:=by rfl)(hf:X.fn x=true\/X.env.scope.names.lookup x=some .local:=by first | exact .inl rfl | exact .inr rfl | assumption):
  DS X (.Assign [.Name x pos'] e pos) (dSetO i tf) :=
 DS.of (ps_set hN hi hx he.pe hs hf) fun σ H H₀ σD Dn ok q=>⟨H₀,σD,_,ok,q,fun a H1 vs xs s1 n e r1 q1=>⟨_,ok.setO s1 n e r1 i,s1.pers,q1⟩⟩
theorem ds_setP{i:Nat}{x:Str}{pos':Pos}(hN:X.N.Nodup)(hi:X.N[i]?=some x)(hx:Loc X.env.scope x)(he:DF X e tf)(hs:swapsWith e (some (.Name x pos')) pos.line X.env=pure false:=by rfl)(hf:X.fn x=true\/X.env.scope.names.lookup x=some .local:=by first | exact .inl rfl | exact .inr rfl | assumption):
  DS X (.Assign [.Name x pos'] e pos) (dSetP i tf):=⟨fun pins s σ H H₀ σD Dn I ok q=>by
 refine thn (ps_set hN hi hx he.pe hs hf pins s σ H { nx:=fun σ' H'=>∃ a,Same H H'/\H a=none/\σ'=σ.set i (some (.ref a))/\(∃ x y z:Int,H' a=some (.lst [.int x,.int y,.int z]))/\Dn.nx (σD.set i (some .pen)),rt:=fun _ _=>False } I ⟨H₀,σD,_,ok,q,fun a H1 vs xs s1 n e r1 q1=>?_⟩) fun f s' z=>?_
 ·obtain⟨⟨x,y,z,rfl⟩,q1⟩:=q1
  cases r1 with
  | cons r1 t=>cases t with
   | cons r2 t=>cases t with
    | cons r3 t =>
     cases t
     cases r1
     cases r2
     cases r3
     exact⟨a,s1,n,rfl,⟨x,y,z,e⟩,q1⟩
 ·cases f with
  | next =>
   obtain⟨σ',H',I',a,sm,n,rfl,⟨x,y,z,e⟩,q⟩:=z
   have sm2:Same H (upd H' a (PenO a)):=fun b u hb=>by rw [upd_ne (ne_of_none hb n)];exact sm b u hb
   exact⟨_,_,_,I'.toPen e,(ok.after sm2).put (.pen upd_same) i,sm2.pers,q⟩
  | ret u=>obtain⟨_,_,_,_,_,z⟩:=z;exact z.elim
  | brk=>obtain⟨_,_,_,z⟩:=z;exact z.elim
  | cont=>obtain⟨_,_,_,z⟩:=z;exact z.elim⟩
def dAsg(te:DTE)(g:DTG):DTS:=fun Dn σ=>te σ fun d=>g d σ Dn.nx
theorem ds_asg{tg:Expr}{is:List Nat}{g:DTG}(he:DE X e te)(hg:DG X tg is g)(hs:swapsWithSole [tg] e pos.line X.env=pure false:=by rfl)(hw:swappedStores [tg] e X.env=pure none:=by rfl)
  (h1:(assignEach [tg] X.env).map (·.2) = [assign tg X.env]:=by rfl):DS X (.Assign [tg] e pos) (dAsg te g) :=
 DS.of (ps_asg he.pe hg.pg hs hw h1) fun σ H H₀ σD Dn ok q=>⟨H₀,σD,_,ok,q,fun v H1 d s1 r1 q1=>⟨H₀,σD,d,_,ok.after s1,r1,q1,fun σ' σD' _ ok' _ q'=>⟨σD',ok',s1.pers,q'⟩⟩⟩
def dPar(i j:Nat)(t:DTF):DTS:=fun Dn σ=>t σ fun ds=>match ds with
 | [d,e]=>Dn.nx ((σ.set i (some (.val d))).set j (some (.val e)))
 | _=>False
theorem ds_par{i j:Nat}{x y:Str}{a b:Expr}{px py pt:Pos}{kt k2 pt2}(hc:X.calm=true)(hN:X.N.Nodup)(hi:X.N[i]?=some x)(hj:X.N[j]?=some y)(hij:i≠j)
  (hx:X.env.scope.names.lookup x=some .local) (hy:X.env.scope.names.lookup y=some .local) (ha:DA X [a,b] tf)
  (hw:swappedStores [.Tuple [.Name x px,.Name y py] kt pt] (.Tuple [a,b] k2 pt2) X.env=pure (some [x,y]))
  (hs:swapsWithSole [.Tuple [.Name x px,.Name y py] kt pt] (.Tuple [a,b] k2 pt2) pos.line X.env=pure false:=by rfl) :
  DS X (.Assign [.Tuple [.Name x px,.Name y py] kt pt] (.Tuple [a,b] k2 pt2) pos) (dPar i j tf) :=
 DS.of (ps_par hc hN hi hj hij hx hy ha.pa hw hs) fun σ H H₀ σD Dn ok q=>⟨H₀,σD,_,ok,q,fun vs H1 ds s1 r1 q1=>by
  match ds,r1,q1 with
  | [d,e],r1,q1 =>
   cases r1 with
   | cons p1 t1=>cases t1 with
    | cons p2 t2 =>
     cases t2
     exact⟨_,_,rfl,_,((ok.after s1).setV p1 i).setV p2 j,s1.pers,q1⟩⟩
def dIf(c:DTT)(t u:DTS):DTS:=fun Dn σ=>c σ fun b=>if b=true then t Dn σ else u Dn σ
theorem ds_if{c:Expr}{a b:List Stmt}{tc:DTT}(hc:DT X c tc)(ha:DSs X a t)(hb:DSs X b u):DS X (.If c a b pos) (dIf tc t u):=⟨fun pins s σ H H₀ σD Dn I ok q=>by
 refine wpAny_If (thn (hc.run pins s σ H H₀ σD _ I ok q) fun d s1 ⟨H1,I1,sm,q1⟩=>?_)
 cases d with
 | true=>exact thn (ha.run pins s1 σ H1 H₀ σD Dn I1 (ok.after sm) (by simpa using q1)) fun _ _ z=>z.back sm.pers
 | false=>exact thn (hb.run pins s1 σ H1 H₀ σD Dn I1 (ok.after sm) (by simpa using q1)) fun _ _ z=>z.back sm.pers⟩
def forD(g:DTG)(tb:DTS)(Dn:DEnds):List D->DSt->Prop
 | [],σ=>Dn.nx σ
 | d::ds,σ=>g d σ fun σ2=>tb { Dn with nx:=forD g tb Dn ds,ct:=forD g tb Dn ds,bk:=Dn.nx } σ2
theorem forD_suf{g:DTG}{tb:DTS}{Dn:DEnds}(Iv:List D->DSt->Prop)(hs:∀ d ds σ (N:DSt->Prop),Iv (d::ds) σ->(∀ σ',Iv ds σ'->N σ')->g d σ fun σ2=>tb { Dn with nx:=N,ct:=N,bk:=Dn.nx } σ2)(hd:∀ σ,Iv [] σ->Dn.nx σ):∀{ds:List D} {σ:DSt},Iv ds σ->forD g tb Dn ds σ
 | [],σ,h=>hd σ h
 | d::ds,σ,h=>hs d ds σ _ h fun σ' h'=>forD_suf Iv hs hd h'
def dFor(ti:DTF)(g:DTG)(tb:DTS):DTS:=fun Dn σ=>ti σ fun ds=>forD g tb Dn ds σ
theorem ds_for{tg iter:Expr}{body:List Stmt}{ti:DTF}{is:List Nat}{g:DTG}{tb:DTS}(hp:PassesOwn (model X.prog X.w) X.A X.env X.xe)(hc:X.calm=true)(hi:DI X tg iter ti)(hg:DG X tg is g)(hb:DSs X body tb)
  (hs:∀ x,foldedSetIterable iter X.env x=pure x:=by intro _;rfl):DS X (.For tg iter body [] pos) (dFor ti g tb) :=
 DS.of (ps_for hp hc hi.pi hg.pg hb.ps hs) fun σ H H₀ σD Dn ok q=>⟨H₀,σD,_,ok,q,fun J H1 ds s1 it q1=>by
  have sub:∀{i:Nat} {d:D} {σ':DSt},ds[i]?=some d->forD g tb Dn (ds.drop i) σ'=g d σ' (fun σ2=>tb { Dn with nx:=forD g tb Dn (ds.drop (i+1)),ct:=forD g tb Dn (ds.drop (i+1)),bk:=Dn.nx } σ2):=fun{i d σ'} e=>by
   obtain⟨hi,e'⟩:=List.getElem?_eq_some_iff.mp e
   rw [List.drop_eq_getElem_cons hi,e']
   rfl
  refine⟨fun i m σ' H'=>m=ds.length-i/\i<=ds.length/\Pers H1 H'/\∃ σD',DOk X.K H₀ H' σD' σ'/\forD g tb Dn (ds.drop i) σD',⟨ds.length,rfl,Nat.zero_le _,Pers.refl _,σD,ok.after s1,q1⟩,?_⟩
  rintro i m σ' H' ⟨rfl,hi,pr,σD',ok',q'⟩
  by_cases hlt:i<ds.length
  ·have e:ds[i]?=some ds[i]:=by simp [hlt]
   obtain⟨go,yl⟩:=it.go H' i ds[i] pr e
   rw [sub e] at q'
   refine .inr ⟨go,fun σ2 H2=>Pers H1 H2/\∃ σD2,DOk X.K H₀ H2 σD2 σ2/\forD g tb Dn (ds.drop (i+1)) σD2,fun σ2 H2 ⟨p2,σD2,ok2,q2⟩=>⟨ds.length-(i+1),by omega,rfl,hlt,p2,σD2,ok2,q2⟩,fun x H2 y=>?_⟩
   obtain⟨s2,r2⟩:=yl x H2 y
   have p2:=pr.trans s2.pers
   refine⟨H₀,σD',ds[i],_,ok'.after s2,r2,q',fun σ3 σD3 _ ok3 _ q3=>?_⟩
   exact⟨H₀,σD3,_,ok3,q3,fun σ4 H4 σD4 ok4 p4 q4=>⟨p2.trans p4,σD4,ok4,q4⟩,fun v H4 r sm rp qr=>⟨r,sm,rp,qr⟩,fun σ4 H4 σD4 ok4 p4 q4=>⟨σD4,ok4,(s1.pers.trans p2).trans p4,q4⟩,fun σ4 H4 σD4 ok4 p4 q4=>⟨p2.trans p4,σD4,ok4,q4⟩⟩
  ·have e:i=ds.length:=by omega
   subst e
   rw [List.drop_length] at q'
   exact .inl ⟨it.stop H' pr,σD',ok',s1.pers.trans pr,q'⟩⟩
variable {ta tb:DTE}
def dApp(i:Nat)(te:DTE):DTS:=fun Dn σ=>match σ[i]? with
 | some (some (.own (.lst xs)))=>te σ fun d=>xs.length<sizeLine/\Dn.nx (clr (σ.set i (some (.own (.lst (xs ++ [d]))))))
 | _=>False
theorem ds_append(i:Nat){x:Str}{p1 apos cpos:Pos}(he:DE X e te)(hN:X.N[i]?=some x:=by rfl)(hv:Vis X.env.scope x:=by first | exact Or.inl rfl | exact Or.inr (Or.inl rfl) | exact Or.inr (Or.inr rfl))(hd:(x == ("__debug__" : Str))=false:=by decide)
  (hcd:(x == ("__classdict__" : Str))=false:=by decide)
  (hbase:attributeBase (.Name x p1) "append" X.env (eval (.Name x p1) X.env)=eval (.Name x p1) X.env:=by rfl)
  (hfew:((backTo cpos (starEach (e :: []) X.env)).all (fun x=>!x.1) && (backToKw cpos (keywordEach [] X.env)).all (fun x=>x.1.isSome)
   && decide ((e :: []).length+([]:List Keyword).length+(if ([]:List Keyword).isEmpty then 0 else 1)<30))=true:=by rfl)
  (hline:(apos.endLine == cpos.line)=true:=by rfl) (hst:starEach (e :: []) X.env=(false,eval e X.env)::starEach [] X.env:=by rfl) (hplain:(backTo cpos (starEach [] X.env)).any (·.1)=false:=by rfl)
  (hs:swapsWith (.Call (.Attribute (.Name x p1) "append" apos) [e] [] cpos) none pos.line X.env=pure false:=by rfl):DS X (.Expr (.Call (.Attribute (.Name x p1) "append" apos) [e] [] cpos) pos) (dApp i te) :=
 DS.of (ps_expr (pe_bm PySem.F.plainAttrs_list PySem.F.slot_list_append PySem.F.type_list_append mt_append (pe_var (i:=i) hN hv hd hcd) (pa_cons he.pe pa_nil hst) hbase hfew hline hst hplain) hs) fun σ H H₀ σD Dn ok q=>by
  unfold dApp at q
  split at q
  ·next xs eo =>
   obtain⟨a,vs,e1,e2,r,n⟩:=ok.ownL eo
   refine⟨.ref a,e1,.inl ⟨rfl,vs,SqL.of e2⟩,H₀,σD,_,ok,q,fun v H1 d s1 r1 q1=>?_⟩
   refine⟨a,vs,v,rfl,rfl,s1 _ _ e2,by rw [<-r.length];exact q1.1,_,(ok.after s1).write eo e1 (s1 _ _ e2) ((r.same s1).append (.cons r1 .nil)),s1.pers.trans (upd_pers (s1 _ _ e2) rfl),q1.2⟩
  ·exact q.elim
def dPutI(i:Nat)(ti te:DTE):DTS:=fun Dn σ=>te σ fun d=>match σ[i]? with
 | some (some (.own (.lst xs)))=>ti σ fun k=>match k with
  | .int k=>∃ j,ixN xs.length k=some j/\Dn.nx (clr (σ.set i (some (.own (.lst (xs.set j d))))))
  | _=>False
 | _=>False
theorem ds_putI(i:Nat){ie:Expr}{x:Str}{p1 tpos:Pos}(he:DE X e te)(hi:DE X ie ta)(hN:X.N[i]?=some x:=by rfl)(hv:Vis X.env.scope x:=by first | exact Or.inl rfl | exact Or.inr (Or.inl rfl) | exact Or.inr (Or.inr rfl))(hd:(x == ("__debug__" : Str))=false:=by decide)
  (hcd:(x == ("__classdict__" : Str))=false:=by decide)
  (ha:∀ v,assign (.Subscript (.Name x p1) ie tpos) X.env v=(do
   let ov <-holding [v] (eval (.Name x p1) X.env)
   let iv <-holding [v,ov] (eval ie X.env)
   standAt tpos
   holding [v,ov,iv] (setItem ov iv v)
   release [v,ov,iv] []):=by intro _;rfl)
  (hs:swapsWithSole [.Subscript (.Name x p1) ie tpos] e pos.line X.env=pure false:=by rfl) (hw:swappedStores [.Subscript (.Name x p1) ie tpos] e X.env=pure none:=by rfl)
  (h1:(assignEach [.Subscript (.Name x p1) ie tpos] X.env).map (·.2) = [assign (.Subscript (.Name x p1) ie tpos) X.env]:=by rfl):DS X (.Assign [.Subscript (.Name x p1) ie tpos] e pos) (dPutI i ta te) :=
 DS.of (ps_asg he.pe (pg_sub (pe_var (i:=i) hN hv hd hcd) hi.pe set_list ha) hs hw h1) fun σ H H₀ σD Dn ok q=>⟨H₀,σD,_,ok,q,fun v H1 d s1 r1 q1=>by
  split at q1
  ·next xs eo =>
   obtain⟨a,vs,e1,e2,r,n⟩:=(ok.after s1).ownL eo
   refine⟨.ref a,e1,H₀,σD,_,ok.after s1,q1,fun w H2 k s2 r2 q2=>?_⟩
   cases k with
   | int k =>
    cases r2
    obtain⟨j,ej,q2⟩:=q2
    exact⟨a,vs,k,j,rfl,rfl,s2 _ _ e2,by rw [<-r.length];exact ej,_,((ok.after s1).after s2).write eo e1 (s2 _ _ e2) (Reps.set (r1.same s2) j (r.same s2)),(s1.pers.trans s2.pers).trans (upd_pers (s2 _ _ e2) rfl),q2⟩
   | _=>exact q2.elim
  ·exact q1.elim⟩
end
def startF(N:List Str)(ws:List W):DSt:=ws.map some++List.replicate (N.length-ws.length) none
section
variable {P:Program}{w:World}{K:PySem.W.Frag}{mg:Str->Option Value}{base:Heap}
theorem DOk.begin{H:Hp}{ws:List W}{vs:List V}(r:RepWs K H ws vs)(N:List Str):DOk K H H (startF N ws) (start N vs):=by
 refine⟨Same.refl _,[],?_,List.nodup_nil,fun a ha=>by cases ha⟩
 unfold startF start
 rw [<-r.length]
 generalize N.length-ws.length=n
 have rep:∀ n:Nat,Slots K H H (List.replicate n none) (List.replicate n none) []:=fun n=>by
  induction n with
  | zero=>exact .nil
  | succ n ih=>exact .none ih
 induction r with
 | nil=>exact rep n
 | @cons w' v ws vs r t ih =>
  cases w' with
  | val d=>exact .val r ih
  | vw xs=>exact .vw r ih
  | vd xs=>exact .vd r ih
  | exc xs=>exact .exc r ih
  | scr ns=>obtain⟨a,rfl,r⟩:=r;exact .scr r ih
  | pen=>obtain⟨a,rfl,r⟩:=r;exact .pen r ih
  | tmp d=>exact r.elim
  | own o=>exact r.elim
theorem Fun.dok{x qual:Str}{st:Stmt}{f:Addr}{fd:FuncData}{N ps:List Str}{k:Nat}{sp:DSp}(F:Fun K x qual st f fd)(S:FnScope N ps (defScope st))(len:∀ ws Q,sp ws Q->ws.length=ps.length)
  (hbody:∀(cdv:Value) (A:Around) (outer:List Env) (s:Shared) (H:Hp) (ws:List W) (Q:Ret->Prop) (E:XK),Room k (A.deeper (envOfC qual (defScope st) s.heap.objs.size f cdv))->sp ws Q ->
   ∃ t,DSs (cxOf CX0 P w K mg base N qual (defScope st) f cdv A outer s H E).nox (defBody st) t/\t { nx:=fun _=>Q (.val .none),rt:=Q } (startF N ws)):FnOk P w K mg base CX0 (k+1) f fd ps (cnSp K sp):=by
 refine F.ok S (fun vs H Q E h=>?_) fun cdv A outer s H vs Q E hr h=>?_
 ·obtain⟨ws,QD,r,q,_⟩:=h
  rw [<-r.length]
  exact len ws QD q
 ·obtain⟨ws,QD,r,q,kk⟩:=h
  obtain⟨t,ht,hq⟩:=hbody cdv A outer s H ws QD E hr q
  refine⟨_,ht.ps,H,_,_,DOk.begin r N,hq,fun σ' H' σD' ok' p' q'=>kk .non H' (.val .none) ok'.same .non q',fun v H' r' sm rp qr=>kk v H' r' sm rp qr,fun _ _ _ _ _ z=>z.elim,fun _ _ _ _ _ z=>z.elim⟩
end
def sp_drawH:Sp:=fun vs H Q _=>∃(p:Addr) (m:Int),vs = [.ref p,.int m]/\0<m/\m<10000000000000000000000000000000000000000000000000000000000000/\Pen H p/\∀(v:Int) H',0<=v->v<m->Pen H' p->But p H H'->Q (.int v) H'
def sp__law_draw:DSp:=fun ws Q=>∃ m:Int,ws = [.pen,.val (.int m)]/\0<m/\m<10000000000000000000000000000000000000000000000000000000000000/\∀ v:Int,0<=v->v<m->Q (.val (.int v))
theorem pen_fn{P:Program}{w:World}{K:PySem.W.Frag}{mg:Str->Option Value}{base:Heap}{k:Nat}{f:Addr}{fd:FuncData}{ps:List Str}(F:FnOk P w K mg base CX0 k f fd ps sp_drawH):FnOk P w K mg base CX0 k f fd ps (cnSp K sp__law_draw):=by
 refine⟨fun vs H Q E h=>?_,fun A outer s H args us vs Q E hr e0 hb hv hs=>?_⟩
 ·obtain⟨ws,QD,rw',⟨m,rfl,hm,hM,q⟩,kk⟩:=h
  cases rw' with
  | cons r1 t=>cases t with
   | cons r2 t =>
    cases t
    obtain⟨p,rfl,hp⟩:=r1
    have r2:Rep K H (.int m) _:=r2
    cases r2
    exact F.len [.ref p,.int m] (upd H p (.lst [.int 0,.int 0,.int 0])) (fun _ _=>True) E ⟨p,m,rfl,hm,hM,⟨0,0,0,upd_same⟩,fun _ _ _ _ _ _=>trivial⟩
 ·obtain⟨ws,QD,rw',⟨m,rfl,hm,hM,q⟩,kk⟩:=hs
  cases rw' with
  | cons r1 t=>cases t with
   | cons r2 t =>
    cases t
    obtain⟨p,rfl,hp⟩:=r1
    have r2:Rep K H (.int m) _:=r2
    cases r2
    obtain⟨⟨x,y,z,tx,ty,tz,n,e⟩,_,_⟩:=e0.hok p _ hp
    have mu:Mut (H p):=by rw [hp];exact trivial
    have hok1:HOk P w (upd H p (.lst [.int x,.int y,.int z])) s.heap:=e0.hok.write (h':=s.heap) mu (.inl rfl) (fun b u _ q=>q) ⟨_,e⟩ ⟨by show 3<=sizeLine;decide,[_,_,_],n,.cons ⟨_,rfl⟩ (.cons ⟨_,rfl⟩ (.cons ⟨_,rfl⟩ .nil)),e⟩
    have nn:∀ b,H b=none->b≠p:=fun b h z=>by rw [z,hp] at h;cases h
    have e1:Env0 P w K mg base A outer s (upd H p (.lst [.int x,.int y,.int z])):=⟨e0.frames,e0.mod,fun b o h=>⟨(e0.bs b o h).1,by rw [upd_ne (nn b (e0.bs b o h).2)];exact(e0.bs b o h).2⟩,e0.bsz,e0.funs,fun b hb=>by rw [upd_ne (nn b (e0.frf b hb))];exact e0.frf b hb,hok1,e0.bare⟩
    refine codeAny_mono (F.run A outer s _ args us [.ref p,.int m] (fun v H'=>∃ i,v=.int i/\0<=i/\i<m/\Pen H' p/\But p (upd H p (.lst [.int x,.int y,.int z])) H') E hr e1 hb hv ⟨p,m,rfl,hm,hM,⟨x,y,z,upd_same⟩,fun v H' h1 h2 h3 h4=>⟨v,rfl,h1,h2,h3,h4⟩⟩) fun r s' z=>?_
    cases r with
    | error e=>exact z
    | ok fl =>
     cases fl with
     | ret u =>
      obtain⟨v,H',os,bare,un,hok',rv,i,rfl,h1,h2,⟨a',b',c',hp'⟩,bt⟩:=z
      obtain⟨zz,its,n',r',e'⟩:=hok' p _ hp'
      have pk:∃(x y z:Int) (tx ty tz:Tok),its = [.int x tx,.int y ty,.int z tz]:=by
       cases r' with
       | cons r1 r=>cases r with
        | cons r2 r=>cases r with
         | cons r3 r =>
          cases r
          obtain⟨t1,rfl⟩:=r1
          obtain⟨t2,rfl⟩:=r2
          obtain⟨t3,rfl⟩:=r3
          exact⟨_,_,_,_,_,_,rfl⟩
      obtain⟨x',y',z',tx',ty',tz',rfl⟩:=pk
      have np:∀{b:Addr} {u:HO},H b=some u->u≠PenO p->b≠p:=fun{b u} h n z=>by rw [z,hp] at h;cases h;exact n rfl
      have hpen:∀{b:Addr},b≠p->upd H' p (PenO p) b=H' b:=fun h=>upd_ne h
      refine⟨.int i,upd H' p (PenO p),os,bare,⟨fun b o h n'=>un.keep b o h (by rw [upd_ne (nn b n')];exact n'),fun b o h n'=>un.slot b o h (by rw [upd_ne (nn b n')];exact n'),fun b o h n' hx=>?_,un.there,fun b xs h=>?_,fun b o u h=>?_,fun b ps h=>?_⟩,?_,rv,kk (.int i) _ (.val (.int i)) (fun b o h=>?_) (show Rep K _ (.int i) (.int i) from .int) (q i h1 h2)⟩
      ·rw [hpen (nn b n')]
       exact un.free b o h (by rw [upd_ne (nn b n')];exact n') hx
      ·have nb:=np h (by unfold PenO;intro z;cases z)
       rw [hpen nb]
       exact un.tups b xs (by rw [upd_ne nb];exact h)
      ·have nb:=np h (by unfold PenO;intro z;cases z)
       rw [hpen nb]
       exact un.frzs b o u (by rw [upd_ne nb];exact h)
      ·have nb:=np h (by unfold PenO;intro z;cases z)
       obtain⟨more,e2⟩:=un.tbls b ps (by rw [upd_ne nb];exact h)
       exact⟨more,by rw [hpen nb];exact e2⟩
      ·exact hok'.write (h':=s'.heap) (by rw [hp'];exact trivial) (.inl rfl) (fun b u _ q=>q) ⟨_,e'⟩ (penO_ok e')
      ·by_cases hb:b=p
       ·subst hb
        rw [hp] at h
        cases h
        exact upd_same
       ·rw [upd_ne hb]
        exact bt b o hb (by rw [upd_ne hb];exact h)
     | next=>exact z
     | brk=>exact z
     | cont=>exact z
section
variable {prog:Program}{w:World}{A:Around}{E:Value->Shared->Prop}{s:Shared}
theorem draw_list{it t:Addr}{items:Array Value}(hne:t≠it):∀(n i:Nat) (s:Shared) (Q:List Value->Shared->Prop),s.heap.IsListIter it t i->s.heap.IsList t items->i+n<=items.size ->
  (∀ h',h'.IsListIter it t (i+n)->Heap.SameBut it s.heap h'->Q ((items.toList.drop i).take n) { s with heap:=h' })->wpAny (model prog w) A (draw (.ref it) n) Q E s
 | 0,i,s,Q,hit,_,_,hQ=>by
  show wpAny _ _ (pure []) Q E s
  exact wpAny_pure (by simpa using hQ s.heap hit (Heap.SameBut.refl ..))
 | n+1,i,s,Q,hit,ht,hle,hQ=>by
  have hlt:i<items.size:=by omega
  show wpAny _ _ (pyNext (.ref it) >>= _) Q E s
  refine wpAny_bind (wpAny_pyNext_list_item hit ht (x:=items[i]) (by simp [hlt]) fun h₁ hit₁ hs₁=>?_)
  have ht1:h₁.IsList t items:=by obtain⟨o,e,r⟩:=ht;exact⟨o,(hs₁.2 t hne).trans e,r⟩
  refine wpAny_bind (wpAny_holding (draw_list hne n (i+1) _ _ hit₁ ht1 (by omega) fun h₂ hit₂ hs₂=>wpAny_pure ?_))
  have hd:items.toList.drop i=items[i]::items.toList.drop (i+1):=by simp [List.drop_eq_getElem_cons,hlt]
  have:=hQ h₂ (by rw [show i+(n+1)=i+1+n by omega];exact hit₂) (hs₁.trans hs₂)
  rw [hd,List.take_succ_cons] at this
  exact this
theorem unpackItems_list{t:Addr}{items:Array Value}{Q:List Value->Shared->Prop}(hh:A.handled=none)(ht:s.heap.IsList t items)
  (hQ:∀ h',Heap.ExtBut s.heap.objs.size s.heap h'->Q items.toList { s with heap:=h' }):wpAny (model prog w) A (unpackItems (.ref t) items.size none) Q E s:=by
 have hlt:t≠s.heap.objs.size:=by obtain⟨o,ho,_⟩:=ht;exact Nat.ne_of_lt (Heap.lt_size ho)
 have push:∀ o:Obj,(s.heap.push o).IsList t items:=fun o=>by obtain⟨o',e,r⟩:=ht;exact⟨o',Heap.get?_push_of_some _ e,r⟩
 unfold unpackItems
 refine wpAny_bind ?_
 ·unfold notIterableAtAll
  refine wpAny_bind (wpAny_specialOf ht.typeIs slot_list_iter.lookup ?_)
  refine wpAny_pure ?_
  simp only [Bool.false_eq_true,if_false]
  refine wpAny_bind (wpAny_holding (wpAny_pyIter_list ht ?_))
  refine wpAny_bind (wpAny_holding (draw_list hlt items.size 0 _ _ ⟨_,Heap.get?_push_size _ rfl,rfl,rfl⟩ (push _) (by omega) fun h₁ hit₁ hs₁=>?_))
  have hall:List.take items.size (List.drop 0 items.toList)=items.toList:=by
   rw [List.drop_zero];exact List.take_of_length_le (by simp)
  rw [hall]
  rw [if_neg (by simp)]
  have ht₁:h₁.IsList t items:=by obtain⟨o',e,r⟩:=push { cls:=.type "list_iterator",data:=.fields #[.ref t,.int 0 0] };exact⟨o',(hs₁.2 t hlt).trans e,r⟩
  refine wpAny_bind (wpAny_holding (wpAny_pyNext_list_end hh hit₁ ht₁ (by simp) fun h₂ he₂=>?_))
  simp only [Option.isSome_none,Bool.false_eq_true,if_false]
  refine wpAny_pure (hQ h₂ fun b o hb e=>he₂ b o hb (hs₁.extBut b o hb (Heap.get?_push_of_some _ e)))
theorem assign_Tuple_list{env:Env}{elts:List Expr}{x1}{pos:Pos}{t:Addr}{items:Array Value}{Q:Unit->Shared->Prop}(hh:A.handled=none)(ht:s.heap.IsList t items)
  (hn:(assignEach elts env).length=items.size) (hstar:(assignEach elts env).findIdx? (·.1)=none)
  (h:∀ h',Heap.ExtBut s.heap.objs.size s.heap h'->wpAny (model prog w) A (assignInOrder ((assignEach elts env).map (·.2)) items.toList) Q E { s with heap:=h' }) :
  wpAny (model prog w) A (assign (.Tuple elts x1 pos) env (.ref t)) Q E s:=by
 rw [assign_Tuple]
 refine wpAny_bind (wpAny_standAt ?_)
 unfold unpack
 rw [hn,hstar]
 exact wpAny_bind (wpAny_holding (unpackItems_list hh ht h))
end
section
variable {X:Cx}{tg iter e:Expr}{es:List Expr}{te:DTE}{tf:DTF}{p pos:Pos}
def dgSeq(n:Nat)(gs:DTGs):DTG:=fun d σ Q=>match d with
 | .tuple xs=>xs.length=n/\gs xs σ Q
 | .list xs=>xs.length=n/\gs xs σ Q
 | _=>False
theorem dg_seq{k:Nat}{is:List Nat}{gs:DTGs}{n:Nat}(hc:X.calm=true)(h:DGs X es is gs)(hn:(assignEach es X.env).length=n:=by rfl)(hst:(assignEach es X.env).findIdx? (·.1)=none:=by rfl):DG X (.Tuple es k pos) is (dgSeq n gs):=⟨fun pins s σ H H₀ σD v u d Q I ok r rp q=>by
 cases d with
 | tuple xs=>exact(dg_tup (k:=k) (pos:=pos) hc h hn hst).run pins s σ H H₀ σD v u _ Q I ok r rp q
 | list xs =>
  obtain⟨hl,q⟩:=q
  cases rp with
  | lst hq rr =>
   cases r
   obtain⟨its,rv,ht,hz⟩:=I.list (.inl (.inr ⟨_,hq⟩))
   refine assign_Tuple_list (I.ok.hd hc) ht.isList (by simp [hn,<-hl,<-rv.length,rr.length]) hst fun h' hx=>?_
   have I1:Inv X pins σ H { s with heap:=h' }:=I.kept (t':=s.toks) fun b o e=>hx b o (Nat.ne_of_lt (Heap.lt_size e)) e
   exact h.run pins _ σ H H₀ σD _ _ xs Q I1 ok (by simpa using rv) rr q
 | _=>exact q.elim⟩
variable {elt:Expr}{ifs:List Expr}{scope:Scope}{cl:List (Str×Addr)}{N' capt:List Str}{k:Nat}{js is:List Nat}{ti:DTF}{g:DTG}{tt:DTT}
theorem setLC_out{i:Nat}{x:Str}{pos' spos:Pos}(hN:X.N.Nodup)(hi':X.N[i]?=some x)(hx:Loc X.env.scope x)(hc:X.calm=true)(L:LCok X scope cl N' capt k js)
  (hi:DIw X tg iter ti) (hg:∀ C fp s2 H2,DG (cxLC X N' scope cl C fp s2 H2) tg is g) (ht:∀ C fp s2 H2,DTs (cxLC X N' scope cl C fp s2 H2) ifs tt) (he:∀ C fp s2 H2,DE (cxLC X N' scope cl C fp s2 H2) elt te)
  (his:∀ j∈is,j<k) (hsw:swapsWith (.ListComp elt [⟨tg,iter,ifs,0⟩] scope pos) (some (.Name x pos')) spos.line X.env=pure true) (hs:∀ x,foldedSetIterable iter X.env x=pure x) (hf:X.fn x=true\/X.env.scope.names.lookup x=some .local)
  {pins:List (Addr×Obj)} {s:Shared} {σ:St} {H H₀:Hp} {σD:DSt} {Q:List D->Prop} (I:Inv X pins σ H s) (ok:DOk X.K H₀ H σD σ) (q:dLC k js ti g tt te σD Q) :
  wpAny (model X.prog X.w) X.A (exec (.Assign [.Name x pos'] (.ListComp elt [⟨tg,iter,ifs,0⟩] scope pos) spos) X.env) (fun f s'=>f=.next/\∃ a H' vs xs,Inv X pins (σ.set i (some (.ref a))) H' s'/\Same H H'/\H a=none/\H' a=some (.lst vs)/\Reps X.K H' xs vs/\Q xs) X.xe s:=by
 refine thn (ps_setLC (wi:=cnI X.K Same ti) (g:=cnG X.K is g) (tt:=cnT X.K tt) (te:=cnE X.K te) hN hi' hx hc L hi.pi (fun C fp s2 H2=>(hg C fp s2 H2).pg) (fun C fp s2 H2=>(ht C fp s2 H2).pts) (fun C fp s2 H2=>(he C fp s2 H2).pe) hsw hs hf pins s σ H
  { nx:=fun σ' H'=>∃ a vs xs,σ'=σ.set i (some (.ref a))/\Same H H'/\H a=none/\H' a=some (.lst vs)/\Reps X.K H' xs vs/\Q xs,rt:=fun _ _=>False } I ?_) fun f s' z=>?_
 ·refine⟨H₀,σD,_,ok,q,fun J H1 ds s1 it q1 Dd hn=>?_⟩
  have z:=lc_turns (k:=k) (js:=js) (is:=is) (gL:=cnG X.K is g) (Dd:=Dd) (ok.after s1) it q1.1 (fun d v σ' H' Q σ0 ok0 r0 q0=>⟨H1,σ0,d,Q,ok0,r0,q0,fun σ2 σD2 l2 ok2 f2 q2=>⟨rfl,l2,f2,σD2,ok2,q2⟩⟩)
   (fun v σ' H' Q Q' m ⟨a,b,c,d,e1,e2,e3,e4⟩=>⟨a,b,c,d,e1,e2,e3,fun σ2 σD2 l o f q=>m _ _ (e4 σ2 σD2 l o f q)⟩) his hn q1.2
  obtain⟨W,w0,turn⟩:=z
  refine⟨W,w0,fun i m σ' H' w=>?_⟩
  rcases turn i m σ' H' w with⟨st,aa,vs,xs,e,sm,n,e2,r,qd⟩ | h
  ·exact .inl ⟨st,aa,vs,xs,by rw [e],s1.trans sm,s1.free n,e2,r,qd⟩
  ·exact .inr h
 ·cases f with
  | next=>obtain⟨σ',H',I',a,vs,xs,rfl,sm,n,e,r,q⟩:=z;exact⟨rfl,a,H',vs,xs,I',sm,n,e,r,q⟩
  | ret u=>obtain⟨_,_,_,_,_,z⟩:=z;exact z.elim
  | brk=>obtain⟨_,_,_,z⟩:=z;exact z.elim
  | cont=>obtain⟨_,_,_,z⟩:=z;exact z.elim
theorem ds_setLC{i:Nat}{x:Str}{pos' spos:Pos}(hN:X.N.Nodup)(hi':X.N[i]?=some x)(hx:Loc X.env.scope x)(hc:X.calm=true)(L:LCok X scope cl N' capt k js)
  (hi:DIw X tg iter ti) (hg:∀ C fp s2 H2,DG (cxLC X N' scope cl C fp s2 H2) tg is g) (ht:∀ C fp s2 H2,DTs (cxLC X N' scope cl C fp s2 H2) ifs tt) (he:∀ C fp s2 H2,DE (cxLC X N' scope cl C fp s2 H2) elt te)
  (his:∀ j∈is,j<k:=by decide) (hsw:swapsWith (.ListComp elt [⟨tg,iter,ifs,0⟩] scope pos) (some (.Name x pos')) spos.line X.env=pure true:=by rfl) (hs:∀ x,foldedSetIterable iter X.env x=pure x:=by intro _;rfl) (hf:X.fn x=true\/X.env.scope.names.lookup x=some .local:=by first | exact .inl rfl | exact .inr rfl | assumption) :
  DS X (.Assign [.Name x pos'] (.ListComp elt [⟨tg,iter,ifs,0⟩] scope pos) spos) (dSet i (dFz (dLC k js ti g tt te))):=⟨fun pins s σ H H₀ σD Dn I ok q=>by
 refine thn (setLC_out hN hi' hx hc L hi hg ht he his hsw hs hf I ok q) fun f s' ⟨ef,a,H',vs,xs,I',sm,n,e,r,qd⟩=>?_
 subst ef
 obtain⟨H'',J,sm',r'⟩:=freeze I' sm n e r
 exact⟨_,H'',_,J,(ok.after sm').setV r' i,sm'.pers,qd⟩⟩
inductive RepRs(K:PySem.W.Frag):Hp->Hp->List Ret->List V->Prop
 | nil {H H':Hp} (s:Same H H'):RepRs K H H' [] []
 | val {H H1 H':Hp} {d:D} {v:V} {rs:List Ret} {vs:List V} (s:Same H H1) (r:Rep K H1 d v) (t:RepRs K H1 H' rs vs):RepRs K H H' (.val d::rs) (v::vs)
 | new {H H1 H':Hp} {xs:List D} {a:Addr} {ws:List V} {rs:List Ret} {vs:List V} (s:Same H H1) (n:H a=none) (e:H1 a=some (.lst ws)) (r:Reps K H1 xs ws) (t:RepRs K H1 H' rs vs):RepRs K H H' (.new xs::rs) (.ref a::vs)
theorem RepRs.more{K:PySem.W.Frag}{H H':Hp}{rs:List Ret}{vs:List V}(h:RepRs K H H' rs vs){H2:Hp}(s2:Same H' H2):RepRs K H H2 rs vs:=by
 induction h with
 | nil s=>exact .nil (s.trans s2)
 | val s r _ ih=>exact .val s r (ih s2)
 | new s n e r _ ih=>exact .new s n e r (ih s2)
theorem RepRs.length{K:PySem.W.Frag}{H H':Hp}{rs:List Ret}{vs:List V}(h:RepRs K H H' rs vs):rs.length=vs.length:=by
 induction h with
 | nil s=>rfl
 | val s _ _ ih=>simp [ih]
 | new s _ _ _ _ ih=>simp [ih]
def Ret.w:Ret->W
 | .val d=>.val d
 | .new xs=>.own (.lst xs)
def setVs:List Nat->List V->St->St
 | i::is,v::vs,σ=>setVs is vs (σ.set i (some v))
 | _,_,σ=>σ
abbrev DTM:=DSt->(List Ret->Prop)->Prop
structure DM(X:Cx)(es:List Expr)(t:DTM):Prop where
 run:∀(pos:Pos) (pins:List (Addr×Obj)) (s:Shared) (σ:St) (H H₀:Hp) (σD:DSt) (Q:List Ret->Prop),Inv X pins σ H s->DOk X.K H₀ H σD σ->t σD Q ->
  wpAny (model X.prog X.w) X.A (spliced (backTo pos (starEach es X.env))) (fun us s'=>∃ vs H' rs,Inv X pins σ H' s'/\Vals vs us/\RepRs X.K H H' rs vs/\Q rs) X.xe s
structure DGN(X:Cx)(es:List Expr)(is:List Nat):Prop where
 pgs:PGs X es (fun vs σ H Q=>vs.length=is.length/\Q (setVs is vs σ) H)
section
variable {pins:List (Addr×Obj)}{σ:St}{H:Hp}{s:Shared}
mutual
theorem RepN.reads(I:Inv X pins σ H s):∀{d:D} {v:V} {u:Value},RepN X.K H d v->RelV v u->∃ as,Reads s.heap u d as
 | _,_,_,.non,r=>by cases r;exact⟨_,.none⟩
 | _,_,_,.bl,r=>by cases r;exact⟨_,.bool _⟩
 | _,_,_,.int,r=>by obtain⟨t,rfl⟩:=r;exact⟨_,.int _ _⟩
 | _,_,_,.str,r=>by obtain⟨t,rfl⟩:=r;exact⟨_,.str _ _⟩
 | _,_,_,.tup h q,r=>by
  cases r
  obtain⟨its,rv,⟨o,e1,e2,n,e3⟩,_⟩:=I.tuple h
  obtain⟨as,ra⟩:=RepNs.reads I q rv
  exact⟨_,.tuple e1 e2 e3 (by simpa using ra)⟩
 | _,_,_,.lst h q,r=>by
  cases r
  obtain⟨z,its,n,rv,e⟩:=h.ok I.hok
  obtain⟨as,ra⟩:=RepNs.reads I q rv
  exact⟨_,.list e rfl rfl (by simpa using ra)⟩
theorem RepNs.reads(I:Inv X pins σ H s):∀{ds:List D} {vs:List V} {us:List Value},RepNs X.K H ds vs->Vals vs us->∃ as,ReadsAll s.heap us ds as
 | _,_,_,.nil,r=>by cases r;exact⟨_,.nil⟩
 | _,_,_,.cons q t,r=>by
  cases r with
  | cons r1 r2 =>
   obtain⟨as,ra⟩:=RepN.reads I q r1
   obtain⟨bs,rb⟩:=RepNs.reads I t r2
   exact⟨_,.cons ra rb⟩
end
end
def DEndN(X:Cx)(pins:List (Addr×Obj))(σ:St)(H:Hp)(Q:D->Prop)(u:Value)(s':Shared):Prop:=∃ v H' d,Inv X pins σ H' s'/\RelV v u/\Same H H'/\RepN X.K H' d v/\Q d
structure DN(X:Cx)(e:Expr)(t:DTE):Prop where
 run:∀(pins:List (Addr×Obj)) (s:Shared) (σ:St) (H H₀:Hp) (σD:DSt) (Q:D->Prop),Inv X pins σ H s->DOk X.K H₀ H σD σ->t σD Q->wpAny (model X.prog X.w) X.A (eval e X.env) (DEndN X pins σ H Q) X.xe s
structure DAn(X:Cx)(es:List Expr)(t:DTF):Prop where
 run:∀(pos:Pos) (pins:List (Addr×Obj)) (s:Shared) (σ:St) (H H₀:Hp) (σD:DSt) (Q:List D->Prop),Inv X pins σ H s->DOk X.K H₀ H σD σ->t σD Q ->
  wpAny (model X.prog X.w) X.A (spliced (backTo pos (starEach es X.env))) (fun us s'=>∃ vs H' ds,Inv X pins σ H' s'/\Vals vs us/\Same H H'/\RepNs X.K H' ds vs/\Q ds) X.xe s
def cnN(K:PySem.W.Frag)(t:DTE):TE:=fun σ H Q=>∃ H₀ σD QD,DOk K H₀ H σD σ/\t σD QD/\∀ v H' d,Same H H'->RepN K H' d v->QD d->Q v H'
def cnAn(K:PySem.W.Frag)(t:DTF):TA:=fun σ H Q=>∃ H₀ σD QD,DOk K H₀ H σD σ/\t σD QD/\∀ vs H' ds,Same H H'->RepNs K H' ds vs->QD ds->Q vs H'
theorem DN.pe{t:DTE}(h:DN X e t):PE X e (cnN X.K t):=fun pins s σ H Q I ⟨H₀,σD,QD,ok,q,k⟩=>thn (h.run pins s σ H H₀ σD QD I ok q) fun u s' ⟨v,H',d,I',r,sm,rp,qd⟩=>⟨v,H',I',r,k v H' d sm rp qd⟩
theorem DAn.pa{t:DTF}(h:DAn X es t):PA X es (cnAn X.K t):=fun pos pins s σ H Q I ⟨H₀,σD,QD,ok,q,k⟩=>thn (h.run pos pins s σ H H₀ σD QD I ok q) fun us s' ⟨vs,H',ds,I',r,sm,rp,qd⟩=>⟨vs,H',I',r,k vs H' ds sm rp qd⟩
theorem DN.of{t:DTE}{t':TE}(h:PE X e t')(k:∀ σ H H₀ σD QD,DOk X.K H₀ H σD σ->t σD QD->t' σ H (fun v H'=>∃ d,Same H H'/\RepN X.K H' d v/\QD d)):DN X e t :=
 ⟨fun pins s σ H H₀ σD Q I ok q=>thn (h pins s σ H _ I (k σ H H₀ σD Q ok q)) fun u s' ⟨v,H',I',r,d,sm,rp,qd⟩=>⟨v,H',d,I',r,sm,rp,qd⟩⟩
def dLay(t:DTE):DTE:=fun σ Q=>t σ fun d=>d.canLay0=true/\Q d
theorem nodict{d:D}(c:d.canLay0=true):∀ kvs,d ≠ .dict kvs:=fun kvs e=>by subst e;simp [PyData.canLay0] at c
theorem DE.dn{t:DTE}(h:DE X e t):DN X e (dLay t):=⟨fun pins s σ H H₀ σD Q I ok q=>thn (h.run pins s σ H H₀ σD _ I ok q) fun u s' ⟨v,H',d,I',r,sm,rp,qd⟩=>⟨v,H',d,I',r,sm,rp.now (nodict qd.1) qd.1,qd.2⟩⟩
def dNowV(i:Nat):DTE:=fun σ Q=>match σ[i]? with
 | some (some (.val d))=>d.canLay0=true/\Q d
 | some (some (.own (.lst xs)))=>PyData.canLayAll0 xs=true/\Q (.list xs)
 | some (some (.vw xs))=>PyData.canLayAll0 xs=true/\Q (.list xs)
 | some (some (.tmp d))=>Q d
 | _=>False
theorem dn_var(i:Nat){x:Str}{pos:Pos}(hN:X.N[i]?=some x:=by rfl)(hv:Vis X.env.scope x:=by first | exact Or.inl rfl | exact Or.inr (Or.inl rfl) | exact Or.inr (Or.inr rfl))(hd:(x == ("__debug__" : Str))=false:=by decide)
  (hcd:(x == ("__classdict__" : Str))=false:=by decide):DN X (.Name x pos) (dNowV i):=by
 refine DN.of (pe_var (i:=i) hN hv hd hcd) fun σ H H₀ σD QD ok q=>?_
 unfold dNowV at q
 split at q
 ·next d e =>
  obtain⟨v,e1,r⟩:=ok.val e
  exact⟨v,e1,d,Same.refl _,r.now (nodict q.1) q.1,q.2⟩
 ·next xs e =>
  obtain⟨a,vs,e1,e2,r,_⟩:=ok.ownL e
  exact⟨.ref a,e1,.list xs,Same.refl _,.lst (.inl e2) (r.now q.1),q.2⟩
 ·next xs e =>
  obtain⟨v,e1,a,vs,rfl,e2,r⟩:=ok.vw e
  exact⟨.ref a,e1,.list xs,Same.refl _,.lst e2 (r.now q.1),q.2⟩
 ·next d e =>
  obtain⟨v,e1,r⟩:=ok.tmp e
  exact⟨v,e1,d,Same.refl _,r,q⟩
 ·exact q.elim
theorem dan_nil:DAn X [] dNil:=⟨fun pos pins s σ H H₀ σD Q I ok q=>thn (pa_nil pos pins s σ H (fun vs H'=>vs = []/\H'=H) I ⟨rfl,rfl⟩) fun us s' ⟨vs,H',I',r,e1,e2⟩=>by subst e1 e2;exact⟨[],H',[],I',r,Same.refl _,.nil,q⟩⟩
theorem dan_cons{t:DTE}{r:DTF}(ha:DN X e t)(hr:DAn X es r)(hs:starEach (e::es) X.env=(false,eval e X.env)::starEach es X.env:=by rfl):DAn X (e::es) (dCons t r):=⟨fun pos pins s σ H H₀ σD Q I ok q=>by
 refine thn (pa_cons ha.pe hr.pa hs pos pins s σ H (fun vs H'=>∃ ds,Same H H'/\RepNs X.K H' ds vs/\Q ds) I ?_) fun us s' ⟨vs,H',I',r,ds,sm,rp,qd⟩=>⟨vs,H',ds,I',r,sm,rp,qd⟩
 exact⟨H₀,σD,_,ok,q,fun v H1 d s1 r1 q1=>⟨H₀,σD,_,ok.after s1,q1,fun vs H2 ds s2 r2 q2=>⟨d::ds,s1.trans s2,.cons (r1.same s2) r2,q2⟩⟩⟩⟩
theorem RepNs.length{K:PySem.W.Frag}{H:Hp}:∀{ds:List D} {vs:List V},RepNs K H ds vs->ds.length=vs.length
 | _,_,.nil=>rfl
 | _,_,.cons _ t=>by simp [t.length]
end
section
variable {X:Cx}{tg iter e:Expr}{es:List Expr}{te:DTE}{tf:DTF}{p pos:Pos}
end
section
variable {prog:Program}{w:World}{A:Around}{E:Value->Shared->Prop}{s:Shared}
end
section
variable {X:Cx}{a:Expr}{t:DTF}{p pos:Pos}
end
theorem lcD_all{f:D->(Option D->Prop)->Prop}(Pv:D->D->Prop):∀{ds:List D} {Q:List D->Prop},(∀ d∈ds,∀ k:Option D->Prop,(∀ y,Pv d y->k (some y))->f d k)->(∀ ys,Paired Pv ds ys->Q ys)->lcD f ds Q
 | [],Q,_,q=>q [] .nil
 | d::ds,Q,h,q=>h d List.mem_cons_self _ fun y hy=>lcD_all Pv (fun e he=>h e (List.mem_cons_of_mem _ he)) fun ys hys=>q (y::ys) (.cons hy hys)
theorem lcD_fmT{α:Type}{f:D->(Option D->Prop)->Prop}(enc:α->D)(F:α->Option D){as:List α}{Q:List D->Prop}(h:∀ a∈as,∀ k:Option D->Prop,k (F a)->f (enc a) k)(q:Q (as.filterMap F)):lcD f (as.map enc) Q:=by
 induction as generalizing Q with
 | nil=>exact q
 | cons a as ih =>
  refine h a List.mem_cons_self _ (ih (fun e he=>h e (List.mem_cons_of_mem _ he)) ?_)
  rw [List.filterMap_cons] at q
  cases e:F a with
  | none=>rw [e] at q;exact q
  | some y=>rw [e] at q;exact q
theorem lcD_mapT{α:Type}{f:D->(Option D->Prop)->Prop}(enc:α->D)(F:α->D){as:List α}{Q:List D->Prop}(h:∀ a∈as,∀ k:Option D->Prop,k (some (F a))->f (enc a) k)(q:Q (as.map F)):lcD f (as.map enc) Q :=
 lcD_fmT enc (fun a=>some (F a)) h (by rw [List.filterMap_eq_map'];exact q)
theorem mem_enc{α:Type}{Pv:α->Prop}{enc:α->D}:∀{ys:List D},(∀ y∈ys,∃ a,y=enc a/\Pv a)->∃ as:List α,ys=as.map enc/\∀ a∈as,Pv a
 | [],_=>⟨[],rfl,fun a ha=>by cases ha⟩
 | y::ys,h=>by
  obtain⟨a,rfl,pa⟩:=h y List.mem_cons_self
  obtain⟨as,rfl,pas⟩:=mem_enc fun z hz=>h z (List.mem_cons_of_mem _ hz)
  exact⟨a::as,rfl,fun b hb=>by rcases List.mem_cons.mp hb with rfl | hb;exact pa;exact pas b hb⟩
theorem atI_zero{α:Type}(x:α)(xs:List α):atI (x::xs) 0=some x:=by
 have:=atI_nat (xs:=x::xs) (j:=0) (v:=x) rfl
 simpa using this
theorem atI_one{α:Type}(x y:α)(xs:List α):atI (x::y::xs) 1=some y:=by
 have:=atI_nat (xs:=x::y::xs) (j:=1) (v:=y) rfl
 simpa using this
theorem pickD{xs:List D}{k:Int}{Q:D->Prop}(h0:0<=k)(h1:k<xs.length)(h:∀ x∈xs,Q x):∃ d,atI xs k=some d/\Q d:=by
 obtain⟨v,e,m⟩:=atI_ex h0 h1
 exact⟨v,e,h v m⟩
theorem sliceD_map{α:Type}(enc:α->D)(xs:List α)(lo hi:Option Int):∃ ys:List α,sliceD (xs.map enc) lo hi=ys.map enc/\(∀ y∈ys,y∈xs)/\ys.length<=xs.length:=by
 refine⟨(xs.drop (HT.sIx xs.length 0 lo)).take (HT.sIx xs.length xs.length hi-HT.sIx xs.length 0 lo),?_,fun y hy=>List.mem_of_mem_drop (List.mem_of_mem_take hy),?_⟩
 ·unfold sliceD
  rw [List.length_map,List.map_take,List.map_drop]
 ·rw [List.length_take,List.length_drop];omega
structure Sh(d:D)(n k:Nat):Prop where
 can:d.canLay0=true
 sho:d.showable=true
 dep:d.depth<=k
 len:d.shown.length<=n
theorem Sh.mono{d:D}{n k n' k':Nat}(h:Sh d n k)(h1:n<=n')(h2:k<=k'):Sh d n' k':=⟨h.can,h.sho,Nat.le_trans h.dep h2,Nat.le_trans h.len h1⟩
theorem Sh.none:Sh .none 4 0:=⟨rfl,rfl,Nat.le_refl _,Nat.le_of_ble_eq_true rfl⟩
theorem Sh.bool{b:Bool}:Sh (.bool b) 5 0:=⟨rfl,rfl,Nat.le_refl _,by cases b <;> exact Nat.le_of_ble_eq_true rfl⟩
theorem log_lt{i:Int}(h:i.natAbs<10 ^ 40):i.natAbs.log2<1920:=by
 by_cases h0:i.natAbs=0
 ·rw [h0];decide
 ·exact(Nat.log2_lt h0).mpr (Nat.lt_of_lt_of_le h (Nat.le_trans (by decide:10 ^ 40<=2 ^ 200) (Nat.pow_le_pow_right (by decide) (by decide))))
theorem Sh.int{i:Int}(h:i.natAbs<10 ^ 40):Sh (.int i) 41 0 :=
 ⟨rfl,by simp only [PyData.showable];exact decide_eq_true (log_lt h),Nat.le_refl _,by
  have:=int_text_length_le10 (a:=i) (k:=40) (by decide) h
  simp only [PyData.shown]
  show(Str.ofString (toString i)).length<=41
  rw [PySem.ofString_length]
  exact this⟩
theorem Sh.intB{i:Int}(h1 : -1000000000000000000000000000000000000000<=i)(h2:i<=1000000000000000000000000000000000000000):Sh (.int i) 41 0:=Sh.int (by omega)
theorem shAll_can:∀{xs:List D} {n k:Nat},(∀ x∈xs,Sh x n k)->PyData.canLayAll0 xs=true
 | [],_,_,_=>rfl
 | x::xs,n,k,h=>by simp only [PyData.canLayAll0,(h x List.mem_cons_self).can,shAll_can fun y hy=>h y (List.mem_cons_of_mem _ hy),Bool.and_self]
theorem shAll_sho:∀{xs:List D} {n k:Nat},(∀ x∈xs,Sh x n k)->PyData.showableAll xs=true
 | [],_,_,_=>rfl
 | x::xs,n,k,h=>by simp only [PyData.showableAll,(h x List.mem_cons_self).sho,shAll_sho fun y hy=>h y (List.mem_cons_of_mem _ hy),Bool.and_self]
theorem shAll_dep:∀{xs:List D} {n k:Nat},(∀ x∈xs,Sh x n k)->PyData.depthAll xs<=k
 | [],_,_,_=>Nat.zero_le _
 | x::xs,n,k,h=>by
  simp only [PyData.depthAll]
  exact Nat.max_le.mpr ⟨(h x List.mem_cons_self).dep,shAll_dep fun y hy=>h y (List.mem_cons_of_mem _ hy)⟩
theorem shAll_len:∀{xs:List D} {n k:Nat},(∀ x∈xs,Sh x n k)->((PyData.shownAll xs).map (·.length)).sum<=xs.length * n
 | [],_,_,_=>by simp [PyData.shownAll]
 | x::xs,n,k,h=>by
  simp only [PyData.shownAll,List.map_cons,List.sum_cons,List.length_cons]
  have h1:=(h x List.mem_cons_self).len
  have h2:=shAll_len fun y hy=>h y (List.mem_cons_of_mem _ hy)
  rw [Nat.succ_mul]
  omega
theorem shownAll_length:∀ xs:List D,(PyData.shownAll xs).length=xs.length
 | []=>rfl
 | x::xs=>by simp only [PyData.shownAll,List.length_cons,shownAll_length xs]
theorem Sh.lst{xs:List D}{n k m:Nat}(h:∀ x∈xs,Sh x n k)(hl:xs.length<=m):Sh (.list xs) (m * (n+2)+3) (k+1) where
 can:=by simpa [PyData.canLay0] using shAll_can h
 sho:=by simpa [PyData.showable] using shAll_sho h
 dep:=by simp only [PyData.depth];have:=shAll_dep h;omega
 len:=by
  simp only [PyData.shown]
  have h1:=listText_len_le (PyData.shownAll xs)
  have h2:=shAll_len h
  rw [shownAll_length] at h1
  have h3:xs.length * (n+2)<=m * (n+2):=Nat.mul_le_mul_right _ hl
  rw [Nat.mul_add] at h3
  omega
theorem Sh.tup{xs:List D}{n k m:Nat}(h:∀ x∈xs,Sh x n k)(hl:xs.length<=m):Sh (.tuple xs) (m * (n+2)+3) (k+1) where
 can:=by simpa [PyData.canLay0] using shAll_can h
 sho:=by simpa [PyData.showable] using shAll_sho h
 dep:=by simp only [PyData.depth];have:=shAll_dep h;omega
 len:=by
  simp only [PyData.shown]
  have h1:=tupleText_len_le (PyData.shownAll xs)
  have h2:=shAll_len h
  rw [shownAll_length] at h1
  have h3:xs.length * (n+2)<=m * (n+2):=Nat.mul_le_mul_right _ hl
  rw [Nat.mul_add] at h3
  omega
theorem Sh.lay{d:D}{n k:Nat}(h:Sh d n k)(hk:k<=64):Lay d:=by
 unfold Lay SeqAt.shaped
 rw [Bool.and_eq_true]
 exact⟨h.can,decide_eq_true (Nat.le_trans h.dep hk)⟩
theorem Sh.all{d:D}{n k:Nat}(h:Sh d n k)(hk:k<=64)(hn:n<=16777216):Lay d/\d.showable=true/\d.shown.length<=sizeLine:=⟨h.lay hk,h.sho,Nat.le_trans h.len (by rw [sizeLine_eq];exact hn)⟩
theorem Lay.int(i:Int):Lay (.int i):=rfl
theorem Lay.none:Lay .none:=rfl
theorem Lay.bool(b:Bool):Lay (.bool b):=rfl
theorem lay_ints(ns:List Int):Lay (.list (ns.map PyData.int)):=by
 have h:∀ ns:List Int,PyData.canLayAll0 (ns.map PyData.int)=true/\PyData.depthAll (ns.map PyData.int)=0:=fun ns=>by
  induction ns with
  | nil=>exact⟨rfl,rfl⟩
  | cons n ns ih=>simp [PyData.canLayAll0,PyData.depthAll,PyData.canLay0,PyData.depth,ih.1,ih.2]
 unfold Lay SeqAt.shaped
 simp [PyData.canLay0,PyData.depth,(h ns).1,(h ns).2]
theorem drawI{m:Int}{Q:Ret->Prop}(h1:0<m)(h2:m<10000000000000000000000000000000000000000000000000000000000000)(q:∀ v:Int,0<=v->v<m->Q (.val (.int v))):sp__law_draw [.pen,.val (.int m)] Q:=⟨m,rfl,h1,h2,q⟩
theorem mem_two{α:Type}{p:α->Prop}{a:α}{l:List α}(h:p a)(t:∀ y∈l,p y):∀ y∈a::l,p y:=fun y hy=>(List.mem_cons.mp hy).elim (fun e=>by rw [e];exact h) (t y)
theorem mem_no{α:Type}{p:α->Prop}:∀ y∈([]:List α),p y:=fun y hy=>by cases hy
section
variable {X:Cx}
theorem de_dic0{pos:Pos}:DE X (.Dict [] [] pos) (dC (.dict [])):=⟨fun pins s σ H H₀ σD Q I ok q=>thn (pe_dnew pins s σ H (fun v H'=>∃ p,v=.ref p/\H p=none/\H'=upd H p (.dK [])) I (fun p hp=>⟨p,rfl,hp,rfl⟩)) fun u s' ⟨v,H',I',r,p,e1,hp,e2⟩=>by
 subst e1 e2
 obtain⟨o,J⟩:=I'.frzK (vs:=[]) upd_same
 exact⟨.ref p,_,.dict [],J,r,fun b z hb=>by rw [upd_ne (ne_of_none hb hp),upd_ne (ne_of_none hb hp)];exact hb,.dic upd_same .nil,q⟩⟩
end
section
variable {X:Cx}
end
end L2
set_option maxHeartbeats 4000000
namespace PySem
section
variable {prog:Program}{w:World}{A:Around}{R:Result->Shared->Prop}{I:Addr}{fp wr:List Addr}{n:Nat}{P:Nat->Value->Prop}{St:Nat->Heap->Prop}
end
section
variable {prog:Program}{w:World}{A:Around}{E:Value->Shared->Prop}{s:Shared}{l:Addr}{its:Array Value}{d:Value}
end
section
variable {prog:Program}{w:World}{A:Around}{R:Result->Shared->Prop}{I:Addr}{fp wr:List Addr}{n:Nat}{P:Nat->Value->Prop}{St:Nat->Heap->Prop}
end
section
variable {prog:Program}{w:World}{A:Around}{E:Value->Shared->Prop}{s:Shared}{l:Addr}{its:Array Value}{d:Value}
end
end PySem
namespace L2
open PySem PySem.Spec PyProof.Rows
section
variable {X:Cx}{a d e:Expr}{ta:DTF}{td te:DTE}{p pos kp:Pos}
def dRevA(te:DTE):DTE:=fun σ Q=>te σ fun d=>match d with
 | .list xs=>Q (.list xs.reverse)
 | .tuple xs=>Q (.tuple xs.reverse)
 | _=>False
theorem pe_revA{te:TE}{p2 p3 p4:Pos}{j}(he:PE X e te):PE X (.Subscript e (.Slice none none (some (.UnaryOp .USub (.Constant (.int 1) j p3) p4)) p2) pos) (fun σ H Q=>te σ H fun x H1=>(∃ l xs,x=.ref l/\SqL X.K H1 l xs/\∀ p,H1 p=none->Q (.ref p) (upd H1 p (.lst xs.reverse)))\/∃ l xs,x=.ref l/\SqT X.K H1 l xs/\∀ p,H1 p=none->Q (.ref p) (upd H1 p (.tup xs.reverse))):=by
 intro pins s σ H Q I h
 refine Subscript_ (thn (he pins s σ H _ I h) fun v s1 ⟨x,H1,I1,r1,q1⟩=>?_)
 refine wpAny_Slice ?_
 rw [evalPart_none]
 refine wpAny_pure (wpAny_pure ?_)
 rw [evalPart_some]
 refine thn (pe_un un_neg pe_int pins s1 σ H1 (fun z H=>z=.int (-1)/\H=H1) I1 ⟨1,rfl,rfl,rfl⟩) fun u s2 ⟨z,H2,I2,r2,e1,e2⟩=>?_
 subst e1 e2
 obtain⟨tk,rfl⟩:=r2
 have I4:Inv X pins σ H2 { s2 with heap:=s2.heap.push { cls:=.type "slice",data:=.fields #[.none,.none,.int (-1) tk] } }:=I2.kept (t':=s2.toks) fun b ob q=>Heap.get?_push_of_some _ q
 rcases q1 with⟨l,xs,rfl,hx,q⟩ | ⟨l,xs,rfl,hx,q⟩
 ·cases r1
  obtain⟨its,r,pl,hz⟩:=I4.list hx
  have hlen:its.toArray.size=xs.length:=by rw [List.size_toArray];exact r.length.symm
  refine tail_any (ops:=[.ref l,.ref s2.heap.objs.size]) pl.isList.typeIs list_getitem_lookup (wpAny_getItem_list_slice (lo:=none) (hi:=none) (st:=some (-1)) pl.isList (Heap.IsSliceOf.new ..) .none .none (.int _ _) (by decide) ?_ (by rw [hlen];exact hz)) (by with_unfolding_all rfl)
  rw [PySem.W.krv_pick]
  refine⟨.ref _,_,I4.laid (t':=s2.toks) (o:=.lst xs.reverse) (fun b ob q=>Heap.get?_push_of_some _ q) (Nat.le_refl _) ?_,rfl,q _ (I4.hok.fresh (Nat.le_refl _))⟩
  exact⟨by rw [List.length_reverse];exact hz,its.reverse,0,r.reverse,Heap.get?_push_size _ rfl⟩
 ·cases r1
  obtain⟨its,r,ht,hz⟩:=I4.tuple hx
  have hlen:its.toArray.size=xs.length:=by rw [List.size_toArray];exact r.length.symm
  refine tail_any (ops:=[.ref l,.ref s2.heap.objs.size]) ht.typeIs PyProof.Rows.slot_tuple_getitem.lookup (tup_rev ht (Heap.IsSliceOf.new ..) (by rw [hlen];exact hz) ?_) (by with_unfolding_all rfl)
  refine⟨.ref _,_,I4.laid (t':=s2.toks) (o:=.tup xs.reverse) (fun b ob q=>Heap.get?_push_of_some _ q) (Nat.le_refl _) ?_,rfl,q _ (I4.hok.fresh (Nat.le_refl _))⟩
  exact⟨by rw [List.length_reverse];exact hz,_,r.reverse,TupD.new _ _⟩
theorem de_revA{p2 p3 p4:Pos}{j}(he:DV X e te):DE X (.Subscript e (.Slice none none (some (.UnaryOp .USub (.Constant (.int 1) j p3) p4)) p2) pos) (dRevA te):=⟨fun pins s σ H H₀ σD Q I ok q=>by
 refine thn (pe_revA he.pe pins s σ H (fun v H'=>(∃ vs xs a,v=.ref a/\Same H H'/\H a=none/\H' a=some (.lst vs)/\Reps X.K H' xs vs/\Q (.list xs))\/∃ d,Same H H'/\Rep X.K H' d v/\Q d) I ?_) fun u s' ⟨v,H',I',r,z⟩=>?_
 ·refine⟨H₀,σD,_,ok,q,fun v H1 d s1 r1 q1=>?_⟩
  cases d with
  | list xs =>
   obtain⟨b,vs,rfl,hb,r⟩:=r1.list.sq
   exact .inl ⟨b,vs,rfl,hb,fun p hp=>.inl ⟨_,_,p,rfl,s1.trans (same_new hp _),s1.free hp,upd_same,r.reverse.same (same_new hp _),q1⟩⟩
  | tuple xs =>
   obtain⟨b,vs,rfl,hb,r⟩:=r1.tuple
   exact .inr ⟨b,vs,rfl,hb,fun p hp=>.inr ⟨_,s1.trans (same_new hp _),.tup (SqT.of upd_same) (r.reverse.same (same_new hp _)),q1⟩⟩
  | _=>exact q1.elim
 ·rcases z with⟨vs,xs,a,rfl,sm,n,e,rp,qd⟩ | ⟨d,sm,rp,qd⟩
  ·cases r
   obtain⟨H2,J,sm2,rp2⟩:=freeze I' sm n e rp
   exact⟨.ref a,H2,_,J,rfl,sm2,rp2,qd⟩
  ·exact⟨v,H',d,I',r,sm,rp,qd⟩⟩
end
theorem atI_end{α:Type}(xs:List α)(x:α):atI (xs ++ [x]) (-1)=some x:=atI_last xs x
theorem rangeD_len(lo:Int)(n:Nat):(rangeD lo n).length=n:=by simp [rangeD]
theorem forD_all{g:DTG}{tb:DTS}{Dn:DEnds}{ds:List D}{σ:DSt}(S:DSt->Prop)(h0:S σ)(hs:∀ d∈ds,∀ σ (N:DSt->Prop),S σ->(∀ σ',S σ'->N σ')->g d σ fun σ2=>tb { Dn with nx:=N,ct:=N,bk:=Dn.nx } σ2)(hd:∀ σ,S σ->Dn.nx σ):forD g tb Dn ds σ:=by
 refine forD_suf (fun ds' σ=>(∀ d∈ds',d∈ds)/\S σ) ?_ (fun σ h=>hd σ h.2) ⟨fun _ h=>h,h0⟩
 rintro d ds' σ N ⟨h1,h2⟩ k
 exact hs d (h1 d List.mem_cons_self) σ N h2 fun σ' h'=>k σ' ⟨fun x hx=>h1 x (List.mem_cons_of_mem _ hx),h'⟩
def gReprA:D->(D->Prop)->Prop
 | .bool b,Q=>Q (.str (if b=true then "True" else "False"))
 | d,Q=>Lay d/\d.showable=true/\d.shown.length<=sizeLine/\Q (.str d.shown)
def dReprA(t:DTF):DTE:=fun σ Q=>t σ fun ds=>match ds with
 | [d]=>gReprA d Q
 | _=>False
section
variable {X:Cx}{e:Expr}{p pos:Pos}
theorem de_reprA{k:Nat}{t:DTF}(hr:Room k X.A)(hg:Gl X "repr")(hm:X.mg "repr" = none)(hv:bootBuiltins "repr" = some (.builtin "repr"))(ha:DAn X [e] t)(he:starEach [e] X.env=(false,eval e X.env)::starEach [] X.env:=by rfl):DE X (.Call (.Name "repr" p) [e] [] pos) (dReprA t):=by
 have hc:CallR X (.builtin "repr") (fun vs H Q=>∃ d v,vs = [v]/\RepN X.K H d v/\gReprA d fun r=>∃ x,r=.str x/\∀ H',H'=H->Q (.str x) H'):=fun pins s σ H xs us Q I rv ⟨d,v,e,r,q⟩=>by
  subst e
  obtain⟨u,rfl,r1⟩:=rv.one
  have gen:Lay d->d.showable=true->d.shown.length<=sizeLine->Q (.str d.shown) H->(∃ a,u=.ref a)->wpAny (model X.prog X.w) X.A (call (.builtin "repr") [u]) (EP X pins σ Q) X.xe s:=fun h1 h2 h3 h4 ⟨a,ea⟩=>by
   subst ea
   obtain⟨as,rd⟩:=r.reads I r1
   have hu:=hr.un
   have hd:=h1.deep
   refine repr_of_reads' rd h2 (PyData.noDict_hsm ?_) hr.gd (by omega) (fun _ _ e=>e) (fun h' u tk hk=>⟨.str d.shown,H,I.kept hk,⟨_,rfl⟩,h4⟩) h3
   exact PyData.hasDict_of_canLay _ h1.can
  cases r with
  | bl =>
   cases r1
   obtain⟨x,e,q⟩:=q
   cases e
   exact PySem.P.repr_of_bool ⟨.str _,H,I.tok _,⟨_,rfl⟩,q H rfl⟩
  | non =>
   cases r1
   obtain⟨_,_,_,x,e,q⟩:=q
   cases e
   exact PySem.P.repr_of_none ⟨.str _,H,I.tok _,⟨_,rfl⟩,q H rfl⟩
  | int =>
   obtain⟨t,rfl⟩:=r1
   obtain⟨_,h2,_,x,e,q⟩:=q
   cases e
   exact PySem.P.repr_of_int (of_decide_eq_true (by simpa [PyData.showable] using h2)) ⟨.str _,H,I.tok _,⟨_,rfl⟩,q H rfl⟩
  | str =>
   obtain⟨t,rfl⟩:=r1
   obtain⟨_,_,h3,x,e,q⟩:=q
   cases e
   exact PySem.P.repr_of_str ⟨.str _,H,I.tok _,⟨_,rfl⟩,q H rfl⟩ h3
  | tup h r =>
   obtain⟨h1,h2,h3,x,e,q⟩:=q
   cases e
   exact gen h1 h2 h3 (q H rfl) ⟨_,by cases r1;rfl⟩
  | lst h r =>
   obtain⟨h1,h2,h3,x,e,q⟩:=q
   cases e
   exact gen h1 h2 h3 (q H rfl) ⟨_,by cases r1;rfl⟩
 refine DE.of (pe_callB hc hg hm hv ha.pa (by decide) (by decide) he rfl) fun σ H H₀ σD QD ok q=>⟨H₀,σD,_,ok,q,fun vs H1 ds s1 r1 q1=>?_⟩
 match ds,r1,q1 with
 | [d],r1,q1 =>
  cases r1 with
  | cons r t =>
   cases t
   refine⟨d,_,rfl,r,?_⟩
   cases d with
   | bool b=>exact⟨_,rfl,fun H' e=>⟨_,by subst e;exact s1,.str,q1⟩⟩
   | _=>exact⟨q1.1,q1.2.1,q1.2.2.1,_,rfl,fun H' e=>⟨_,by subst e;exact s1,.str,q1.2.2.2⟩⟩
end
end L2
namespace SQ
open PySem PyProof.Rows
set_option autoImplicit false
section
variable (prog:Program)(w:World)(A:Around)(s:Shared)(κ:KeyKind)(kd:SortKind)
def LtOk:Prop:=∀(E:Value->Shared->Prop) (x y:Value) (a b:κ.α) (Q:Bool->Shared->Prop),κ.keyOf x=some a->κ.keyOf y=some b->Q (κ.blt a b) s->wpAny (model prog w) A (keyLt' kd x y) Q E s
end
structure SG(kd:SortKind)(a₀:Array Keyed)(st:SortSt):Prop where
 perm:(arrOf st).Perm a₀
 kind:kindOf st=kd
 fail:failedOf st=none
theorem SG.sz{kd:SortKind}{a₀:Array Keyed}{st:SortSt}(g:SG kd a₀ st):(arrOf st).size=a₀.size:=g.perm.size_eq
theorem SG.arr{kd:SortKind}{a₀:Array Keyed}{st:SortSt}(g:SG kd a₀ st){xs:Array Keyed}(p:xs.Perm (arrOf st)):SG kd a₀ (setArr st xs):=⟨p.trans g.perm,g.kind,g.fail⟩
structure Mv(lo hi:Nat)(st st':SortSt):Prop where
 out:∀ k,(k<lo\/hi<=k)->(arrOf st')[k]?=(arrOf st)[k]?
 pend:pendingOf st'=pendingOf st
theorem Mv.refl(lo hi:Nat)(st:SortSt):Mv lo hi st st:=⟨fun _ _=>rfl,rfl⟩
theorem Mv.trans{lo hi:Nat}{a b c:SortSt}(h1:Mv lo hi a b)(h2:Mv lo hi b c):Mv lo hi a c:=⟨fun k hk=>(h2.out k hk).trans (h1.out k hk),h2.pend.trans h1.pend⟩
theorem Mv.mono{lo hi lo' hi':Nat}{a b:SortSt}(h:Mv lo hi a b)(h1:lo'<=lo)(h2:hi<=hi'):Mv lo' hi' a b:=⟨fun k hk=>h.out k (by omega),h.pend⟩
abbrev Up(κ:KeyKind)(xs:Array Keyed)(lo n:Nat):Prop:=∀ i j,lo<=i->i<=j->j<lo+n->κ.kle (KK κ xs i) (KK κ xs j)
abbrev Dn(κ:KeyKind)(xs:Array Keyed)(lo n:Nat):Prop:=∀ i j,lo<=i->i<=j->j<lo+n->κ.kle (KK κ xs j) (KK κ xs i)
theorem mv_mirror{st:SortSt}{i j lo hi:Nat}(hj:j<=(arrOf st).size)(h1:lo<=i)(h2:j<=hi):Mv lo hi st (setArr st (mirror (arrOf st) i j ((j-i) / 2))) :=
 ⟨fun k hk=>by
  show(mirror (arrOf st) i j ((j-i) / 2))[k]?=_
  rw [getElem?_mirror_all hj,if_neg (by omega)],rfl⟩
section
variable {prog:Program}{w:World}{A:Around}{E:Value->Shared->Prop}{s:Shared}{κ:KeyKind}{kd:SortKind}{a₀:Array Keyed}
theorem SG.key{st:SortSt}(g:SG kd a₀ st)(h0:KeysOf κ a₀){i:Nat}(hi:i<a₀.size):∃ x p,(arrOf st)[i]?=some (x,p)/\κ.keyOf x=some (KK κ (arrOf st) i):=by
 have l:i<(arrOf st).size:=by rw [g.sz];exact hi
 obtain⟨a,ha⟩:=h0 ((arrOf st)[i]) ((Array.perm_iff_toList_perm.mp g.perm).mem_iff.mp (by simp))
 have e:(arrOf st)[i]?=some (arrOf st)[i]:=getElem?_pos _ i l
 refine⟨(arrOf st)[i].1,(arrOf st)[i].2,e,?_⟩
 rw [ha]
 unfold KK
 rw [e]
 simp [ha]
theorem q_lt{st:SortSt}{x y:Keyed}{a b:κ.α}{Q:Option Bool->SortSt->Prop}(L:LtOk prog w A s κ kd)(hk:kindOf st=kd)(ha:κ.keyOf x.1=some a)(hb:κ.keyOf y.1=some b)(q:Q (some (κ.blt a b)) st):
  wpS (model prog w) A E s (lt' x y) Q st:=by
 rw [lt'_eq]
 refine wpS_bind (wpS_get ?_)
 rw [hk]
 exact wpS_bind (wpS_lift (wpAny_attempt (L _ x.1 y.1 a b _ ha hb ⟨rfl,wpS_pure q⟩)))
theorem q_elem{st:SortSt}{xs:Array Keyed}{i:Nat}{p:Keyed}{Q:Keyed->SortSt->Prop}(e:xs[i]?=some p)(q:Q p st):wpS (model prog w) A E s (elem' xs i) Q st:=by
 rw [elem'_eq,e]
 exact wpS_pure q
theorem q_ltAt{st:SortSt}{i j:Nat}{Q:Option Bool->SortSt->Prop}(L:LtOk prog w A s κ kd)(g:SG kd a₀ st)(h0:KeysOf κ a₀)(hi:i<a₀.size)(hj:j<a₀.size)
  (q:Q (some (κ.blt (KK κ (arrOf st) i) (KK κ (arrOf st) j))) st):wpS (model prog w) A E s (ltAt' i j) Q st:=by
 obtain⟨x,p,e1,k1⟩:=g.key h0 hi
 obtain⟨y,r,e2,k2⟩:=g.key h0 hj
 rw [ltAt'_eq]
 refine wpS_bind (wpS_get ?_)
 exact wpS_bind (q_elem e1 (wpS_bind (q_elem e2 (q_lt L g.kind k1 k2 q))))
theorem q_rev{st:SortSt}{i j:Nat}{Q:Unit->SortSt->Prop}(q:Q () (setArr st (mirror (arrOf st) i j ((j-i) / 2)))):wpS (model prog w) A E s (reverseSlice' i j) Q st:=by
 rw [reverseSlice'_eq];exact wpS_modify q
def upLoop(lo a m:Nat):StateT SortSt Sem (Option (Option Nat)×Nat) :=
 forIn [a:m] ((none,a):Option (Option Nat)×Nat) fun _ c=>do
  let o <-ltAt' (lo+c.snd) (lo+c.snd-1)
  match o with
  | some less=>if less=true then pure (ForInStep.done (none,c.snd)) else pure (ForInStep.yield (none,c.snd+1))
  | _=>pure (ForInStep.done (some none,c.snd))
def endRun(lo n m:Nat):StateT SortSt Sem (Option Nat):=do
 reverseSlice' lo (lo+n)
 let c <-upLoop lo n m
 match c.fst with
 | some r=>pure r
 | none=>pure (some c.snd)
def dnLoop(lo n m:Nat):StateT SortSt Sem (Option (Option Nat)×Nat×Nat) :=
 forIn [n:m] ((none,n,0):Option (Option Nat)×Nat×Nat) fun _ c=>do
  let o <-ltAt' (lo+c.snd.fst) (lo+c.snd.fst-1)
  match o with
  | some less =>
   if less=true then
    if c.snd.snd > 0 then do
     reverseSlice' (lo+c.snd.fst-(c.snd.snd+1)) (lo+c.snd.fst)
     pure (ForInStep.yield (none,c.snd.fst+1,0))
    else pure (ForInStep.yield (none,c.snd.fst+1,0))
   else do
    let o <-ltAt' (lo+c.snd.fst-1) (lo+c.snd.fst)
    match o with
    | some more =>
     if more=true then pure (ForInStep.done (none,c.snd.fst,c.snd.snd))
     else pure (ForInStep.yield (none,c.snd.fst+1,c.snd.snd+1))
    | _=>pure (ForInStep.done (some none,c.snd.fst,c.snd.snd))
  | _=>pure (ForInStep.done (some none,c.snd.fst,c.snd.snd))
def dnRun(lo n m:Nat):StateT SortSt Sem (Option Nat):=do
 liftM (rule "list.sort.descending-run")
 let c <-dnLoop lo (n+1) m
 match c.fst with
 | some r=>pure r
 | none =>
  if c.snd.snd > 0 then do
   reverseSlice' (lo+c.snd.fst-(c.snd.snd+1)) (lo+c.snd.fst)
   endRun lo c.snd.fst m
  else endRun lo c.snd.fst m
theorem countRun_pieces(lo m:Nat):countRun' lo m=(do
  let c <-upLoop lo 1 m
  match c.fst with
  | some r=>pure r
  | none =>
   if (c.snd == m)=true then pure (some c.snd)
   else if c.snd > 1 then do
    let o <-ltAt' lo (lo+c.snd-1)
    match o with
    | some rose=>if rose=true then pure (some c.snd) else do
      reverseSlice' lo (lo+c.snd)
      dnRun lo c.snd m
    | _=>pure none
   else dnRun lo c.snd m):=by
 rw [countRun'_eq]
 unfold dnRun endRun dnLoop upLoop
 dsimp only
 congr 1
 funext c
 obtain⟨r,n⟩:=c
 cases r with
 | some r=>rfl
 | none =>
  dsimp only
  split
  ·rfl
  ·split
   ·congr 1
    funext x
    cases x with
    | none=>rfl
    | some rose =>
     dsimp only
     split
     ·rfl
     ·congr 1
      funext _
      congr 1;funext _;congr 1;congr 1;funext c2;obtain⟨r2,n2,q2⟩:=c2;cases r2 with
      | some r2=>rfl
      | none =>
       dsimp only
       split
       ·congr 1;funext _;congr 1;funext _;congr 1;funext c3;obtain⟨r3,n3⟩:=c3;cases r3 <;> rfl
       ·congr 1;funext _;congr 1;funext c3;obtain⟨r3,n3⟩:=c3;cases r3 <;> rfl
   ·congr 1;funext _;congr 1;congr 1;funext c2;obtain⟨r2,n2,q2⟩:=c2;cases r2 with
    | some r2=>rfl
    | none =>
     dsimp only
     split
     ·congr 1;funext _;congr 1;funext _;congr 1;funext c3;obtain⟨r3,n3⟩:=c3;cases r3 <;> rfl
     ·congr 1;funext _;congr 1;funext c3;obtain⟨r3,n3⟩:=c3;cases r3 <;> rfl
end
end SQ
namespace SQ
open PySem PyProof.Rows
set_option autoImplicit false
section
variable {prog:Program}{w:World}{A:Around}{E:Value->Shared->Prop}{s:Shared}{κ:KeyKind}{kd:SortKind}{a₀:Array Keyed}
theorem Up.next{xs:Array Keyed}{lo n:Nat}(h:Up κ xs lo n)(h1:1<=n)(c:κ.blt (KK κ xs (lo+n)) (KK κ xs (lo+n-1))=false):Up κ xs lo (n+1):=fun i j a b d=>by
 by_cases e:j<lo+n
 ·exact h i j a b e
 ·have ej:j=lo+n:=by omega
  subst ej
  by_cases e2:i=lo+n
  ·subst e2;exact KeyOrd.kle_refl _
  ·exact KeyOrd.kle_trans (h i (lo+n-1) a (by omega) (by omega)) c
theorem q_up{st:SortSt}{lo a m:Nat}{Q:Option (Option Nat)×Nat->SortSt->Prop}(L:LtOk prog w A s κ kd)(h0:KeysOf κ a₀)(g:SG kd a₀ st)(hm:lo+m<=a₀.size)(ha:1<=a)(hu:Up κ (arrOf st) lo a)(ham:a<=m)
  (q:∀ n,a<=n->n<=m->Up κ (arrOf st) lo n->(n=m\/κ.klt (KK κ (arrOf st) (lo+n)) (KK κ (arrOf st) (lo+n-1)))->Q (none,n) st):wpS (model prog w) A E s (upLoop lo a m) Q st:=by
 unfold upLoop
 refine wpS_forRange (I:=fun x c st'=>st'=st/\c=(none,x)/\Up κ (arrOf st) lo x) (fun x c st' hx1 hx2 h=>?_) (fun c st' h=>?_) ⟨rfl,rfl,hu⟩
 ·obtain⟨rfl,rfl,hx⟩:=h
  dsimp only
  refine wpS_bind (q_ltAt L g h0 (by omega) (by omega) ?_)
  cases cb:κ.blt (KK κ (arrOf st') (lo+x)) (KK κ (arrOf st') (lo+x-1)) with
  | true=>exact wpS_pure (q x hx1 (by omega) hx (.inr cb))
  | false=>exact wpS_pure ⟨rfl,rfl,hx.next (by omega) cb⟩
 ·obtain⟨rfl,rfl,hx⟩:=h
  rw [show max a m=m by omega] at hx ⊢
  exact q m ham (Nat.le_refl _) hx (.inl rfl)
theorem q_end{st st0:SortSt}{lo n m:Nat}{Q:Option Nat->SortSt->Prop}(L:LtOk prog w A s κ kd)(h0:KeysOf κ a₀)(g:SG kd a₀ st)(hm:lo+m<=a₀.size)(h1:1<=n)(hnm:n<=m)(hd:Dn κ (arrOf st) lo n)(mv:Mv lo (lo+m) st0 st)
  (q:∀ k st',SG kd a₀ st'->Mv lo (lo+m) st0 st'->1<=k->k<=m->Up κ (arrOf st') lo k->Q (some k) st'):wpS (model prog w) A E s (endRun lo n m) Q st:=by
 unfold endRun
 have sz:lo+n<=(arrOf st).size:=by rw [g.sz];omega
 refine wpS_bind (q_rev ?_)
 have g':=g.arr (mirror_perm (arrOf st) lo (lo+n) ((lo+n-lo) / 2))
 refine wpS_bind (q_up L h0 g' hm h1 (fun i j a b c=>?_) hnm fun k k1 k2 hk _=>wpS_pure (q k _ g' (mv.trans (mv_mirror sz (Nat.le_refl _) (by omega))) (by omega) k2 hk))
 show κ.kle (KK κ (mirror (arrOf st) lo (lo+n) ((lo+n-lo) / 2)) i) (KK κ (mirror (arrOf st) lo (lo+n) ((lo+n-lo) / 2)) j)
 rw [KK_mirror sz,KK_mirror sz,if_pos (by omega),if_pos (by omega)]
 exact hd _ _ (by omega) (by omega) (by omega)
theorem Dn.next{xs:Array Keyed}{lo n:Nat}(h:Dn κ xs lo n)(h1:1<=n)(c:κ.kle (KK κ xs (lo+n)) (KK κ xs (lo+n-1))):Dn κ xs lo (n+1):=fun i j a b d=>by
 by_cases e:j<lo+n
 ·exact h i j a b e
 ·have ej:j=lo+n:=by omega
  subst ej
  by_cases e2:i=lo+n
  ·subst e2;exact KeyOrd.kle_refl _
  ·exact KeyOrd.kle_trans c (h i (lo+n-1) a (by omega) (by omega))
theorem KK_flat{xs:Array Keyed}{i j:Nat}(hj:j<=xs.size)(he:∀ k,i<=k->k<j->KK κ xs k=KK κ xs (j-1))(k:Nat):KK κ (mirror xs i j ((j-i) / 2)) k=KK κ xs k:=KK_mirror_equal hj he k
theorem q_dn{st:SortSt}{lo n m:Nat}{Q:Option (Option Nat)×Nat×Nat->SortSt->Prop}(L:LtOk prog w A s κ kd)(h0:KeysOf κ a₀)(g:SG kd a₀ st)(hm:lo+m<=a₀.size)(h1:1<=n)(hnm:n<=m)(hd:Dn κ (arrOf st) lo n)
  (q:∀ k e st',SG kd a₀ st'->Mv lo (lo+m) st st'->n<=k->k<=m->Dn κ (arrOf st') lo k->e+1<=k->(∀ i,lo+k-(e+1)<=i->i<lo+k->KK κ (arrOf st') i=KK κ (arrOf st') (lo+k-1))->Q (none,k,e) st'):wpS (model prog w) A E s (dnLoop lo n m) Q st:=by
 unfold dnLoop
 refine wpS_forRange (I:=fun x c st'=>∃ e,c=(none,x,e)/\SG kd a₀ st'/\Mv lo (lo+m) st st'/\Dn κ (arrOf st') lo x/\e+1<=x/\(∀ i,lo+x-(e+1)<=i->i<lo+x->KK κ (arrOf st') i=KK κ (arrOf st') (lo+x-1))) (fun x c st' hx1 hx2 h=>?_) (fun c st' h=>?_) ⟨0,rfl,g,Mv.refl _ _ _,hd,by omega,fun i a b=>by rw [show i=lo+n-1 by omega]⟩
 ·obtain⟨e,rfl,g',mv,hx,he,heq⟩:=h
  dsimp only
  refine wpS_bind (q_ltAt L g' h0 (by omega) (by omega) ?_)
  cases cb:κ.blt (KK κ (arrOf st') (lo+x)) (KK κ (arrOf st') (lo+x-1)) with
  | true =>
   dsimp only
   rw [if_pos rfl]
   by_cases ce:e > 0
   ·rw [if_pos ce]
    refine wpS_bind (q_rev (wpS_pure ?_))
    have sz:lo+x<=(arrOf st').size:=by rw [g'.sz];omega
    have kf:=KK_flat (κ:=κ) (xs:=arrOf st') (i:=lo+x-(e+1)) (j:=lo+x) sz heq
    refine⟨0,rfl,g'.arr (mirror_perm _ _ _ _),mv.trans (mv_mirror sz (by omega) (by omega)),?_,by omega,fun i a b=>by rw [show i=lo+(x+1)-1 by omega]⟩
    refine Dn.next (fun i j a b d=>?_) (by omega) ?_
    ·show κ.kle (KK κ (mirror _ _ _ _) j) (KK κ (mirror _ _ _ _) i)
     rw [kf,kf]
     exact hx i j a b d
    ·show κ.kle (KK κ (mirror _ _ _ _) _) (KK κ (mirror _ _ _ _) _)
     rw [kf,kf]
     exact KeyOrd.kle_of_klt cb
   ·rw [if_neg ce]
    exact wpS_pure ⟨0,rfl,g',mv,hx.next (by omega) (KeyOrd.kle_of_klt cb),by omega,fun i a b=>by rw [show i=lo+(x+1)-1 by omega]⟩
  | false =>
   dsimp only
   rw [if_neg (by decide)]
   refine wpS_bind (q_ltAt L g' h0 (by omega) (by omega) ?_)
   cases cc:κ.blt (KK κ (arrOf st') (lo+x-1)) (KK κ (arrOf st') (lo+x)) with
   | true=>exact wpS_pure (q x e st' g' mv hx1 (by omega) hx he heq)
   | false =>
    have same:KK κ (arrOf st') (lo+x)=KK κ (arrOf st') (lo+x-1):=KeyOrd.kle_antisymm cc cb
    refine wpS_pure ⟨e+1,rfl,g',mv,hx.next (by omega) cc,by omega,fun i a b=>?_⟩
    rw [show lo+(x+1)-1=lo+x by omega]
    by_cases ei:i=lo+x
    ·rw [ei]
    ·rw [heq i (by omega) (by omega),same]
 ·obtain⟨e,rfl,g',mv,hx,he,heq⟩:=h
  rw [show max n m=m by omega] at *
  exact q m e st' g' mv hnm (Nat.le_refl _) hx he heq
theorem q_dnRun{st st0:SortSt}{lo n m:Nat}{Q:Option Nat->SortSt->Prop}(L:LtOk prog w A s κ kd)(h0:KeysOf κ a₀)(g:SG kd a₀ st)(hm:lo+m<=a₀.size)(h1:1<=n)(hnm:n+1<=m)(hd:Dn κ (arrOf st) lo (n+1))(mv:Mv lo (lo+m) st0 st)
  (q:∀ k st',SG kd a₀ st'->Mv lo (lo+m) st0 st'->1<=k->k<=m->Up κ (arrOf st') lo k->Q (some k) st'):wpS (model prog w) A E s (dnRun lo n m) Q st:=by
 unfold dnRun
 refine wpS_bind (wpS_lift (wpAny_rule ⟨rfl,?_⟩))
 refine wpS_bind (q_dn L h0 g hm (by omega) hnm hd fun k e st' g' mv' k1 k2 hk he heq=>?_)
 dsimp only
 by_cases ce:e > 0
 ·rw [if_pos ce]
  have sz:lo+k<=(arrOf st').size:=by rw [g'.sz];omega
  have kf:=KK_flat (κ:=κ) (xs:=arrOf st') (i:=lo+k-(e+1)) (j:=lo+k) sz heq
  refine wpS_bind (q_rev (q_end L h0 (g'.arr (mirror_perm _ _ _ _)) hm (by omega) k2 (fun i j a b d=>?_) ((mv.trans mv').trans (mv_mirror sz (by omega) (by omega))) q))
  show κ.kle (KK κ (mirror _ _ _ _) j) (KK κ (mirror _ _ _ _) i)
  rw [kf,kf]
  exact hk i j a b d
 ·rw [if_neg ce]
  exact q_end L h0 g' hm (by omega) k2 hk (mv.trans mv') q
theorem q_countRun{st:SortSt}{lo m:Nat}{Q:Option Nat->SortSt->Prop}(L:LtOk prog w A s κ kd)(h0:KeysOf κ a₀)(g:SG kd a₀ st)(hm:lo+m<=a₀.size)(h1:1<=m)
  (q:∀ k st',SG kd a₀ st'->Mv lo (lo+m) st st'->1<=k->k<=m->Up κ (arrOf st') lo k->Q (some k) st'):wpS (model prog w) A E s (countRun' lo m) Q st:=by
 rw [countRun_pieces]
 refine wpS_bind (q_up L h0 g hm (Nat.le_refl _) (fun i j a b c=>by rw [show i=j by omega];exact KeyOrd.kle_refl _) h1 fun n n1 n2 hn hz=>?_)
 dsimp only
 by_cases e:n=m
 ·rw [if_pos (by simpa using e)]
  exact wpS_pure (q n st g (Mv.refl _ _ _) n1 n2 hn)
 ·rw [if_neg (by simpa using e)]
  have down:=hz.resolve_left e
  by_cases e1:n > 1
  ·rw [if_pos e1]
   refine wpS_bind (q_ltAt L g h0 (by omega) (by omega) ?_)
   cases cb:κ.blt (KK κ (arrOf st) lo) (KK κ (arrOf st) (lo+n-1)) with
   | true=>exact wpS_pure (q n st g (Mv.refl _ _ _) n1 n2 hn)
   | false =>
    dsimp only
    rw [if_neg (by decide)]
    have all:∀ k,lo<=k->k<lo+n->KK κ (arrOf st) k=KK κ (arrOf st) (lo+n-1):=fun k a b =>
     KeyOrd.kle_antisymm (hn k (lo+n-1) a (by omega) (by omega)) (KeyOrd.kle_trans cb (hn lo k (Nat.le_refl _) a b))
    have sz:lo+n<=(arrOf st).size:=by rw [g.sz];omega
    have kf:=KK_flat (κ:=κ) (xs:=arrOf st) (i:=lo) (j:=lo+n) sz all
    refine wpS_bind (q_rev (q_dnRun L h0 (g.arr (mirror_perm _ _ _ _)) hm n1 (by omega) (Dn.next (fun i j a b d=>?_) n1 ?_) (mv_mirror sz (Nat.le_refl _) (by omega)) q))
    ·show κ.kle (KK κ (mirror _ _ _ _) j) (KK κ (mirror _ _ _ _) i)
     rw [kf,kf,all j (by omega) d,all i a (by omega)]
     exact KeyOrd.kle_refl _
    ·show κ.kle (KK κ (mirror _ _ _ _) _) (KK κ (mirror _ _ _ _) _)
     rw [kf,kf]
     exact KeyOrd.kle_of_klt down
  ·rw [if_neg e1]
   refine q_dnRun L h0 g hm n1 (by omega) (Dn.next (fun i j a b d=>by rw [show i=j by omega];exact KeyOrd.kle_refl _) n1 (KeyOrd.kle_of_klt down)) (Mv.refl _ _ _) q
theorem q_insert{st:SortSt}{lo n ok:Nat}{Q:Bool->SortSt->Prop}(L:LtOk prog w A s κ kd)(h0:KeysOf κ a₀)(g:SG kd a₀ st)(hn:lo+n<=a₀.size)(hok:ok<=n)(hu:Up κ (arrOf st) lo ok)
  (q:∀ st',SG kd a₀ st'->Mv lo (lo+n) st st'->Up κ (arrOf st') lo n->Q true st'):wpS (model prog w) A E s (binarySort' lo n ok) Q st:=by
 rw [binarySort'_eq]
 refine wpS_bind (wpS_mono (wpS_forRange (I:=fun k c st'=>c=(none,())/\SG kd a₀ st'/\Mv lo (lo+n) st st'/\Up κ (arrOf st') lo (min k n))
  (Q:=fun c st'=>c=(none,())/\SG kd a₀ st'/\Mv lo (lo+n) st st'/\Up κ (arrOf st') lo n) (fun k c st' hk1 hk2 h=>?_) (fun c st' h=>?_) ⟨rfl,g,Mv.refl _ _ _,fun i j a b d=>?_⟩) (fun c st' h=>?_))
 ·obtain⟨rfl,g',mv,hs⟩:=h
  rw [show min k n=k by omega] at hs
  refine wpS_bind (wpS_mono (wpS_forRange (I:=fun x c z=>z=st'/\∃ l r,c=(none,l,r)/\l<=r/\r<=k/\r-l<=k-x/\(∀ i,lo<=i->i<lo+l->κ.kle (KK κ (arrOf st') i) (KK κ (arrOf st') (lo+k)))/\(∀ i,lo+r<=i->i<lo+k->κ.klt (KK κ (arrOf st') (lo+k)) (KK κ (arrOf st') i)))
   (Q:=fun c z=>z=st'/\∃ l r,c=(none,l,r)/\l<=k/\(∀ i,lo<=i->i<lo+l->κ.kle (KK κ (arrOf st') i) (KK κ (arrOf st') (lo+k)))/\(∀ i,lo+l<=i->i<lo+k->κ.klt (KK κ (arrOf st') (lo+k)) (KK κ (arrOf st') i)))
   (fun x c z hx1 hx2 h=>?_) (fun c z h=>?_) ⟨rfl,0,k,rfl,by omega,by omega,by omega,fun i a b=>by omega,fun i a b=>by omega⟩) (fun c z h=>?_))
  ·obtain⟨rfl,l,r,rfl,p1,p2,p3,p4,p5⟩:=h
   dsimp only
   by_cases e:l ≥ r
   ·rw [if_pos e]
    have:l=r:=by omega
    subst this
    exact wpS_pure ⟨rfl,l,l,rfl,p2,p4,p5⟩
   ·rw [if_neg e]
    refine wpS_bind (q_ltAt L g' h0 (by omega) (by omega) ?_)
    cases cb:κ.blt (KK κ (arrOf z) (lo+k)) (KK κ (arrOf z) (lo+(l+r) / 2)) with
    | true=>exact wpS_pure ⟨rfl,l,(l+r) / 2,rfl,by omega,by omega,by omega,p4,fun i a b=>KeyOrd.klt_of_klt_of_kle cb (hs _ _ (by omega) a (by omega))⟩
    | false=>exact wpS_pure ⟨rfl,(l+r) / 2+1,r,rfl,by omega,by omega,by omega,fun i a b=>KeyOrd.kle_trans (hs i (lo+(l+r) / 2) a (by omega) (by omega)) cb,p5⟩
  ·obtain⟨rfl,l,r,rfl,p1,p2,p3,p4,p5⟩:=h
   have:l=r:=by omega
   subst this
   exact⟨rfl,l,l,rfl,p2,p4,p5⟩
  ·obtain⟨rfl,l,r,rfl,p2,p4,p5⟩:=h
   show wpS _ _ _ _ (do moveDown' (lo+k) (lo+l);pure (ForInStep.yield (none,()))) _ _
   rw [moveDown'_eq]
   have sz:lo+k<(arrOf z).size:=by rw [g'.sz];omega
   refine wpS_bind (wpS_modify (wpS_pure ⟨rfl,g'.arr (bubble_perm _ _ _),mv.trans ⟨fun i hi=>?_,rfl⟩,?_⟩))
   ·show(bubble (arrOf z) (lo+k) (lo+k-(lo+l)))[i]?=_
    rw [getElem?_bubble sz _ (by omega),if_neg (by omega),if_neg (by omega)]
   ·rw [show min (k+1) n=k+1 by omega]
    intro i j a b d
    show κ.kle (KK κ (bubble (arrOf z) (lo+k) (lo+k-(lo+l))) i) (KK κ (bubble (arrOf z) (lo+k) (lo+k-(lo+l))) j)
    rw [KK_bubble sz (by omega),KK_bubble sz (by omega),show lo+k-(lo+k-(lo+l))=lo+l by omega]
    repeat' split
    all_goals first
     | (exfalso;omega)
     | exact KeyOrd.kle_refl _
     | exact p4 _ (by omega) (by omega)
     | exact KeyOrd.kle_of_klt (p5 _ (by omega) (by omega))
     | exact hs _ _ (by omega) (by omega) (by omega)
 ·obtain⟨h1,h2,h3,h4⟩:=h
  rw [show min (max (max ok 1) n) n=n by omega] at h4
  exact⟨h1,h2,h3,h4⟩
 ·by_cases e:ok=0
  ·rw [show i=j by omega];exact KeyOrd.kle_refl _
  ·exact hu i j a b (by omega)
 ·obtain⟨rfl,h2,h3,h4⟩:=h
  exact wpS_pure (q st' h2 h3 h4)
end
end SQ
namespace SQ
open PySem PyProof.Rows
set_option autoImplicit false
section
variable {prog:Program}{w:World}{A:Around}{E:Value->Shared->Prop}{s:Shared}{κ:KeyKind}{kd:SortKind}
end
end SQ
namespace SQ
open PySem PyProof.Rows
set_option autoImplicit false
def kk(κ:KeyKind)(p:Keyed):κ.α:=(κ.keyOf p.1).getD κ.dflt
def le(κ:KeyKind)(x y:Keyed):Prop:=κ.kle (kk κ x) (kk κ y)
theorem le_refl{κ:KeyKind}(x:Keyed):le κ x x:=KeyOrd.kle_refl _
def AllK(κ:KeyKind)(xs:Array Keyed):Prop:=∀ p∈xs.toList,κ.keyOf p.1=some (kk κ p)
abbrev Srt(κ:KeyKind)(xs:Array Keyed):Prop:=xs.toList.Pairwise (le κ)
theorem Srt.at{κ:KeyKind}{xs:Array Keyed}(h:Srt κ xs){i j:Nat}{p r:Keyed}(hij:i<=j)(e1:xs[i]?=some p)(e2:xs[j]?=some r):le κ p r:=by
 obtain⟨l1,rfl⟩:=Array.getElem?_eq_some_iff.mp e1
 obtain⟨l2,rfl⟩:=Array.getElem?_eq_some_iff.mp e2
 by_cases c:i=j
 ·subst c;exact le_refl _
 ·have:=List.pairwise_iff_getElem.mp h i j (by simpa using l1) (by simpa using l2) (by omega)
  simpa using this
structure MI(κ:KeyKind)(a b out:Array Keyed)(ia ib:Nat):Prop where
 perm:out.toList.Perm (a.toList.take ia++b.toList.take ib)
 sort:out.toList.Pairwise (le κ)
 la:∀ x∈out.toList,∀ y∈a.toList.drop ia,le κ x y
 lb:∀ x∈out.toList,∀ y∈b.toList.drop ib,le κ x y
theorem drop_next{α:Type}{xs:List α}{i:Nat}{p:α}(e:xs[i]?=some p):xs.drop i=p::xs.drop (i+1):=by
 obtain⟨l,rfl⟩:=List.getElem?_eq_some_iff.mp e
 exact List.drop_eq_getElem_cons l
section
variable {κ:KeyKind}{a b out:Array Keyed}{ia ib:Nat}
theorem tl_at{xs:Array Keyed}{i:Nat}{p:Keyed}(e:xs[i]?=some p):xs.toList[i]?=some p:=by simpa using e
theorem Srt.rest{xs:Array Keyed}(h:Srt κ xs){i:Nat}{p:Keyed}(e:xs[i]?=some p):∀ y∈xs.toList.drop i,le κ p y:=by
 have h2:=h.drop (i:=i)
 rw [drop_next (tl_at e)] at h2 ⊢
 intro y hy
 rcases List.mem_cons.mp hy with rfl | hy
 ·exact le_refl _
 ·exact(List.pairwise_cons.mp h2).1 y hy
def Mg(κ:KeyKind)(a b r:Array Keyed):Prop:=r.toList.Perm (a.toList++b.toList)/\r.toList.Pairwise (le κ)
end
structure Gm(st st':SortSt):Prop where
 k:kindOf st'=kindOf st
 a:arrOf st'=arrOf st
 p:pendingOf st'=pendingOf st
 f:failedOf st'=failedOf st
theorem Gm.refl(st:SortSt):Gm st st:=⟨rfl,rfl,rfl,rfl⟩
theorem Gm.trans{x y z:SortSt}(h:Gm x y)(g:Gm y z):Gm x z:=⟨g.k.trans h.k,g.a.trans h.a,g.p.trans h.p,g.f.trans h.f⟩
section
variable {prog:Program}{w:World}{A:Around}{E:Value->Shared->Prop}{s:Shared}{κ:KeyKind}{kd:SortKind}
end
end SQ
namespace SQ
open PySem PyProof.Rows
set_option autoImplicit false
section
variable {prog:Program}{w:World}{A:Around}{E:Value->Shared->Prop}{s:Shared}{κ:KeyKind}{kd:SortKind}
theorem wps_ite{α:Type}{c:Prop}[Decidable c]{x y:StateT SortSt Sem α}{Q:α->SortSt->Prop}{st:SortSt}{M:Model}(h1:c->wpS M A E s x Q st)(h2:¬ c->wpS M A E s y Q st):wpS M A E s (if c then x else y) Q st:=by
 by_cases h:c
 ·rw [if_pos h];exact h1 h
 ·rw [if_neg h];exact h2 h
end
end SQ
namespace SQ
open PySem PyProof.Rows
set_option autoImplicit false
structure MH(κ:KeyKind)(a b out:Array Keyed)(na nb:Nat):Prop where
 perm:out.toList.reverse.Perm (a.toList.drop na++b.toList.drop nb)
 sort:out.toList.reverse.Pairwise (le κ)
 la:∀ x∈a.toList.take na,∀ y∈out.toList.reverse,le κ x y
 lb:∀ x∈b.toList.take nb,∀ y∈out.toList.reverse,le κ x y
section
variable {κ:KeyKind}{a b out:Array Keyed}{na nb:Nat}
theorem ext_take(xs:Array Keyed)(n:Nat):(xs.extract 0 n).toList=xs.toList.take n:=by
 rw [Array.toList_extract,List.extract_eq_take_drop,List.drop_zero,Nat.sub_zero]
theorem perm_lo{α:Type}{o x y u v:List α}(h:o.Perm (x++y)):(u++v++o).Perm ((u++x)++(v++y)):=by
 refine(List.Perm.append_left _ h).trans ?_
 rw [List.append_assoc,List.append_assoc u x]
 refine List.Perm.append_left u ?_
 rw [<-List.append_assoc,<-List.append_assoc]
 exact List.Perm.append_right y List.perm_append_comm
theorem MH.first(m:MH κ a b out na nb)(sa:Srt κ a)(sb:Srt κ b)(h:∀ x∈b.toList.take nb,∀ y∈a.toList,le κ x y):Mg κ a b (b.extract 0 nb++a.extract 0 na++out.reverse):=by
 refine⟨?_,?_⟩
 ·rw [Array.toList_append,Array.toList_append,ext_take,ext_take,Array.toList_reverse]
  have:=perm_lo (u:=b.toList.take nb) (v:=a.toList.take na) (m.perm.trans List.perm_append_comm)
  rw [List.take_append_drop,List.take_append_drop] at this
  exact this.trans List.perm_append_comm
 ·rw [Array.toList_append,Array.toList_append,ext_take,ext_take,Array.toList_reverse]
  refine List.pairwise_append.mpr ⟨List.pairwise_append.mpr ⟨sb.take,sa.take,fun x hx y hy=>h x hx y (List.mem_of_mem_take hy)⟩,m.sort,fun x hx y hy=>?_⟩
  rcases List.mem_append.mp hx with hx | hx
  ·exact m.lb x hx y hy
  ·exact m.la x hx y hy
end
section
variable {prog:Program}{w:World}{A:Around}{E:Value->Shared->Prop}{s:Shared}{κ:KeyKind}{kd:SortKind}
end
end SQ
namespace SQ
open PySem PyProof.Rows
set_option autoImplicit false
section
variable {prog:Program}{w:World}{A:Around}{E:Value->Shared->Prop}{s:Shared}{κ:KeyKind}{kd:SortKind}{a₀:Array Keyed}
theorem AllK.of{xs:Array Keyed}(h:∀ p∈xs.toList,∃ a,κ.keyOf p.1=some a):AllK κ xs:=fun p hp=>by
 obtain⟨a,e⟩:=h p hp
 unfold kk
 rw [e]
 rfl
end
end SQ
namespace SQ
open PySem PyProof.Rows
set_option autoImplicit false
section
variable {prog:Program}{w:World}{A:Around}{E:Value->Shared->Prop}{s:Shared}{κ:KeyKind}{kd:SortKind}{a₀:Array Keyed}
end
end SQ
namespace SQ
open PySem PyProof.Rows
set_option autoImplicit false
def Cov(κ:KeyKind)(xs:Array Keyed):Nat->List (Nat×Nat×Nat)->Nat->Prop
 | at_,[],hi=>at_=hi
 | at_,(b,n,_)::r,hi=>b=at_/\1<=n/\Up κ xs at_ n/\Cov κ xs (at_+n) r hi
section
variable {κ:KeyKind}
theorem Cov.le{xs:Array Keyed}:∀{l:List (Nat×Nat×Nat)} {at_ hi:Nat},Cov κ xs at_ l hi->at_+l.length<=hi
 | [],at_,hi,h=>by have:at_=hi:=h;simp;omega
 | (b,n,p)::r,at_,hi,h=>by
  obtain⟨_,h1,_,h2⟩:=h
  have:=h2.le
  simp only [List.length_cons];omega
theorem Cov.push{xs:Array Keyed}{n pw:Nat}:∀{l:List (Nat×Nat×Nat)} {at_ hi:Nat},Cov κ xs at_ l hi->1<=n->Up κ xs hi n->Cov κ xs at_ (l ++ [(hi,n,pw)]) (hi+n)
 | [],at_,hi,h,hn,u=>by
  have e:at_=hi:=h
  subst e
  exact⟨rfl,hn,u,rfl⟩
 | (b,m,p)::r,at_,hi,h,hn,u=>⟨h.1,h.2.1,h.2.2.1,h.2.2.2.push hn u⟩
end
section
variable {prog:Program}{w:World}{A:Around}{E:Value->Shared->Prop}{s:Shared}{κ:KeyKind}{kd:SortKind}{a₀:Array Keyed}
end
end SQ
namespace SQ
open PySem PyProof.Rows
set_option autoImplicit false
section
variable {prog:Program}{w:World}{A:Around}{E:Value->Shared->Prop}{s:Shared}
theorem q_collect{Q:List Value->Shared->Prop}{l:Addr}{T:String}{o:Obj}{xs:Array Value}{n:Nat}(hT:T = "list" \/ T = "tuple")(ho:s.heap.get? l=some o)(hc:o.cls=.type T)(hd:o.data=.seq xs n)(hz:xs.size<=sizeLine)
  (q:Q xs.toList { s with heap:=(s.heap.push (seqObj "list" #[] 0)).update s.heap.objs.size (Obj.mapSeq (·++xs)) }):wpAny (model prog w) A (collect (.ref l)) Q E s:=by
 unfold collect
 refine wpAny_bind (wpAny_runValue (codeAny_builtin PySem.F.entry_proto_collect ?_))
 rw [Around.under_plainId PySem.F.plain_proto_collect _]
 show wpAny _ A.in1 (newList [] >>= fun z=>again (.builtin "list.__iadd__" ⟨[z,.ref l],[]⟩)) _ _ s
 refine wpAny_bind (wpAny_newObj_type ?_)
 refine wpAny_pure ⟨plainId_quiet PySem.F.plain_list_iadd _,codeAny_builtin PySem.F.entry_list_iadd ?_⟩
 rw [Around.under_plainId PySem.F.plain_list_iadd _]
 show wpAny _ A.in1 (Builtin.List.listExtendWith (.ref s.heap.objs.size) (.ref l) (.ref s.heap.objs.size)) _ _ _
 have g1:(s.heap.push { cls:=.type "list",data:=.seq ([]:List Value).toArray }).get? s.heap.objs.size=some { cls:=.type "list",data:=.seq #[] 0 }:=Heap.get?_push_size _ rfl
 have g2:=Heap.get?_update_self (Obj.mapSeq (·++xs)) g1 rfl
 have fin:wpAny (model prog w) A (match Value.ref s.heap.objs.size with
   | Value.ref z=>do
    match (<-load z).data with
     | Data.seq ys _=>pure ys.toList
     | _=>unsupported "internal:collect"
   | _=>unsupported "internal:collect") Q E { s with heap:=(s.heap.push { cls:=.type "list",data:=.seq ([]:List Value).toArray }).update s.heap.objs.size (Obj.mapSeq (·++xs)) }:=by
  show wpAny _ A (load s.heap.objs.size >>= _) _ _ _
  refine wpAny_bind (wpAny_load g2 (wpAny_pure ?_))
  show Q ((#[]:Array Value)++xs).toList _
  rw [show((#[]:Array Value)++xs).toList=xs.toList by simp]
  exact q
 refine wpAny_mono (wpAny_extend_seq (hsz:=hz) (A:=A) (R:=fun r s'=>r=.ok (.ret (.ref s.heap.objs.size))/\s' = { s with heap:=(s.heap.push { cls:=.type "list",data:=.seq ([]:List Value).toArray }).update s.heap.objs.size (Obj.mapSeq (·++xs)) })
  (s:={ s with heap:=s.heap.push { cls:=.type "list",data:=.seq ([]:List Value).toArray } }) _ l _ 0 hT g1 (Heap.get?_push_of_some _ ho) hc hd ⟨rfl,rfl⟩) (fun f s' z=>?_) (fun e s' z=>absurd z.1 (by simp))
 cases f with
 | done f =>
  obtain⟨e,rfl⟩:=z
  cases e
  exact fin
 | again c'=>exact⟨z.1,codeAny_mono z.2 fun r s2 y=>by obtain⟨rfl,rfl⟩:=y;exact fin⟩
theorem unitsOk(A:Around):A.in1.in1.units<=A.units+8:=by show A.units+1+1<=_;omega
end
end SQ
namespace SQ
open PySem PyProof.Rows
set_option autoImplicit false
@[reducible] def intK:KeyKind where
 α:=Int
 blt a b:=decide (a<b)
 irrefl a:=by simp
 trans a b c h1 h2:=by simp only [decide_eq_true_eq] at *;omega
 negTrans a b c h:=by simp only [decide_eq_true_eq] at *;omega
 total a b h1 h2:=by simp only [decide_eq_false_iff_not] at *;omega
 keyOf v:=match v with | .int i _=>some i | _=>none
 dflt:=0
theorem intK_lt{prog:Program}{w:World}{A:Around}{s:Shared}:LtOk prog w A s intK oneType':=fun E x y a b Q ha hb q=>by
 cases x <;> simp only [intK,reduceCtorEq,Option.some.injEq] at ha
 cases y <;> simp only [intK,reduceCtorEq,Option.some.injEq] at hb
 cases ha;cases hb
 rw [keyLt'_oneType]
 exact oneLt_int q
def RefIs(h:Heap)(v:Value)(is:List Int):Prop:=∃ a its,v=.ref a/\IsTup h a its/\IntsAre its.toList is
theorem IntsAre.same{vs:List Value}{ns ms:List Int}(h:IntsAre vs ns)(h':IntsAre vs ms):ns=ms:=by rw [<-h.nums,<-h'.nums]
theorem RefIs.uniq{h:Heap}{v:Value}{is js:List Int}(x:RefIs h v is)(y:RefIs h v js):is=js:=by
 obtain⟨a,its,rfl,⟨o,e,_,n,d⟩,i1⟩:=x
 obtain⟨a',its',e',⟨o',e2,_,n',d'⟩,i2⟩:=y
 cases e'
 rw [e] at e2
 cases e2
 rw [d] at d'
 cases d'
 exact IntsAre.same i1 i2
theorem RefIs.keep{h h':Heap}{v:Value}{is:List Int}(k:∀ b o,h.get? b=some o->h'.get? b=some o)(x:RefIs h v is):RefIs h' v is:=by
 obtain⟨a,its,e,t,i⟩:=x
 exact⟨a,its,e,t.keeps k,i⟩
open Classical in
noncomputable def refKey (h:Heap) (v:Value):Option (List Int):=if x:∃ is,RefIs h v is then some x.choose else none
theorem refKey_some{h:Heap}{v:Value}{is:List Int}(e:refKey h v=some is):RefIs h v is:=by
 unfold refKey at e
 split at e
 ·next x=>cases e;exact x.choose_spec
 ·cases e
theorem refKey_of{h:Heap}{v:Value}{is:List Int}(x:RefIs h v is):refKey h v=some is:=by
 unfold refKey
 rw [dif_pos ⟨is,x⟩]
 rw [(Exists.choose_spec (p:=fun is=>RefIs h v is) ⟨is,x⟩).uniq x]
@[reducible] noncomputable def tupK (h:Heap):KeyKind where
 α:=List Int
 blt a b:=decide (a<b)
 irrefl a:=by simpa using List.lt_irrefl a
 trans a b c h1 h2:=by simp only [decide_eq_true_eq] at *;exact List.lt_trans h1 h2
 negTrans a b c h:=by
  simp only [decide_eq_true_eq] at *
  by_cases c:a<b
  ·exact .inl c
  ·exact .inr (List.lt_of_le_of_lt (List.not_lt.mp c) h)
 total a b h1 h2:=by simp only [decide_eq_false_iff_not] at *;exact List.le_antisymm (List.not_lt.mp h2) (List.not_lt.mp h1)
 keyOf v:=refKey h v
 dflt:=[]
section
variable {prog:Program}{w:World}{A:Around}{E:Value->Shared->Prop}{s:Shared}
theorem oneLt_intF{a b:Int}{t u:Tok}{f:Bool}{Q:Bool->Shared->Prop}(h:Q (decide (a<b)) s):wpAny (model prog w) A (oneLt' f (.int a t) (.int b u)) Q E s:=by
 cases f with
 | true=>exact oneLt_int h
 | false =>
  rw [oneLt'_eq]
  rw [if_neg (by decide)]
  have:=CmpOf.ints_lt (prog:=prog) (w:=w) (A:=A) (P:=fun i v=>(i=0/\v=.int a t)\/(i=1/\v=.int b u)) (fun i=>if i=0 then a else b) (fun i v hv=>by
   rcases hv with⟨rfl,rfl⟩ | ⟨rfl,rfl⟩
   ·exact⟨t,rfl⟩
   ·exact⟨u,rfl⟩)
  exact wpAny_bind (this 0 1 _ _ s _ E (.inl ⟨rfl,rfl⟩) (.inr ⟨rfl,rfl⟩) (wpAny_truthy_bool h))
theorem lt_loop{f:Bool}:∀{xs ys:List Value} {as bs:List Int} (k:Nat) (Q:Option Bool×Unit->Shared->Prop),IntsAre xs as->IntsAre ys bs->(∀ r,(r=none->as.take bs.length=bs.take as.length)->(∀ b,r=some b->b=decide (as<bs))->Q (r,()) s) ->
  wpAny (model prog w) A (forIn ((xs.zip ys).zipIdx k) ((none,()):Option Bool×Unit) fun x _=>match x with
   | ((p,q),i)=>do
    let e <-eqBool p q
    if (!e)=true then do
     let r <-oneLt' (f && i == 0) p q
     pure (ForInStep.done (some r,()))
    else pure (ForInStep.yield (none,()))) Q E s
 | _,_,_,_,k,Q,.nil,h2,q=>by
  simp only [List.zip_nil_left,List.zipIdx_nil,List.forIn_nil]
  exact wpAny_pure (q none (fun _=>by simp) (fun b e=>by cases e))
 | _,_,_,_,k,Q,.cons a t h1,.nil,q=>by
  simp only [List.zip_nil_right,List.zipIdx_nil,List.forIn_nil]
  exact wpAny_pure (q none (fun _=>by simp) (fun b e=>by cases e))
 | _,_,_,_,k,Q,.cons (ns:=as) a t h1,.cons (ns:=bs) b u h2,q=>by
  simp only [List.zip_cons_cons,List.zipIdx_cons,List.forIn_cons]
  refine wpAny_bind ?_
  refine wpAny_bind (wpAny_eqBool_int ?_)
  by_cases c:a=b
  ·subst c
   rw [if_neg (by simp)]
   refine wpAny_pure (lt_loop (k+1) Q h1 h2 fun r r1 r2=>q r (fun e=>?_) fun d e=>?_)
   ·simp only [List.length_cons,List.take_succ_cons]
    rw [r1 e]
   ·rw [r2 d e]
    exact decide_eq_decide.mpr (by rw [List.cons_lt_cons_iff];simp)
  ·rw [if_pos (by simpa using c)]
   refine wpAny_bind (oneLt_intF (wpAny_pure (wpAny_pure (q _ (fun e=>by cases e) fun d e=>?_))))
   cases e
   exact decide_eq_decide.mpr (by rw [List.cons_lt_cons_iff];simp [c])
theorem lt_of_pre:∀{as bs:List Int},as.take bs.length=bs.take as.length->decide (as<bs)=decide (as.length<bs.length)
 | [],[],_=>by simp
 | [],b::bs,_=>by simp
 | a::as,[],_=>by simp
 | a::as,b::bs,h=>by
  simp only [List.length_cons,List.take_succ_cons,List.cons.injEq] at h
  obtain⟨rfl,h⟩:=h
  have:=lt_of_pre h
  rw [decide_eq_decide] at this ⊢
  rw [List.cons_lt_cons_iff]
  simp only [Int.lt_irrefl,false_or,true_and,List.length_cons,this]
  omega
theorem tupK_lt{h₀:Heap}{f:Bool}(k:∀ b o,h₀.get? b=some o->s.heap.get? b=some o):LtOk prog w A s (tupK h₀) (tuples' f):=fun E x y a b Q ha hb q=>by
 obtain⟨ra,ia,rfl,⟨oa,ga,_,na,da⟩,ta⟩:=(refKey_some ha).keep k
 obtain⟨rb,ib,rfl,⟨ob,gb,_,nb,db⟩,tb⟩:=(refKey_some hb).keep k
 refine wpAny_bind (listItems_at ga da (wpAny_bind (listItems_at gb db (wpAny_bind (lt_loop 0 _ ta tb fun r r1 r2=>?_)))))
 cases r with
 | some d =>
  dsimp only
  cases r2 d rfl
  exact wpAny_pure q
 | none =>
  dsimp only
  refine wpAny_pure ?_
  have:=lt_of_pre (r1 rfl)
  rw [<-ta.length,<-tb.length] at this
  rw [show decide (ia.size<ib.size)=(tupK h₀).blt a b from ?_]
  ·exact q
  ·show _=decide (a<b)
   rw [this]
   simp
end
end SQ
namespace SQ
open PySem PyProof.Rows
set_option autoImplicit false
inductive All2{α β:Type}(R:α->β->Prop):List α->List β->Prop
 | nil:All2 R [] []
 | cons {a:α} {b:β} {as:List α} {bs:List β} (h:R a b) (t:All2 R as bs):All2 R (a::as) (b::bs)
theorem All2.len{α β:Type}{R:α->β->Prop}{as:List α}{bs:List β}(h:All2 R as bs):as.length=bs.length:=by
 induction h with
 | nil=>rfl
 | cons _ _ ih=>simp [ih]
theorem All2.imp{α β:Type}{R S:α->β->Prop}(f:∀ a b,R a b->S a b){as:List α}{bs:List β}(h:All2 R as bs):All2 S as bs:=by
 induction h with
 | nil=>exact .nil
 | cons h _ ih=>exact .cons (f _ _ h) ih
theorem All2.mem{α β:Type}{R:α->β->Prop}{as:List α}{bs:List β}(h:All2 R as bs){a:α}(ha:a∈as):∃ b∈bs,R a b:=by
 induction h with
 | nil=>cases ha
 | cons h _ ih =>
  rcases List.mem_cons.mp ha with rfl | ha
  ·exact⟨_,List.mem_cons_self,h⟩
  ·obtain⟨b,hb,r⟩:=ih ha
   exact⟨b,List.mem_cons_of_mem _ hb,r⟩
section
variable {prog:Program}{w:World}{A:Around}{E:Value->Shared->Prop}{s:Shared}
theorem first_tup{v:Value}{i:Int}{is:List Int}(h:RefIs s.heap v (i::is)):∃ t,∀ Q:Option Value->Shared->Prop,Q (some (.int i t)) s->wpAny (model prog w) A (firstOfTuple' v) Q E s:=by
 obtain⟨a,its,rfl,⟨o,g,c,n,d⟩,ii⟩:=h
 obtain⟨t,rest,e⟩:∃ t rest,its.toList=.int i t::rest:=by
  cases e:its.toList with
  | nil=>rw [e] at ii;cases ii
  | cons x r =>
   rw [e] at ii
   cases ii with
   | cons n t h=>exact⟨t,r,rfl⟩
 refine⟨t,fun Q q=>wpAny_bind (wpAny_typeOf (T := "tuple") ⟨o,g,c⟩ ?_)⟩
 rw [if_neg (by decide)]
 refine wpAny_bind (listItems_at g d (wpAny_pure ?_))
 have:its[0]?=some (.int i t):=by rw [<-Array.getElem?_toList,e];rfl
 rw [this]
 exact q
theorem first_all:∀{vs:List Value} {tss:List (List Int)},All2 (RefIs s.heap) vs tss->(∀ t∈tss,t ≠ [])->∃(fs:List Value) (ns:List Int),IntsAre fs ns/\fs.length=vs.length/\∀ Q:List (Option Value)->Shared->Prop,Q (fs.map some) s->wpAny (model prog w) A (vs.mapM firstOfTuple') Q E s
 | _,_,.nil,_=>⟨[],[],.nil,rfl,fun Q q=>by rw [List.mapM_nil];exact wpAny_pure q⟩
 | _,_,.cons (b:=t) h r,hne=>by
  obtain⟨fs,ns,i1,l1,w1⟩:=first_all r fun x hx=>hne x (List.mem_cons_of_mem _ hx)
  cases t with
  | nil=>exact absurd rfl (hne [] List.mem_cons_self)
  | cons i is =>
   obtain⟨t,w2⟩:=first_tup (prog:=prog) (w:=w) (A:=A) (E:=E) h
   refine⟨.int i t::fs,i::ns,.cons i t i1,by simp [l1],fun Q q=>?_⟩
   rw [List.mapM_cons]
   exact wpAny_bind (w2 _ (wpAny_bind (w1 _ (wpAny_pure q))))
theorem kind_tups{vs:List Value}{tss:List (List Int)}{Q:SortKind->Shared->Prop}(h:All2 (RefIs s.heap) vs tss)(hne:∀ t∈tss,t ≠ [])(h2:2<=vs.length)(q:Q (tuples' true) s):wpAny (model prog w) A (keyKind' vs.toArray) Q E s:=by
 obtain⟨fs,ns,i1,l1,w1⟩:=first_all (prog:=prog) (w:=w) (A:=A) (E:=E) h hne
 rw [keyKind'_eq,List.mapM_toArray]
 simp only [map_eq_pure_bind,bind_assoc,pure_bind]
 refine wpAny_bind (w1 _ ?_)
 rw [if_pos (by simp)]
 refine wpAny_bind (m:=rule _) (wpAny_rule ?_)
 have ef:Array.filterMap id (List.map some fs).toArray=fs.toArray:=by simp
 rw [ef,oneTypeOnly'_eq,List.mapM_toArray,mapM_typeOf_ints i1]
 simp only [map_pure,pure_bind]
 cases fs with
 | nil=>simp at l1;omega
 | cons f fs =>
  have hall:((List.map (fun _=>Value.type "int") (f::fs)).toArray.all fun x=>x == Value.type "int")=true:=by
   simp only [List.all_toArray,List.all_map,List.all_eq_true]
   intro _ _
   rfl
  have g0:(List.map (fun _=>Value.type "int") (f::fs)).toArray[0]?=some (Value.type "int"):=by simp
  rw [g0]
  simp only [hall,if_true,pure_bind]
  exact wpAny_pure q
theorem keysOf_pairs{κ:KeyKind}{vs:List Value}(h:∀ v∈vs,∃ a,κ.keyOf v=some a):KeysOf κ (pairsOf vs):=fun p hp=>by
 rw [pairsOf_toList] at hp
 exact h _ (mem_zip_self hp).2
theorem out_facts{κ:KeyKind}{vs:List Value}{out:Array Keyed}(p:out.Perm (pairsOf vs))(so:SortedToK κ out (pairsOf vs).size)(hk:∀ v∈vs,∃ a,κ.keyOf v=some a):
  (out.map (·.2)).toList.Perm vs/\∃ ks:List κ.α,All2 (fun v k=>κ.keyOf v=some k) (out.map (·.2)).toList ks/\ks.Pairwise κ.kle:=by
 have pl:=Array.perm_iff_toList_perm.mp p
 rw [pairsOf_toList] at pl
 have diag:∀ x∈out.toList,x.1=x.2/\x.1∈vs:=fun x hx=>mem_zip_self (pl.mem_iff.mp hx)
 refine⟨?_,out.toList.map fun x=>(κ.keyOf x.1).getD κ.dflt,?_,?_⟩
 ·rw [Array.toList_map]
  have:=pl.map (·.2)
  rwa [show(vs.zip vs).map (·.2)=vs by rw [List.map_snd_zip (Nat.le_refl _)]] at this
 ·rw [Array.toList_map]
  clear so p pl
  generalize out.toList=l at diag
  induction l with
  | nil=>exact .nil
  | cons x l ih =>
   refine .cons ?_ (ih fun y hy=>diag y (List.mem_cons_of_mem _ hy))
   obtain⟨e,m⟩:=diag x List.mem_cons_self
   obtain⟨a,ea⟩:=hk _ m
   show κ.keyOf x.2=some ((κ.keyOf x.1).getD κ.dflt)
   rw [<-e,ea]
   rfl
 ·rw [List.pairwise_map,List.pairwise_iff_getElem]
  intro i j h1 h2 hij
  have h1':i<out.size:=by simpa using h1
  have h2':j<out.size:=by simpa using h2
  have:=so i j (Nat.le_of_lt hij) (by rw [<-p.size_eq];exact h2')
  unfold KK at this
  rw [Array.getElem?_eq_getElem h1',Array.getElem?_eq_getElem h2'] at this
  simpa using this
end
end SQ
namespace L2
open PySem PySem.Spec PyProof.Rows SQ
def sortZ(ns:List Int):List Int:=ns.mergeSort (fun a b=>decide (a<=b))
def sortT(tss:List (List Int)):List (List Int):=tss.mergeSort (fun a b=>!decide (b<a))
def tD(is:List Int):D:=.tuple (is.map PyData.int)
theorem sortZ_perm(ns:List Int):(sortZ ns).Perm ns:=List.mergeSort_perm _ _
theorem sortZ_le(ns:List Int):(sortZ ns).Pairwise (· <= ·):=by
 have:=List.pairwise_mergeSort (le:=fun a b:Int=>decide (a<=b)) (fun a b c h1 h2=>by simp at *;omega) (fun a b=>by simp;omega) ns
 exact this.imp fun h=>by simpa using h
theorem sortZ_uniq{ms ns:List Int}(p:ms.Perm ns)(h:ms.Pairwise (· <= ·)):ms=sortZ ns:=(p.trans (sortZ_perm ns).symm).eq_of_pairwise (fun a b _ _ h3 h4=>Int.le_antisymm h3 h4) h (sortZ_le ns)
theorem sortT_perm(tss:List (List Int)):(sortT tss).Perm tss:=List.mergeSort_perm _ _
theorem tle_trans{a b c:List Int}(h1:¬ b<a)(h2:¬ c<b):¬ c<a:=fun h=>h1 (List.lt_of_le_of_lt (List.not_lt.mp h2) h)
theorem sortT_le(tss:List (List Int)):(sortT tss).Pairwise fun a b=>¬ b<a:=by
 have:=List.pairwise_mergeSort (le:=fun a b:List Int=>!decide (b<a)) (fun a b c h1 h2=>by
  simp only [Bool.not_eq_true',decide_eq_false_iff_not] at *
  exact tle_trans h1 h2) (fun a b=>by
  simp only [Bool.or_eq_true,Bool.not_eq_true',decide_eq_false_iff_not]
  by_cases c:b<a
  ·exact .inr fun z=>List.lt_irrefl _ (List.lt_trans z c)
  ·exact .inl c) tss
 exact this.imp fun h=>by simpa using h
theorem sortT_uniq{ss tss:List (List Int)}(p:ss.Perm tss)(h:ss.Pairwise fun a b=>¬ b<a):ss=sortT tss:=(p.trans (sortT_perm tss).symm).eq_of_pairwise (fun a b _ _ h3 h4=>List.le_antisymm (List.not_lt.mp h3) (List.not_lt.mp h4)) h (sortT_le tss)
def gSortL(xs:List D)(Q:List D->Prop):Prop:=(∃ ns:List Int,xs=ns.map PyData.int/\Q ((sortZ ns).map PyData.int))\/∃ tss:List (List Int),xs=tss.map tD/\(∀ t∈tss,t ≠ [])/\Q ((sortT tss).map tD)
theorem perm_vals{K:PySem.W.Frag}{H:Hp}{us us':List Value}(p:us'.Perm us):∀{vs:List V} {ds:List D},Vals vs us->Reps K H ds vs->∃ vs' ds',Vals vs' us'/\Reps K H ds' vs'/\ds'.Perm ds:=by
 induction p with
 | nil=>intro vs ds r rp;exact⟨vs,ds,r,rp,.refl _⟩
 | cons u p ih =>
  intro vs ds r rp
  cases r with
  | cons r1 r2 =>
   cases rp with
   | cons q1 q2 =>
    obtain⟨vs',ds',a1,a2,a3⟩:=ih r2 q2
    exact⟨_,_,.cons r1 a1,.cons q1 a2,a3.cons _⟩
 | swap u v l =>
  intro vs ds r rp
  cases r with
  | cons r1 r2 =>
   cases r2 with
   | cons r3 r4 =>
    cases rp with
    | cons q1 q2 =>
     cases q2 with
     | cons q3 q4=>exact⟨_,_,.cons r3 (.cons r1 r4),.cons q3 (.cons q1 q4),.swap _ _ _⟩
 | trans p1 p2 ih1 ih2 =>
  intro vs ds r rp
  obtain⟨vs1,ds1,a1,a2,a3⟩:=ih2 r rp
  obtain⟨vs2,ds2,b1,b2,b3⟩:=ih1 a1 a2
  exact⟨vs2,ds2,b1,b2,b3.trans a3⟩
section
variable {X:Cx}
theorem refs_of{pins:List (Addr×Obj)}{σ:St}{H:Hp}{s:Shared}(I:Inv X pins σ H s):∀{tss:List (List Int)} {vs:List V} {us:List Value},Reps X.K H (tss.map tD) vs->Vals vs us->All2 (RefIs s.heap) us tss
 | [],_,_,.nil,.nil=>.nil
 | t::tss,_,_,.cons r rs,.cons q qs=>by
  refine .cons ?_ (refs_of I rs qs)
  cases r with
  | tup h r =>
   cases q
   have:=Reps.of_ints r
   subst this
   obtain⟨its,rv,ht,_⟩:=I.tuple h
   exact⟨_,its.toArray,rfl,ht,by simpa using intsAre_of rv⟩
theorem perm_map{α:Type}{f:α->D}(g:D->α)(hg:∀ a,g (f a)=a){ds:List D}{as:List α}(p:ds.Perm (as.map f)):∃ bs:List α,ds=bs.map f/\bs.Perm as:=by
 have:∀ d∈ds,∃ a,d=f a/\True:=fun d hd=>by
  obtain⟨a,_,e⟩:=List.mem_map.mp (p.mem_iff.mp hd)
  exact⟨a,e.symm,trivial⟩
 obtain⟨bs,e,_⟩:=mem_enc this
 subst e
 refine⟨bs,rfl,?_⟩
 have z:∀ l:List α,(l.map f).map g=l:=fun l=>by rw [List.map_map];exact(List.map_congr_left fun a _=>hg a).trans (List.map_id _)
 have:=p.map g
 rwa [z,z] at this
def deI:D->Int
 | .int i=>i
 | _=>0
def deT:D->List Int
 | .tuple xs=>xs.map deI
 | _=>[]
theorem deI_int(i:Int):deI (.int i)=i:=rfl
theorem deT_tD(is:List Int):deT (tD is)=is:=by
 show(is.map PyData.int).map deI=is
 rw [List.map_map]
 exact(List.map_congr_left fun a _=>rfl).trans (List.map_id _)
end
end L2
namespace L2
open PySem PySem.Spec PyProof.Rows
namespace RV
theorem own1:Manifest.owners.lookup (String.ofList ['d','e','s','r','e','v','e','r'].reverse)=some Manifest.sig_reversed:=by kernel_rfl
theorem sNext:Slot "reversed" "__next__" "reversed.__next__" := .of (owner := "reversed") (n := "__next__") (by rw [typeLookup_type,builtinLookup_eq_fast];kernel_rfl) (by decide +kernel) (by decide +kernel) (by decide +kernel) (by first | exact .inl (by decide +kernel) | exact .inr (by decide +kernel)) (by rw [isSubtype_type];kernel_rfl)
theorem sIter:Slot "reversed" "__iter__" "reversed.__iter__" := .of (owner := "reversed") (n := "__iter__") (by rw [typeLookup_type,builtinLookup_eq_fast];kernel_rfl) (by decide +kernel) (by decide +kernel) (by decide +kernel) (by first | exact .inl (by decide +kernel) | exact .inr (by decide +kernel)) (by rw [isSubtype_type];kernel_rfl)
theorem aIter(a:Value):argsOk "reversed.__iter__" ⟨[a],[]⟩:=by
 unfold argsOk;rw [signature?_of (id := "reversed.__iter__") (n:=['_','_','r','e','t','i','_','_']) (o:=['d','e','s','r','e','v','e','r']) (by kernel_rfl) own1];kernel_rfl
theorem eIter:entryFor table "reversed.__iter__" = some Builtin.«dict_keyiterator.__iter__»:=entryFor_alias (id' := "dict_keyiterator.__iter__") (by kernel_rfl) (by first | rfl | decide +kernel | (unfold String.splitOn;simp +decide [String.splitOnAux])) (by decide +kernel) (by kernel_rfl)
end RV
namespace RV
def ob(l:Addr)(i:Int):Obj:={ cls:=.type "reversed",data:=.fields #[.ref l,rawInt i] }
def Is(h:Heap)(a l:Addr)(i:Int):Prop:=∃ o,h.get? a=some o/\o.cls=.type "reversed" /\ o.data=.fields #[.ref l,rawInt i]
theorem Is.typeIs{s:Shared}{a l:Addr}{i:Int}(x:Is s.heap a l i):s.TypeIs (.ref a) "reversed" := let ⟨o,ho,hc,_⟩:=x;⟨o,ho,hc⟩
theorem Is.at{h h':Heap}{a l:Addr}{i:Int}(x:Is h a l i)(e:∀ o,h.get? a=some o->h'.get? a=some o):Is h' a l i:=let ⟨o,ho,r⟩:=x;⟨o,e _ ho,r⟩
section
variable {prog:Program}{w:World}{A:Around}{E:Value->Shared->Prop}{s:Shared}
theorem iter{it l:Addr}{i:Int}{Q:Value->Shared->Prop}(hit:Is s.heap it l i)(h:Q (.ref it) s):wpAny (model prog w) A (pyIter (.ref it)) Q E s:=by
 refine wpAny_pyIter_slot hit.typeIs sIter (wpAny_call_entry sIter hit.typeIs eIter ?_ (aIter _))
 show wpAny _ _ (ret (.ref it)) _ _ s
 exact wpAny_pure ⟨_,rfl, "reversed",_,hit.typeIs,sNext.lookup,h⟩
end
end RV
section
variable {X:Cx}{tg a:Expr}{t:DTF}{p pos:Pos}
end
section
variable {X:Cx}{a:Expr}{p pos p2 pos2:Pos}
end
def zObj(TI TO:Addr)(old fl:Value):Obj:={ cls:=.type "zip",dict:=none,data:=.fields #[old,fl,.bool false,.ref TI,.ref TO],slots:=#[] }
def IsZ(h:Heap)(z TI TO:Addr)(old fl:Value):Prop:=h.get? z=some (zObj TI TO old fl)
def OldZ(old:Value):Prop:=old=.none\/∃ p:Addr,old=rawInt p
section
variable {prog:Program}{w:World}{A:Around}{E:Value->Shared->Prop}{s:Shared}
end
def ZSt(b1 b2:Bool)(z TI TO i1 i2 l1 l2:Addr)(k:Nat)(h:Heap):Prop:=∃ old fl a b,IsZ h z TI TO old fl/\OldZ old/\IsPair h TI (.ref i1) (.ref i2)/\IsPair h TO a b/\zIt b1 h i1 l1 k/\zIt b2 h i2 l2 k
theorem ZSt.keep{b1 b2:Bool}{z TI TO i1 i2 l1 l2:Addr}{k:Nat}{h h':Heap}(st:ZSt b1 b2 z TI TO i1 i2 l1 l2 k h)(kp:∀ b ∈ [z,TI,TO,i1,i2],∀ o,h.get? b=some o->h'.get? b=some o):ZSt b1 b2 z TI TO i1 i2 l1 l2 k h':=by
 obtain⟨old,fl,a,b,hz,ho,hI,hO,h1,h2⟩:=st
 exact⟨old,fl,a,b,kp _ (by simp) _ hz,ho,kp _ (by simp) _ hI,kp _ (by simp) _ hO,h1.at fun o e=>kp i1 (by simp) o e,h2.at fun o e=>kp i2 (by simp) o e⟩
section
variable {prog:Program}{w:World}{A:Around}{E:Value->Shared->Prop}{s:Shared}
end
section
variable {prog:Program}{w:World}{A:Around}{E:Value->Shared->Prop}{s:Shared}
end
section
variable {X:Cx}{a b:Expr}{p pos p2 pos2:Pos}{elts:List Expr}{tpos:Pos}
end
section
variable {X:Cx}
variable {o e:Expr}{to te:DTE}{apos cpos:Pos}
end
section
variable {X:Cx}{e:Expr}{tf:DTF}{pos:Pos}
end
section
variable (P:Program)(w:World)
end
section
variable {P:Program}{w:World}{H H':Hp}{h h':Heap}{a:Addr}{o:HO}
end
section
variable {P:Program}{w:World}{H:Hp}{h h':Heap}{x e:Addr}{o':HO}
end
section
variable {fs fs' ex ex':List Addr}{H H1 H2:Hp}{h h1 h2 h':Heap}{a x e:Addr}{o:HO}
end
section
variable {X:Cx}{pins:List (Addr×Obj)}{σ:List (Option V)}{H H':Hp}{s:Shared}{h':Heap}
end
section
variable {X:Cx}
variable {a b:Expr}{ta tb:TE}{pos:Pos}
variable {tA tB':TT}{rest:List Expr}
end
section
variable {X:Cx}{pins:List (Addr×Obj)}{σ:St}{H:Hp}{s:Shared}{a:Addr}{xs ys:List V}
end
section
variable {X:Cx}{pins:List (Addr×Obj)}{σ:St}{H:Hp}{s:Shared}{E:Value->Shared->Prop}
end
section
variable {X:Cx}{st:Stmt}{rest:List Stmt}{t u:TS}{e:Expr}{te:TE}{pos:Pos}
end
section
variable {X:Cx}{pos:Pos}
end
section
variable {X:Cx}{pos:Pos}
end
section
variable {X:Cx}{tg:Expr}
end
section
variable {X:Cx}{a b c:Expr}{ta tb tc:TE}{pos:Pos}
end
section
variable {X:Cx}{a b c:Expr}{ta tb tc:TE}{pos:Pos}
end
section
variable {prog:Program}{w:World}{A:Around}{E:Value->Shared->Prop}{s:Shared}{K:PySem.W.Frag}{x dx C f:Addr}{mA:Str->Option Value}{name:Str}{v:Value}
end
section
variable {P:Program}{w:World}{H H':Hp}{h h':Heap}{a C dx:Addr}{fs fs':List (Str×V)}
end
section
variable {X:Cx}{pins:List (Addr×Obj)}{σ:St}{H:Hp}{s:Shared}{a C dx:Addr}{fs:List (Str×V)}{f:Str}{v:V}{A:Around}{E:Value->Shared->Prop}
end
section
variable {X:Cx}{o e value:Expr}{f:Str}{pos pos' tpos:Pos}{ta tv:TE}
end
section
variable {X:Cx}{pins:List (Addr×Obj)}{σ:St}{H:Hp}{s:Shared}{A:Around}{E:Value->Shared->Prop}{Q:Value->Shared->Prop}{c:Value}{b:Bool}
end
section
variable {X:Cx}{e:Expr}{es:List Expr}{te:TE}{t:TA}{pos:Pos}
end
section
variable {X:Cx}{pins:List (Addr×Obj)}{σ:St}{H:Hp}{s s':Shared}
end
section
variable {X:Cx}{CX:CXT}{k:Nat}{f C:Addr}{fd:FuncData}{ps:List Str}{sp:Sp}{dvs:List V}{ds:List Value}{E:XK}{x m:Str}{p pos apos:Pos}{e o:Expr}{es:List Expr}{ta:TE}{t:TA}
end
section
variable {X:Cx}{CX:CXT}{k:Nat}{f C:Addr}{fd:FuncData}{ps ks:List Str}{sp:Sp}{E:XK}{x m:Str}{p pos apos kpos:Pos}{e o:Expr}{es:List Expr}{kws:List Keyword}{te ta:TE}{t tk:TA}{nm:Option Str}
variable {g:List Value->List Value->List Value}{gV:List V->List V->List V}
end
section
variable {X:Cx}{x:Str}{p pos:Pos}{e:Expr}{es:List Expr}{t:TA}{id T:String}{r:List V->Hp->VK->Prop}
end
section
variable {κ:Type}[DecidableEq κ]
def valV(kvs:List (κ×V))(k:κ):Option V:=(kvs.find? fun kv=>decide (kv.1=k)).map (·.2)
def putK(kvs:List (κ×V))(k:κ)(v:V):List (κ×V) :=
 if (kvs.any fun kv=>decide (kv.1=k))=true then kvs.map (fun kv=>if kv.1=k then (kv.1,v) else kv) else kvs ++ [(k,v)]
def dropK(kvs:List (κ×V))(k:κ):List (κ×V):=kvs.filter fun kv=>decide (kv.1≠k)
theorem valV_pos{p:κ×V}{r:List (κ×V)}{k:κ}(e:p.1=k):valV (p::r) k=some p.2:=by simp [valV,List.find?_cons,e]
theorem valV_neg{p:κ×V}{r:List (κ×V)}{k:κ}(e:¬ p.1=k):valV (p::r) k=valV r k:=by simp [valV,List.find?_cons,e]
theorem valV_any(k:κ):∀ kvs:List (κ×V),(kvs.any fun kv=>decide (kv.1=k))=(valV kvs k).isSome
 | []=>rfl
 | p::r=>by
  rw [List.any_cons]
  by_cases e:p.1=k
  ·simp only [valV_pos e,decide_eq_true e,Bool.true_or,Option.isSome_some]
  ·rw [valV_neg e,decide_eq_false e,Bool.false_or];exact valV_any k r
theorem length_putK(kvs:List (κ×V))(k:κ)(v:V):(putK kvs k v).length<=kvs.length+1:=by
 unfold putK
 split
 ·rw [List.length_map];omega
 ·rw [List.length_append,List.length_cons,List.length_nil];omega
theorem RelO.isSome_eq{o:Option V}{u:Option Value}(r:RelO o u):o.isSome=u.isSome:=by
 cases o with
 | none=>cases u with
  | none=>rfl
  | some _=>exact(show False from r).elim
 | some _=>cases u with
  | none=>exact(show False from r).elim
  | some _=>rfl
theorem RelO.getD{o:Option V}{u:Option Value}{d:V}{d':Value}(r:RelO o u)(rd:RelV d d'):RelV (o.getD d) (u.getD d'):=by
 cases o with
 | none=>cases u with
  | none=>exact rd
  | some _=>exact(show False from r).elim
 | some _=>cases u with
  | none=>exact(show False from r).elim
  | some _=>exact r
theorem KV.val{kvs:List (κ×V)}{vs:List (κ×Value)}(r:KV kvs vs)(k:κ):RelO (valV kvs k) (valueAt vs k):=by
 unfold KV at r
 induction r with
 | nil=>exact True.intro
 | @cons p q ps qs h t ih =>
  obtain⟨h1,h2⟩:=h
  by_cases e:p.1=k
  ·have e':q.1=k:=h1.symm.trans e
   have b:valueAt (q::qs) k=some q.2:=by simp [valueAt,List.find?_cons,e']
   rw [valV_pos e,b];exact h2
  ·have e':¬ q.1=k:=fun z=>e (h1.trans z)
   have b:valueAt (q::qs) k=valueAt qs k:=by simp [valueAt,List.find?_cons,e']
   rw [valV_neg e,b];exact ih
theorem KV.any{kvs:List (κ×V)}{vs:List (κ×Value)}(r:KV kvs vs)(k:κ):(kvs.any fun kv=>decide (kv.1=k))=vs.any fun kv=>decide (kv.1=k):=by
 unfold KV at r
 induction r with
 | nil=>rfl
 | cons h t ih=>rw [List.any_cons,List.any_cons,ih,h.1]
theorem KV.repl{kvs:List (κ×V)}{vs:List (κ×Value)}(r:KV kvs vs)(k:κ){y:V}{u:Value}(ry:RelV y u):
  KV (kvs.map fun kv=>if kv.1=k then (kv.1,y) else kv) (vs.map fun kv=>if kv.1=k then (kv.1,u) else kv):=by
 unfold KV at r ⊢
 induction r with
 | nil=>exact .nil
 | @cons p q ps qs h t ih =>
  rw [List.map_cons,List.map_cons]
  refine .cons ?_ ih
  obtain⟨h1,h2⟩:=h
  by_cases e:p.1=k
  ·rw [if_pos e,if_pos (h1.symm.trans e)];exact⟨h1,ry⟩
  ·rw [if_neg e,if_neg (fun z=>e (h1.trans z))];exact⟨h1,h2⟩
theorem KV.put{kvs:List (κ×V)}{vs:List (κ×Value)}(r:KV kvs vs)(k:κ){y:V}{u:Value}(ry:RelV y u):KV (putK kvs k y) (stored vs k u):=by
 unfold putK stored
 rw [r.any k]
 by_cases e:(vs.any fun kv=>decide (kv.1=k))=true
 ·rw [if_pos e,if_pos e];exact r.repl k ry
 ·rw [if_neg e,if_neg e];exact Paired.snoc r ⟨rfl,ry⟩
theorem KV.drop{kvs:List (κ×V)}{vs:List (κ×Value)}(r:KV kvs vs)(k:κ):KV (dropK kvs k) (without vs k):=by
 unfold KV at r ⊢
 unfold dropK without
 induction r with
 | nil=>exact .nil
 | @cons p q ps qs h t ih =>
  obtain⟨h1,h2⟩:=h
  rw [List.filter_cons,List.filter_cons]
  by_cases e:p.1=k
  ·have a:¬ decide (p.1≠k)=true:=by simp [e]
   have b:¬ decide (q.1≠k)=true:=by simp [h1.symm.trans e]
   rw [if_neg a,if_neg b];exact ih
  ·have e':¬ q.1=k:=fun z=>e (h1.trans z)
   have a:decide (p.1≠k)=true:=by simp [e]
   have b:decide (q.1≠k)=true:=by simp [e']
   rw [if_pos a,if_pos b];exact .cons ⟨h1,h2⟩ ih
theorem KV.length{kvs:List (κ×V)}{vs:List (κ×Value)}(r:KV kvs vs):kvs.length=vs.length:=Paired.length r
end
theorem kV_is{P:Program}{w:World}{k:Key}{u:Value}(r:RelV (kV k) u):(mixKind P w).is k u=true:=by
 cases k with
 | inl i=>obtain⟨t,e⟩:=(show ∃ t,u=Value.int i t from r);subst e;exact mixKind_int P w i t
 | inr x=>obtain⟨t,e⟩:=(show ∃ t,u=Value.str x t from r);subst e;exact mixKind_str P w x t
theorem items_are{P:Program}{w:World}:∀{ks:List Key} {us:List Value},Vals (ks.map kV) us->ItemsAre (mixKind P w) ks us
 | [],_,r=>by rw [List.map_nil] at r;cases r;exact .nil
 | k::ks,_,r=>by
  rw [List.map_cons] at r
  cases r with
  | cons h t=>exact .cons (kV_is h) (items_are t)
abbrev KT(H:Hp):List (List Key×V)->List (List Key×Addr×Value)->Prop:=Paired fun p q=>p.1=q.1/\H q.2.1=some (.tup (p.1.map kV))/\RelV p.2 q.2.2
theorem KT.val{H:Hp}{kvs:List (List Key×V)}{xs:List (List Key×Addr×Value)}(r:KT H kvs xs)(k:List Key):RelO (valV kvs k) ((atKey xs k).map (·.2)):=by
 induction r with
 | nil=>exact True.intro
 | @cons p q ps qs h t ih =>
  obtain⟨h1,_,h2⟩:=h
  by_cases e:p.1=k
  ·have e':q.1=k:=h1.symm.trans e
   have b:atKey (q::qs) k=some q.2:=by simp [atKey,List.find?_cons,e']
   rw [valV_pos e,b];exact h2
  ·have e':¬ q.1=k:=fun z=>e (h1.trans z)
   have b:atKey (q::qs) k=atKey qs k:=by simp [atKey,List.find?_cons,e']
   rw [valV_neg e,b];exact ih
theorem KT.repl{H:Hp}{kvs:List (List Key×V)}{xs:List (List Key×Addr×Value)}(r:KT H kvs xs)(k:List Key){y:V}{u:Value}(ry:RelV y u):
  KT H (kvs.map fun kv=>if kv.1=k then (kv.1,y) else kv) (xs.map (putAt k u)):=by
 induction r with
 | nil=>exact .nil
 | @cons p q ps qs h t ih =>
  rw [List.map_cons,List.map_cons]
  refine .cons ?_ ih
  obtain⟨h1,h2,h3⟩:=h
  unfold putAt
  by_cases e:p.1=k
  ·rw [if_pos e,if_pos (h1.symm.trans e)];exact⟨h1,h2,ry⟩
  ·rw [if_neg e,if_neg (fun z=>e (h1.trans z))];exact⟨h1,h2,h3⟩
theorem KT.put{H:Hp}{kvs:List (List Key×V)}{xs:List (List Key×Addr×Value)}(r:KT H kvs xs)(k:List Key){b:Addr}{y:V}{u:Value}(hb:H b=some (.tup (k.map kV)))(ry:RelV y u):
  KT H (putK kvs k y) (storedH xs k b u):=by
 have e:(kvs.any fun kv=>decide (kv.1=k))=(atKey xs k).isSome:=by
  rw [valV_any,(r.val k).isSome_eq,Option.isSome_map]
 unfold putK storedH
 rw [e]
 by_cases q:(atKey xs k).isSome=true
 ·rw [if_pos q,if_pos q];exact r.repl k ry
 ·rw [if_neg q,if_neg q];exact Paired.snoc r ⟨rfl,hb,ry⟩
theorem KT.keeps{H H':Hp}{kvs:List (List Key×V)}{xs:List (List Key×Addr×Value)}(r:KT H kvs xs)(ht:∀ b ys,H b=some (.tup ys)->H' b=some (.tup ys)):KT H' kvs xs :=
 Paired.mapP r fun _ _ z=>⟨z.1,ht _ _ z.2.1,z.2.2⟩
section
variable {P:Program}{w:World}{H:Hp}{h:Heap}{a:Addr}
theorem rd_of{u:HO}(ok:HOk P w H h)(e:Rd H a u):ObjOk P w H h a u:=e.ok ok
theorem dk_rd{kvs:List (Key×V)}(ok:HOk P w H h)(e:Rd H a (.dK kvs)):kvs.length<=sizeLine/\(a == sysModules)=false/\∃ vs,KV kvs vs/\h.DictOf (mixKind P w) a vs :=
 show ObjOk P w H h a (.dK kvs) from rd_of ok e
theorem dk_of{kvs:List (Key×V)}(ok:HOk P w H h)(e:H a=some (.dK kvs)):kvs.length<=sizeLine/\(a == sysModules)=false/\∃ vs,KV kvs vs/\h.DictOf (mixKind P w) a vs:=dk_rd ok (.inl e)
theorem key_of{ks:List Key}(ok:HOk P w H h)(e:H a=some (.tup (ks.map kV))):(tupleKind (mixKind P w)).is h ks a:=by
 obtain⟨_,its,r,o,h1,h2,⟨n,h3⟩,_⟩:=(show ObjOk P w H h a (.tup (ks.map kV)) from ok a _ e)
 exact⟨o,its.toArray,n,h1,h2,h3,by simpa using items_are r⟩
theorem dt_rd{kvs:List (List Key×V)}(ok:HOk P w H h)(e:Rd H a (.dT kvs)):kvs.length<=sizeLine/\(a == sysModules)=false /\
  ∃ xs,KT H kvs xs/\h.DictOfH (tupleKind (mixKind P w)) a xs:=by
 obtain⟨z,y,xs,r,o,es,ep,h1,h2,h3,h4,h5⟩:=(show ObjOk P w H h a (.dT kvs) from rd_of ok e)
 refine⟨z,y,xs,r,o,es,ep,h1,h2,h3,h4,fun x hx=>?_,h5⟩
 have all:∀{l:List (List Key×V)} {m:List (List Key×Addr×Value)},KT H l m->∀ x∈m,(tupleKind (mixKind P w)).is h x.1 x.2.1:=by
  intro l m q
  induction q with
  | nil=>intro x hx;exact nomatch hx
  | @cons p q ps qs hq t ih =>
   intro x hx
   rcases List.mem_cons.mp hx with e | hx
   ·subst e
    exact key_of ok (by rw [<-hq.1];exact hq.2.1)
   ·exact ih x hx
 exact all r x hx
theorem dt_of{kvs:List (List Key×V)}(ok:HOk P w H h)(e:H a=some (.dT kvs)):kvs.length<=sizeLine/\(a == sysModules)=false /\
  ∃ xs,KT H kvs xs/\h.DictOfH (tupleKind (mixKind P w)) a xs:=dt_rd ok (.inl e)
end
def DGet(H:Hp)(a:Addr)(y:V)(r:Option V):Prop :=
 (∃ kvs k,Rd H a (.dK kvs)/\y=kV k/\r=valV kvs k)\/∃ kvs k b,Rd H a (.dT kvs)/\y=.ref b/\H b=some (.tup (k.map kV))/\r=valV kvs k
def DPut(H:Hp)(a:Addr)(y v:V)(H':Hp):Prop :=
 (∃ kvs k,H a=some (.dK kvs)/\y=kV k/\kvs.length<sizeLine/\H'=upd H a (.dK (putK kvs k v))) \/
 ∃ kvs k b,H a=some (.dT kvs)/\y=.ref b/\H b=some (.tup (k.map kV))/\kvs.length<sizeLine/\H'=upd H a (.dT (putK kvs k v))
theorem DGet.k{H:Hp}{a:Addr}{kvs:List (Key×V)}{k:Key}(e:H a=some (.dK kvs)):DGet H a (kV k) (valV kvs k):=.inl ⟨kvs,k,.inl e,rfl,rfl⟩
theorem DGet.t{H:Hp}{a b:Addr}{kvs:List (List Key×V)}{k:List Key}(e:H a=some (.dT kvs))(eb:H b=some (.tup (k.map kV))):DGet H a (.ref b) (valV kvs k):=.inr ⟨kvs,k,b,.inl e,rfl,eb,rfl⟩
theorem DPut.k{H:Hp}{a:Addr}{kvs:List (Key×V)}{k:Key}{v:V}(e:H a=some (.dK kvs))(hl:kvs.length<sizeLine):DPut H a (kV k) v (upd H a (.dK (putK kvs k v))):=.inl ⟨kvs,k,e,rfl,hl,rfl⟩
theorem DPut.t{H:Hp}{a b:Addr}{kvs:List (List Key×V)}{k:List Key}{v:V}(e:H a=some (.dT kvs))(eb:H b=some (.tup (k.map kV)))(hl:kvs.length<sizeLine):
  DPut H a (.ref b) v (upd H a (.dT (putK kvs k v))):=.inr ⟨kvs,k,b,e,rfl,eb,hl,rfl⟩
section
variable {X:Cx}{pins:List (Addr×Obj)}{σ:St}{H:Hp}{s:Shared}{a:Addr}{y v:V}{u r:Value}{o:Option V}{A:Around}{E:Value->Shared->Prop}
theorem Inv.big(I:Inv X pins σ H s):sysModules<s.heap.objs.size:=by
 have h:mainGlobals<s.heap.objs.size:=(I.mod.glob.keeps I.bk).lt
 exact Nat.lt_trans (by decide) h
theorem d_getItem{Q:Value->Shared->Prop}(hu:A.units+1<cLine)(I:Inv X pins σ H s)(g:DGet H a y (some v))(ry:RelV y u)(h:∀ w' s',Inv X pins σ H s'->RelV v w'->Q w' s'):
  wpAny (model X.prog X.w) A (getItem (.ref a) u) Q E s:=by
 rcases g with⟨kvs,k,e,ey,l⟩ | ⟨kvs,k,b,e,ey,eb,l⟩
 ·subst ey
  obtain⟨z,hd,vs,rel,dd⟩:=dk_rd I.hok e
  obtain⟨w',hw,rw'⟩:=RelO.some_of (v:=v) (o:=valueAt vs k) (by rw [l];exact rel.val k)
  exact wpAny_getItem_of (kV_is ry) dd.mapOf hw (h w' _ (I.tok _) rw')
 ·subst ey
  cases (show u=Value.ref b from ry)
  obtain⟨z,hd,xs,rel,dd⟩:=dt_rd I.hok e
  obtain⟨w',hw,rw'⟩:=RelO.some_of (v:=v) (o:=(atKey xs k).map (·.2)) (by rw [l];exact rel.val k)
  obtain⟨p,hp,hp2⟩:=Option.map_eq_some_iff.mp hw
  refine wpAny_getItem_heap (tupleKind_room_in1 hu) (key_of I.hok eb) dd hp ?_
  rw [hp2]
  exact h w' _ (I.tok _) rw'
theorem d_write{h':Heap}{t':Nat}{ob:HO}(I:Inv X pins σ H s)(mu:Mut (H a))(hs:Heap.SameBut a s.heap h')(he:∃ q,h'.get? a=some q)(new:ObjOk X.prog X.w (upd H a ob) h' a ob):
  Inv X pins σ (upd H a ob) { s with heap:=h',toks:=t' } :=
 I.write (x:=a) (e:=a) mu (.inl rfl) (fun b q hb z=>(hs.2 b hb).trans z) he new
theorem dk_new{P:Program}{w:World}{H':Hp}{h':Heap}{kvs:List (Key×V)}{vs:List (Key×Value)}(z:kvs.length<=sizeLine)(hd:(a == sysModules)=false)(rel:KV kvs vs)(dd:h'.DictOf (mixKind P w) a vs):
  ObjOk P w H' h' a (.dK kvs):=⟨z,hd,vs,rel,dd⟩
theorem d_setItem{H':Hp}{Q:Unit->Shared->Prop}(hu:A.units+1<cLine)(I:Inv X pins σ H s)(g:DPut H a y v H')(ry:RelV y u)(rv:RelV v r)(h:∀ s',Inv X pins σ H' s'->Q () s'):
  wpAny (model X.prog X.w) A (setItem (.ref a) u r) Q E s:=by
 rcases g with⟨kvs,k,e,ey,l,eH⟩ | ⟨kvs,k,b,e,ey,eb,l,eH⟩
 ·subst ey eH
  obtain⟨z,hd,vs,rel,dd⟩:=dk_of I.hok e
  have hz:vs.length<=sizeLine:=by rw [<-rel.length];exact z
  have hl:(putK kvs k v).length<=sizeLine:=by have:=length_putK kvs k v;omega
  refine wpAny_setItem_pairs (hsz:=hz) (kV_is ry) dd fun h' dd' hs=>h _ ?_
  have he:∃ q,h'.get? a=some q:=let ⟨q,_,_,hq,_⟩:=dd';⟨q,hq⟩
  exact d_write I (by rw [e];exact True.intro) hs he (dk_new hl hd (rel.put k rv) dd')
 ·subst ey eH
  cases (show u=Value.ref b from ry)
  obtain⟨z,hd,xs,rel,dd⟩:=dt_of I.hok e
  have hz:xs.length<=sizeLine:=by rw [<-Paired.length rel];exact z
  have hl:(putK kvs k v).length<=sizeLine:=by have:=length_putK kvs k v;omega
  refine wpAny_setItem_heap (hsz:=hz) (tupleKind_room_in1 hu) (key_of I.hok eb) dd fun h' dd' hs=>h _ ?_
  obtain⟨q,es,ep,hq,h2,h3,h4,_,h5⟩:=dd'
  refine d_write I (by rw [e];exact True.intro) hs ⟨q,hq⟩ ⟨hl,hd,_,(rel.put k eb rv).keeps fun c ys ec=>?_,q,es,ep,hq,h2,h3,h4,h5⟩
  rw [upd_ne (ne_of ec e (fun z=>nomatch z))]
  exact ec
end
section
variable {X:Cx}{pins:List (Addr×Obj)}{σ:St}{H:Hp}{s:Shared}{a:Addr}{kvs:List (Key×V)}{k:Key}{u:Value}{A:Around}{E:Value->Shared->Prop}
end
def NoSl(i:Expr):Prop:=∀ ov iv,subscripted i false ov iv=operate [ov,iv] (getItem ov iv)
theorem subD_of{prog:Program}{w:World}{A:Around}{E:Value->Shared->Prop}{s:Shared}{env:Env}{value slice:Expr}{pos:Pos}{T id:String}{Q:Value->Shared->Prop}
  (hl:typeLookup (.type T) "__getitem__" = pure (some (.builtin id))) (hs:NoSl slice)
  (h:wpAny (model prog w) A (eval value env) (fun o s₁=>wpAny (model prog w) A (eval slice env) (fun i s₂=>s₂.TypeIs o T/\wpAny (model prog w) A (getItem o i) Q E s₂) E s₁) E s) :
  wpAny (model prog w) A (eval (.Subscript value slice pos) env) Q E s:=by
 refine Subscript_ (wpAny_mono h (fun o s₁ h₁=>wpAny_mono h₁ (fun i s₂ h₂=>?_) fun _ _ x=>x) fun _ _ x=>x)
 obtain⟨hT,h₂⟩:=h₂
 unfold subscriptTail
 refine wpAny_bind ?_
 rw [getitemInPython_of_ne hT.not_modules]
 refine wpAny_bind (wpAny_specialOf hT hl ?_)
 have fin:wpAny (model prog w) A (subscripted slice false o i) (fun r s₃=>wpAny (model prog w) A (letTemporaryGo value o r >>= fun _=>pure r) Q E s₃) E s₂:=by
  rw [hs o i]
  exact wpAny_operating (wpAny_mono h₂ (fun r s₃ h₃=>wpAny_bind (wpAny_letTemporaryGo (wpAny_pure h₃))) fun _ _ x=>x)
 first
  | exact wpAny_pure (wpAny_bind fin)
  | exact wpAny_bind (wpAny_pure (wpAny_bind fin))
  | exact wpAny_bind fin
theorem dict_typeIs{X:Cx}{pins:List (Addr×Obj)}{σ:St}{H:Hp}{s:Shared}{a:Addr}{y:V}{o:Option V}(I:Inv X pins σ H s)(g:DGet H a y o):s.TypeIs (.ref a) "dict" := by
 rcases g with⟨kvs,k,e,_,_⟩ | ⟨kvs,k,b,e,_,_,_⟩
 ·obtain⟨_,_,vs,_,dd⟩:=dk_rd I.hok e
  exact dd.typeIs
 ·obtain⟨_,_,xs,_,dd⟩:=dt_rd I.hok e
  exact dd.typeIs
def tDGet(td ty:TE):TE:=fun σ H Q=>td σ H fun x H1=>ty σ H1 fun y H2=>∃ a v,x=.ref a/\DGet H2 a y (some v)/\Q v H2
def sDPut(td ty tv:TE):TS:=fun D σ H=>tv σ H fun v H1=>td σ H1 fun x H2=>ty σ H2 fun y H3=>∃ a H4,x=.ref a/\DPut H3 a y v H4/\D.nx σ H4
section
variable {X:Cx}{o i e value:Expr}{pos pos' tpos:Pos}{td ty tv:TE}
theorem pe_dget(hu:X.A.units+1<cLine)(ho:PE X o td)(hi:PE X i ty)(hs:NoSl i):PE X (.Subscript o i pos) (tDGet td ty):=by
 intro pins s σ H Q I h
 refine subD_of PySem.F.slot_dict_getitem.lookup hs (thn (ho pins s σ H _ I h) fun u s1 ⟨x,H1,I1,rx,q1⟩=>thn (hi pins s1 σ H1 _ I1 q1) fun iv s2 ⟨y,H2,I2,ry,a,v,ex,g,q2⟩=>?_)
 subst ex
 obtain rfl:u=Value.ref a:=rx
 exact⟨dict_typeIs I2 g,d_getItem hu I2 g ry fun w' s3 I3 rw'=>⟨v,H2,I3,rw',q2⟩⟩
theorem ps_dput(hu:X.A.units+1<cLine)(ho:PE X o td)(hi:PE X i ty)(hv:PE X value tv)(hs:swapsWith value (some (.Subscript o i pos')) pos.line X.env=pure false):
  PS X (.Assign [.Subscript o i pos'] value pos) (sDPut td ty tv):=by
 intro pins s σ H D I h
 refine wpAny_Assign_Subscript (thn (hv pins s σ H _ I h) fun r s1 ⟨v,H1,I1,rv,q1⟩=>thn (ho pins s1 σ H1 _ I1 q1) fun u s2 ⟨x,H2,I2,rx,q2⟩=>thn (hi pins s2 σ H2 _ I2 q2) fun iv s3 ⟨y,H3,I3,ry,a,H4,ex,g,q3⟩=>?_) hs
 subst ex
 obtain rfl:u=Value.ref a:=rx
 exact d_setItem hu I3 g ry rv fun s4 I4=>⟨σ,H4,I4,q3⟩
end
theorem dk_empty{P:Program}{w:World}{H:Hp}(h:Heap)(hb:sysModules<h.objs.size):ObjOk P w H (h.push { cls:=.type "dict",data:=.dict #[] }) h.objs.size (.dK []) :=
 ⟨Nat.zero_le _,beq_eq_false_iff_ne.mpr (Ne.symm (Nat.ne_of_lt hb)),[],.nil,Heap.DictOf.new h⟩
def tDNewK:TE:=fun _ H Q=>∀ p,H p=none->Q (.ref p) (upd H p (.dK []))
section
variable {X:Cx}{pos:Pos}
theorem pe_dnewK:PE X (.Dict [] [] pos) tDNewK:=fun pins s σ H Q I h =>
 wpAny_Dict_empty ⟨.ref s.heap.objs.size,_,I.laid (a:=s.heap.objs.size) (o:=.dK []) (t':=s.toks) (fun _ _ q=>Heap.get?_push_of_some _ q) (Nat.le_refl _) (dk_empty s.heap I.big),rfl,h _ (I.hok.fresh (Nat.le_refl _))⟩
end
def tPairs:List (TE×TE)->St->Hp->(List (V×V)->Hp->Prop)->Prop
 | [],_,H,Q=>Q [] H
 | (tk,tv)::r,σ,H,Q=>tk σ H fun x H1=>tv σ H1 fun y H2=>tPairs r σ H2 fun ps H3=>Q ((x,y)::ps) H3
abbrev VV:List (V×V)->List (Value×Value)->Prop:=Paired fun p q=>RelV p.1 q.1/\RelV p.2 q.2
def PPs(X:Cx)(pos:Pos)(keys:List (Option Expr))(values:List Expr)(trs:List (TE×TE)):Prop :=
 ∀(pins:List (Addr×Obj)) (s:Shared) (σ:St) (H:Hp) (Q:List (V×V)->Hp->Prop),Inv X pins σ H s->tPairs trs σ H Q ->
  wpAny (model X.prog X.w) X.A (evalPairs (pairTrees keys values X.env pos)) (fun vs s'=>∃ ps H',Inv X pins σ H' s'/\VV ps vs/\Q ps H') X.xe s
theorem pps_nil{X:Cx}{pos:Pos}:PPs X pos [] [] []:=fun pins s σ H Q I h=>pairTrees_nil_walk ⟨[],H,I,.nil,h⟩
theorem pps_cons{X:Cx}{pos:Pos}{k v:Expr}{ks:List (Option Expr)}{vs:List Expr}{tk tv:TE}{trs:List (TE×TE)}(hk:PE X k tk)(hv:PE X v tv)(hr:PPs X pos ks vs trs):
  PPs X pos (some k::ks) (v::vs) ((tk,tv)::trs):=fun pins s σ H Q I h =>
 pairTrees_cons_walk (thn (hk pins s σ H _ I h) fun u s1 ⟨x,H1,I1,rx,q1⟩=>thn (hv pins s1 σ H1 _ I1 q1) fun w2 s2 ⟨y,H2,I2,ry,q2⟩ =>
  thn (hr pins s2 σ H2 _ I2 q2) fun ws s3 ⟨ps,H3,I3,rel,q3⟩=>⟨(x,y)::ps,H3,I3,.cons ⟨rx,ry⟩ rel,q3⟩)
def mergeK(kvs more:List (Key×V)):List (Key×V):=more.foldl (fun acc kv=>putK acc kv.1 kv.2) kvs
theorem KV.merge:∀{more:List (Key×V)} {rs:List (Key×Value)} {kvs:List (Key×V)} {vs:List (Key×Value)},KV more rs->KV kvs vs->KV (mergeK kvs more) (merged vs rs):=by
 intro more rs kvs vs r
 unfold KV at r
 induction r generalizing kvs vs with
 | nil=>intro q;exact q
 | @cons p q ps qs h t ih =>
  intro r0
  have e:KV (putK kvs p.1 p.2) (stored vs q.1 q.2):=by
   have:=r0.put p.1 h.2
   rw [<-h.1];exact this
  exact ih e
theorem length_mergeK:∀(more kvs:List (Key×V)),(mergeK kvs more).length<=kvs.length+more.length
 | [],kvs=>by show kvs.length<=kvs.length+0;omega
 | p::r,kvs=>by
  have h1:=length_mergeK r (putK kvs p.1 p.2)
  have h2:=length_putK kvs p.1 p.2
  show(mergeK (putK kvs p.1 p.2) r).length<=_
  rw [List.length_cons];omega
theorem carries_of{P:Program}{w:World}:∀{kvs:List (Key×V)} {ws:List (Value×Value)},VV (kvs.map fun kv=>(kV kv.1,kv.2)) ws->∃ rs,Carries (mixKind P w) ws rs/\KV kvs rs
 | [],_,r=>by rw [List.map_nil] at r;cases r;exact⟨[],True.intro,.nil⟩
 | p::kvs,_,r=>by
  rw [List.map_cons] at r
  cases r with
  | @cons a b as bs h t =>
   obtain⟨rs,c,q⟩:=carries_of (P:=P) (w:=w) t
   obtain⟨b1,b2⟩:=b
   exact⟨(p.1,b2)::rs,⟨kV_is h.1,rfl,c⟩,.cons ⟨rfl,h.2⟩ q⟩
def tDisp(trs:List (TE×TE)):TE:=fun σ H Q=>∀ p,H p=none->tPairs trs σ (upd H p (.dK [])) fun ps H2=>H2 p=some (.dK [])/\∃ kvs:List (Key×V),ps=kvs.map (fun kv=>(kV kv.1,kv.2))/\kvs.length<=15/\Q (.ref p) (upd H2 p (.dK (mergeK [] kvs)))
theorem pe_disp{X:Cx}{pos:Pos}{keys:List (Option Expr)}{values:List Expr}{trs:List (TE×TE)}(h:PPs X pos keys values trs)(hall:keys.all (·.isSome)=true)(hl:keys.length=values.length)(h0:keys ≠ [])
  (h15:keys.length<=15):PE X (.Dict keys values pos) (tDisp trs):=by
 intro pins s σ H Q I q
 have hn:=I.hok.fresh (Nat.le_refl s.heap.objs.size)
 have I1:=I.laid (a:=s.heap.objs.size) (o:=.dK []) (h':=s.heap.push { cls:=.type "dict",data:=.dict #[] }) (t':=s.toks) (fun _ _ q=>Heap.get?_push_of_some _ q) (Nat.le_refl _) (dk_empty s.heap I.big)
 refine wpAny_Dict_walk (knd:=mixKind X.prog X.w) hall hl h0 h15 (thn (h pins _ σ _ _ I1 (q _ hn)) fun ws s2 ⟨ps,H2,I2,rel,e,kvs,ep,lk,q2⟩=>?_)
 subst ep
 obtain⟨rs,c,rk⟩:=carries_of (P:=X.prog) (w:=X.w) rel
 obtain⟨z,hd,vs0,r0,dd⟩:=dk_of I2.hok e
 cases r0
 refine⟨rs,c,dd,fun h' dd' hs=>⟨.ref s.heap.objs.size,_,?_,rfl,q2⟩⟩
 have hz:(mergeK [] kvs).length<=sizeLine:=by
  have h1:=length_mergeK kvs []
  rw [List.length_nil] at h1
  rw [sizeLine_eq];omega
 have he:∃ q,h'.get? s.heap.objs.size=some q:=let ⟨q,_,_,hq,_⟩:=dd';⟨q,hq⟩
 exact d_write I2 (by rw [e];exact True.intro) hs he (dk_new hz hd (rk.merge .nil) dd')
structure M1(X:Cx)(o:Expr)(m:Str)(apos:Pos)(e:Expr)(cpos:Pos):Prop where
 base:attributeBase o m X.env (eval o X.env)=eval o X.env
 few:((backTo cpos (starEach [e] X.env)).all (fun x=>!x.1) && (backToKw cpos (keywordEach [] X.env)).all (fun x=>x.1.isSome)
  && decide (([e]:List Expr).length+([]:List Keyword).length+(if ([]:List Keyword).isEmpty then 0 else 1)<30))=true
 line:(apos.endLine == cpos.line)=true
 trees:backTo cpos (starEach [e] X.env) = [(false,eval e X.env)]
structure M2(X:Cx)(o:Expr)(m:Str)(apos:Pos)(e f:Expr)(cpos:Pos):Prop where
 base:attributeBase o m X.env (eval o X.env)=eval o X.env
 few:((backTo cpos (starEach [e,f] X.env)).all (fun x=>!x.1) && (backToKw cpos (keywordEach [] X.env)).all (fun x=>x.1.isSome)
  && decide (([e,f]:List Expr).length+([]:List Keyword).length+(if ([]:List Keyword).isEmpty then 0 else 1)<30))=true
 line:(apos.endLine == cpos.line)=true
 trees:backTo cpos (starEach [e,f] X.env) = [(false,eval e X.env),(false,eval f X.env)]
def IsD(H:Hp)(a:Addr):Prop:=(∃ kvs,Rd H a (.dK kvs))\/∃ kvs,Rd H a (.dT kvs)
theorem isD_at{X:Cx}{pins:List (Addr×Obj)}{σ:St}{H:Hp}{s:Shared}{a:Addr}(I:Inv X pins σ H s)(d:IsD H a):
  s.TypeIs (.ref a) "dict" /\(∀ b,Value.ref a=.ref b->∃ ob,s.heap.get? b=some ob/\ob.dict=none)/\(a == sysModules)=false:=by
 rcases d with⟨kvs,e⟩ | ⟨kvs,e⟩
 ·obtain⟨_,hd,vs,_,dd⟩:=dk_rd I.hok e
  refine⟨dd.typeIs,fun b q=>?_,hd⟩
  cases q
  obtain⟨ob,_,_,h1,h2,_⟩:=dd
  exact⟨ob,h1,h2.2.1⟩
 ·obtain⟨_,hd,xs,_,dd⟩:=dt_rd I.hok e
  refine⟨dd.typeIs,fun b q=>?_,hd⟩
  cases q
  obtain⟨ob,_,_,h1,h2,_⟩:=dd
  exact⟨ob,h1,h2.2.1⟩
section
variable {X:Cx}{pins:List (Addr×Obj)}{σ:St}{H:Hp}{s:Shared}{a:Addr}{y d:V}{u r:Value}{o:Option V}{A:Around}{E:Value->Shared->Prop}
theorem d_get2{Q:Value->Shared->Prop}(hu:A.units+1<cLine)(I:Inv X pins σ H s)(g:DGet H a y o)(ry:RelV y u)(rd:RelV d r)(h:∀ w' s',Inv X pins σ H s'->RelV (o.getD d) w'->Q w' s'):
  wpAny (model X.prog X.w) A (call (.builtin "dict.get") [.ref a,u,r]) Q E s:=by
 rcases g with⟨kvs,k,e,ey,l⟩ | ⟨kvs,k,b,e,ey,eb,l⟩
 ·subst ey
  obtain⟨z,hd,vs,rel,dd⟩:=dk_rd I.hok e
  refine call_meetsIn PySem.F.slot_dict_get dd.typeIs PySem.F.entry_dict_get (PySem.F.args_dict_get_3 _ _ _) (meets_dict_get_default (mixKind X.prog X.w) a (kV_is ry) hd r) ⟨_,dd.mapOf,h _ _ (I.tok _) ?_⟩
  rw [l]
  exact(rel.val k).getD rd
 ·subst ey
  cases (show u=Value.ref b from ry)
  obtain⟨z,hd,xs,rel,dd⟩:=dt_rd I.hok e
  refine call_meetsIn PySem.F.slot_dict_get dd.typeIs PySem.F.entry_dict_get (PySem.F.args_dict_get_3 _ _ _) (meetsH_dict_get_default (tupleKind (mixKind X.prog X.w)) a b hd r) ⟨tupleKind_room_in1 hu,k,xs,key_of I.hok eb,dd,h _ _ (I.tok _) ?_⟩
  rw [l]
  exact(rel.val k).getD rd
end
def tDGet2(td ty tx:TE):TE:=fun σ H Q=>td σ H fun x H1=>∃ a,x=.ref a/\IsD H1 a/\ty σ H1 fun y H2=>tx σ H2 fun z H3=>∃ o,DGet H3 a y o/\Q (o.getD z) H3
section
variable {X:Cx}{o e f:Expr}{apos cpos:Pos}{td ty tx:TE}
theorem pe_dget2(hu:X.A.units+1<cLine)(ho:PE X o td)(he:PE X e ty)(hf:PE X f tx)(m:M2 X o "get" apos e f cpos):PE X (.Call (.Attribute o "get" apos) [e,f] [] cpos) (tDGet2 td ty tx):=by
 intro pins s σ H Q I h
 refine wpAny_Call_method m.base m.few m.line PySem.F.plainAttrs_dict PySem.F.slot_dict_get PySem.F.type_dict_get (thn (ho pins s σ H _ I h) fun u s1 ⟨x,H1,I1,rx,a,ex,d,q1⟩=>?_)
 subst ex
 obtain rfl:u=Value.ref a:=rx
 obtain⟨t1,t2,_⟩:=isD_at I1 d
 refine⟨t1,t2,?_⟩
 rw [m.trees]
 refine Calls.callWith_builtin rfl (Calls.evalArgs_plain (Calls.spliced_cons (thn (he pins s1 σ H1 _ I1 q1) fun iv s2 ⟨y,H2,I2,ry,q2⟩ =>
  Calls.spliced_cons (thn (hf pins s2 σ H2 _ I2 q2) fun fv s3 ⟨z,H3,I3,rz,ov,g,q3⟩=>Calls.spliced_nil ?_))))
 exact d_get2 hu I3 g ry rz fun w' s4 I4 rw'=>⟨_,H3,I4,rw',q3⟩
end
section
variable {X:Cx}{pins:List (Addr×Obj)}{σ:St}{H:Hp}{s:Shared}{a:Addr}{kvs:List (Key×V)}{A:Around}{E:Value->Shared->Prop}
end
section
variable {X:Cx}{pins:List (Addr×Obj)}{σ:St}{H:Hp}{s:Shared}{a:Addr}{y:V}{u:Value}{A:Around}{E:Value->Shared->Prop}
end
end L2
namespace Att
open PySem PySem.W PySem.Calls PyProof.Rows
section
variable {prog:Program}{w:World}{A:Around}{E:Value->Shared->Prop}{s:Shared}{K:Frag}
end
end Att
namespace L2
open PySem PySem.Spec PyProof.Rows
section
variable {P:Program}{w:World}{K:PySem.W.Frag}{mg:Str->Option Value}{base:Heap}
end
section
variable {X:Cx}
end
section
variable {κ:Type}[DecidableEq κ]
end
def getK(ks:List (Key×D))(k:Key):Option D:=(ks.find? fun kv=>decide (kv.1=k)).map (·.2)
def setK(ks:List (Key×D))(k:Key)(d:D):List (Key×D):=if (ks.any fun kv=>decide (kv.1=k))=true then ks.map (fun kv=>if kv.1=k then (kv.1,d) else kv) else ks ++ [(k,d)]
section
variable {K:PySem.W.Frag}{H H':Hp}
theorem RepKV.split{ks:List (Key×D)}{vs:List (Key×V)}{p:Key×D}(h:RepKV K H (p::ks) vs):∃ v vs',vs=(p.1,v)::vs'/\Rep K H p.2 v/\RepKV K H ks vs':=by
 obtain⟨h1,h2⟩:=h
 cases vs with
 | nil=>cases h1
 | cons q vs =>
  obtain⟨k,v⟩:=q
  rw [List.map_cons,List.map_cons,List.cons.injEq] at h1
  rw [List.map_cons,List.map_cons] at h2
  cases h2 with
  | cons r t =>
   obtain⟨e,e2⟩:=h1
   have e':p.1=k:=e
   subst e'
   exact⟨v,vs,rfl,r,e2,t⟩
theorem RepKV.cons{ks:List (Key×D)}{vs:List (Key×V)}{k:Key}{d:D}{v:V}(r:Rep K H d v)(h:RepKV K H ks vs):RepKV K H ((k,d)::ks) ((k,v)::vs):=⟨by simp [h.1],.cons r h.2⟩
theorem RepKV.nil':RepKV K H [] []:=⟨rfl,.nil⟩
theorem RepKV.same{ks:List (Key×D)}{vs:List (Key×V)}(h:RepKV K H ks vs)(s:Same H H'):RepKV K H' ks vs:=⟨h.1,h.2.same s⟩
theorem RepKV.len{ks:List (Key×D)}{vs:List (Key×V)}(h:RepKV K H ks vs):ks.length=vs.length:=by
 have:=congrArg List.length h.1
 simpa using this
theorem RepKV.get:∀{ks:List (Key×D)} {vs:List (Key×V)} {k:Key} {d:D},RepKV K H ks vs->getK ks k=some d->∃ v,valV vs k=some v/\Rep K H d v
 | [],_,_,_,_,e=>by cases e
 | p::ks,vs,k,d,h,e=>by
  obtain⟨v,vs',rfl,r,t⟩:=h.split
  by_cases c:p.1=k
  ·rw [valV_pos (p:=(p.1,v)) c]
   have:getK (p::ks) k=some p.2:=by simp [getK,List.find?_cons,c]
   rw [this] at e
   cases e
   exact⟨v,rfl,r⟩
  ·rw [valV_neg (p:=(p.1,v)) c]
   have:getK (p::ks) k=getK ks k:=by simp [getK,List.find?_cons,c]
   rw [this] at e
   exact RepKV.get t e
theorem RepKV.any:∀{ks:List (Key×D)} {vs:List (Key×V)} (k:Key),RepKV K H ks vs->(ks.any fun kv=>decide (kv.1=k))=vs.any fun kv=>decide (kv.1=k)
 | [],vs,k,h=>by
  cases vs with
  | nil=>rfl
  | cons q vs=>cases h.1
 | p::ks,vs,k,h=>by
  obtain⟨v,vs',rfl,r,t⟩:=h.split
  rw [List.any_cons,List.any_cons,RepKV.any k t]
theorem RepKV.map:∀{ks:List (Key×D)} {vs:List (Key×V)} {k:Key} {d:D} {v:V},RepKV K H ks vs->Rep K H d v->RepKV K H (ks.map fun kv=>if kv.1=k then (kv.1,d) else kv) (vs.map fun kv=>if kv.1=k then (kv.1,v) else kv)
 | [],vs,k,d,v,h,_=>by
  cases vs with
  | nil=>exact RepKV.nil'
  | cons q vs=>cases h.1
 | p::ks,vs,k,d,v,h,rd=>by
  obtain⟨v',vs',rfl,r,t⟩:=h.split
  rw [List.map_cons,List.map_cons]
  have ih:=RepKV.map (k:=k) t rd
  obtain⟨pk,pd⟩:=p
  by_cases c:pk=k
  ·simp only [c,if_true]
   exact RepKV.cons rd ih
  ·simp only [c,if_false]
   exact RepKV.cons r ih
theorem RepKV.snoc:∀{ks:List (Key×D)} {vs:List (Key×V)} {k:Key} {d:D} {v:V},RepKV K H ks vs->Rep K H d v->RepKV K H (ks ++ [(k,d)]) (vs ++ [(k,v)])
 | [],vs,k,d,v,h,rd=>by
  cases vs with
  | nil=>exact RepKV.cons rd RepKV.nil'
  | cons q vs=>cases h.1
 | p::ks,vs,k,d,v,h,rd=>by
  obtain⟨v',vs',rfl,r,t⟩:=h.split
  obtain⟨pk,pd⟩:=p
  exact RepKV.cons r (RepKV.snoc t rd)
theorem RepKV.put{ks:List (Key×D)}{vs:List (Key×V)}{k:Key}{d:D}{v:V}(h:RepKV K H ks vs)(rd:Rep K H d v):RepKV K H (setK ks k d) (putK vs k v):=by
 unfold setK putK
 rw [h.any k]
 split
 ·exact h.map rd
 ·exact h.snoc rd
end
section
variable {K:PySem.W.Frag}{H₀ H H':Hp}{σD:DSt}{σ:St}
theorem DOk.setOD{H1:Hp}(h:DOk K H₀ H1 σD σ)(s1:Same H1 H){a:Addr}{vs:List (Key×V)}{xs:List (Key×D)}(n:H1 a=none)(e:H a=some (.dK vs))(r:RepKV K H xs vs)(i:Nat):DOk K H₀ H (σD.set i (some (.own (.dct xs)))) (σ.set i (some (.ref a))):=by
 obtain⟨s,fp,sl,nd,fr⟩:=id h
 have lv:∀ b∈fp,b≠a:=fun b hb z=>by
  obtain⟨u,e1,_⟩:=sl.live b hb
  rw [z,n] at e1;cases e1
 obtain⟨s',fp',sl',_⟩:=id (h.after s1)
 have sl2:Slots K H₀ H σD σ fp:=sl.keep s1.pers (fun h=>h.same s1) fun b _ u e=>s1 b u e
 by_cases hi:i<σD.length
 ·obtain⟨g,g',e',sb⟩:=sl2.set (f:=[a]) (w:=some (.own (.dct xs))) (v:=some (.ref a)) (fun t=>.own ⟨a,vs,rfl,rfl,e,r⟩ t) i hi
  refine⟨s',_,e',?_,fun b hb=>?_⟩
  ·have nd2:=sb.nodup nd
   rw [List.nodup_append] at nd2 ⊢
   refine⟨nd2.1,?_,fun x hx y hy=>?_⟩
   ·rw [List.singleton_append,List.nodup_cons]
    exact⟨fun z=>lv a (sb.subset (List.mem_append_right _ z)) rfl,nd2.2.1⟩
   ·rcases List.mem_append.mp hy with z | z
    ·rw [List.mem_singleton.mp z];exact lv x (sb.subset (List.mem_append_left _ hx))
    ·exact nd2.2.2 x hx y z
  ·rcases List.mem_append.mp hb with z | z
   ·exact fr b (sb.subset (List.mem_append_left _ z))
   ·rcases List.mem_append.mp z with z | z
    ·rw [List.mem_singleton.mp z]
     cases q:H₀ a with
     | none=>rfl
     | some u=>rw [s a u q] at n;cases n
    ·exact fr b (sb.subset (List.mem_append_right _ z))
 ·rw [List.set_eq_of_length_le (by omega),List.set_eq_of_length_le (by rw [<-sl2.length];omega)]
  exact⟨s',fp,sl2,nd,fr⟩
end
section
variable {X:Cx}{e:Expr}{te tk tv:DTE}{pos:Pos}
def dSetD(i:Nat):DTS:=fun Dn σ=>Dn.nx (σ.set i (some (.own (.dct []))))
theorem ds_setD{i:Nat}{x:Str}{pos' p2:Pos}(hN:X.N.Nodup)(hi:X.N[i]?=some x)(hx:Loc X.env.scope x)(hs:swapsWith (.Dict [] [] p2) (some (.Name x pos')) pos.line X.env=pure false:=by rfl)(hf:X.fn x=true\/X.env.scope.names.lookup x=some .local:=by first | exact .inl rfl | exact .inr rfl | assumption):
  DS X (.Assign [.Name x pos'] (.Dict [] [] p2) pos) (dSetD i) :=
 DS.of (ps_set hN hi hx pe_dnewK hs hf) fun σ H H₀ σD Dn ok q=>fun p hp=>⟨_,ok.setOD (same_new hp _) hp upd_same RepKV.nil' i,(same_new hp _).pers,q⟩
def dGetD(i:Nat)(tk:DTE):DTE:=fun σ Q=>match σ[i]? with
 | some (some (.own (.dct ks)))=>tk σ fun k=>match k with
  | .int n=>∃ d,getK ks (Sum.inl n)=some d/\Q d
  | .str n=>∃ d,getK ks (Sum.inr n)=some d/\Q d
  | _=>False
 | some (some (.vd ks))=>tk σ fun k=>match k with
  | .int n=>∃ d,getK ks (Sum.inl n)=some d/\Q d
  | .str n=>∃ d,getK ks (Sum.inr n)=some d/\Q d
  | _=>False
 | _=>False
theorem de_getD(i:Nat){x:Str}{k:Expr}{p1:Pos}{m:Nat}(hr:Room m X.A)(hk:DE X k tk)(hN:X.N[i]?=some x:=by rfl)(hvis:Vis X.env.scope x:=by first | exact Or.inl rfl | exact Or.inr (Or.inl rfl) | exact Or.inr (Or.inr rfl))(hd:(x == ("__debug__" : Str))=false:=by decide)(hcd:(x == ("__classdict__" : Str))=false:=by decide)(hs:NoSl k:=by exact fun _ _=>rfl):
  DE X (.Subscript (.Name x p1) k pos) (dGetD i tk) :=
 DE.of (pe_dget (by have:=hr.un;omega) (pe_var (i:=i) hN hvis hd hcd) hk.pe hs) fun σ H H₀ σD QD ok q=>by
  have key:∀{a:Addr} {vs:List (Key×V)} {ks:List (Key×D)},H a=some (.dK vs)->RepKV X.K H ks vs->∀(v2:V) (H2:Hp) (d2:D),Same H H2->Rep X.K H2 d2 v2->(match d2 with | .int n=>∃ d,getK ks (Sum.inl n)=some d/\QD d | .str n=>∃ d,getK ks (Sum.inr n)=some d/\QD d | _=>False) ->
    ∃ a' v,V.ref a=.ref a'/\DGet H2 a' v2 (some v)/\∃ d,Same H H2/\Rep X.K H2 d v/\QD d:=fun{a vs ks} e2 r v2 H2 d2 s2 r2 q2=>by
   cases d2 with
   | int n' =>
    cases r2
    obtain⟨d,hg,q3⟩:=q2
    obtain⟨v,hv,rv⟩:=(r.same s2).get hg
    exact⟨a,v,rfl,hv ▸ DGet.k (k:=Sum.inl n') (s2 _ _ e2),d,s2,rv,q3⟩
   | str n' =>
    cases r2
    obtain⟨d,hg,q3⟩:=q2
    obtain⟨v,hv,rv⟩:=(r.same s2).get hg
    exact⟨a,v,rfl,hv ▸ DGet.k (k:=Sum.inr n') (s2 _ _ e2),d,s2,rv,q3⟩
   | _=>exact q2.elim
  unfold dGetD at q
  split at q
  ·next ks eo =>
   obtain⟨a,vs,e1,e2,r,n⟩:=ok.ownD eo
   exact⟨.ref a,e1,H₀,σD,_,ok,q,fun v2 H2 d2 s2 r2 q2=>key e2 r v2 H2 d2 s2 r2 q2⟩
  ·next ks eo =>
   obtain⟨v,e1,a,vs,rfl,e2,r⟩:=ok.vd eo
   exact⟨.ref a,e1,H₀,σD,_,ok,q,fun v2 H2 d2 s2 r2 q2=>key e2 r v2 H2 d2 s2 r2 q2⟩
  ·exact q.elim
end
section
variable {X:Cx}
variable {o e:Expr}{to te:DTE}{apos cpos:Pos}
end
end L2
namespace SQ
open PySem PyProof.Rows
set_option autoImplicit false
section
variable {κ:KeyKind}
variable {prog:Program}{w:World}{A:Around}{E:Value->Shared->Prop}{s:Shared}{κ:KeyKind}{kd:SortKind}{a₀:Array Keyed}
theorem q_sortRunsS{st:SortSt}{Q:Unit->SortSt->Prop}(L:LtOk prog w A s κ kd)(h0:KeysOf κ a₀)(g:SG kd a₀ st)(hp:pendingOf st = #[])(h2:2<=a₀.size)(h64:a₀.size<64)(q:∀ st',SG kd a₀ st'->SortedToK κ (arrOf st') a₀.size->Q () st'):wpS (model prog w) A E s sortRuns' Q st:=by
 rw [sortRuns'_eq]
 refine wpS_bind (wpS_get ?_)
 dsimp only
 simp only [g.sz]
 have emr:minRun' a₀.size a₀.size 0=a₀.size:=by
  obtain⟨m,hm⟩:∃ m,a₀.size=m+1:=⟨a₀.size-1,by omega⟩
  conv=>lhs;arg 1;rw [hm]
  rw [minRun'_succ,if_pos h64,Nat.add_zero]
 rw [emr]
 refine wpS_bind (wpS_mono (wpS_forRange (I:=fun x c z=>∃ lo,c=(none,lo)/\SG kd a₀ z/\Cov κ (arrOf z) 0 (pendingOf z).toList lo/\lo<=a₀.size/\x<=lo/\((lo=0/\pendingOf z = #[])\/(lo=a₀.size/\(pendingOf z).size<=1)))
  (Q:=fun c z=>c=(none,a₀.size)/\SG kd a₀ z/\Cov κ (arrOf z) 0 (pendingOf z).toList a₀.size/\(pendingOf z).size<=1) (fun x c z hx1 hx2 h=>?_) (fun c z h=>?_) ⟨0,rfl,g,by rw [hp];rfl,by omega,by omega,.inl ⟨rfl,hp⟩⟩) (fun c z h=>?_))
 ·obtain⟨lo,rfl,gz,cv,l1,l2,l3⟩:=h
  dsimp only
  refine wps_ite (fun c=>?_) (fun c=>?_)
  ·have e9:lo=a₀.size:=by omega
   subst e9
   refine wpS_pure ⟨rfl,gz,cv,?_⟩
   rcases l3 with⟨z,_⟩ | ⟨_,z⟩
   ·omega
   ·exact z
  obtain⟨rfl,hpz⟩:lo=0/\pendingOf z = #[]:=by
   rcases l3 with z | ⟨z,_⟩
   ·exact z
   ·omega
  refine wpS_bind (q_countRun L h0 gz (by omega) (by omega) fun k z1 g1 mv k1 k2 u=>?_)
  have hp1:pendingOf z1 = #[]:=by rw [mv.pend];exact hpz
  have cv1:Cov κ (arrOf z1) 0 (pendingOf z1).toList 0:=by rw [hp1];rfl
  dsimp only
  refine wps_ite (fun cm=>?_) (fun cm=>?_)
  ·refine wpS_bind (wpS_lift (wpAny_rule ⟨rfl,?_⟩))
   refine wpS_bind (q_insert L h0 g1 (by omega) (by omega) u fun z2 g2 mv2 u2=>?_)
   rw [if_neg (by decide)]
   have hp2:pendingOf z2 = #[]:=by rw [mv2.pend];exact hp1
   have cv2:Cov κ (arrOf z2) 0 (pendingOf z2).toList 0:=by rw [hp2];rfl
   refine wpS_bind (wpS_get ?_)
   cases hb:(pendingOf z2).back? with
   | none =>
    dsimp only
    refine wpS_bind (wpS_modify (wpS_pure ⟨0+(min (a₀.size-0) a₀.size),rfl,⟨g2.perm,g2.kind,g2.fail⟩,?_,by omega,by omega,.inr ⟨by omega,?_⟩⟩))
    ·show Cov κ (arrOf z2) 0 ((pendingOf z2).push (0,min (a₀.size-0) a₀.size,0)).toList (0+(min (a₀.size-0) a₀.size))
     rw [Array.toList_push]
     exact cv2.push (by omega) u2
    ·show((pendingOf z2).push (0,min (a₀.size-0) a₀.size,0)).size<=1
     rw [hp2]
     exact Nat.le_refl 1
   | some t=>rw [hp2] at hb;cases hb
  ·refine wpS_bind (wpS_get ?_)
   cases hb:(pendingOf z1).back? with
   | none =>
    dsimp only
    refine wpS_bind (wpS_modify (wpS_pure ⟨0+(k),rfl,⟨g1.perm,g1.kind,g1.fail⟩,?_,by omega,by omega,.inr ⟨by omega,?_⟩⟩))
    ·show Cov κ (arrOf z1) 0 ((pendingOf z1).push (0,k,0)).toList (0+(k))
     rw [Array.toList_push]
     exact cv1.push k1 u
    ·show((pendingOf z1).push (0,k,0)).size<=1
     rw [hp1]
     exact Nat.le_refl 1
   | some t=>rw [hp1] at hb;cases hb
 ·obtain⟨lo,rfl,gz,cv,l1,l2,l3⟩:=h
  have e9:lo=a₀.size:=by omega
  subst e9
  refine⟨rfl,gz,cv,?_⟩
  rcases l3 with⟨z,_⟩ | ⟨_,z⟩
  ·omega
  ·exact z
 ·obtain⟨rfl,gz,cv,hz1⟩:=h
  dsimp only
  refine wpS_bind (wpS_mono (wpS_forRange (I:=fun x c z=>c=(none,())/\SG kd a₀ z/\Cov κ (arrOf z) 0 (pendingOf z).toList a₀.size/\(pendingOf z).size<=1)
   (Q:=fun c z=>c=(none,())/\SG kd a₀ z/\Cov κ (arrOf z) 0 (pendingOf z).toList a₀.size/\(pendingOf z).size<=1) (fun x c z hx1 hx2 h=>?_) (fun c z h=>h) ⟨rfl,gz,cv,hz1⟩) (fun c z h=>?_))
  ·obtain⟨rfl,gz,cv,hz⟩:=h
   refine wpS_bind (wpS_get ?_)
   exact wps_ite (fun c=>wpS_pure ⟨rfl,gz,cv,c⟩) (fun c=>absurd hz c)
  ·obtain⟨rfl,gz,cv,hz⟩:=h
   refine wpS_pure (q z gz fun i j a b=>?_)
   have:∀ l:List (Nat×Nat×Nat),l.length<=1->Cov κ (arrOf z) 0 l a₀.size->Up κ (arrOf z) 0 a₀.size:=by
    intro l hl c
    match l,hl,c with
    | [],_,c=>have:0=a₀.size:=c;omega
    | [(b,n,p)],_,c =>
     obtain⟨_,_,u,e⟩:=c
     have e':0+n=a₀.size:=e
     rw [Nat.zero_add] at e'
     rw [<-e']
     exact u
   exact this _ (by simpa using hz) cv i j (Nat.zero_le _) a (by omega)
end
section
variable {prog:Program}{w:World}{A:Around}{E:Value->Shared->Prop}{s:Shared}
theorem q_listSortS{κ:KeyKind}{kd:SortKind}{a:Addr}{vs:List Value}{n:Nat}{P:Fin->Shared->Prop}(ho:s.heap.get? a=some (seqObj "list" vs.toArray n))(hz:vs.length<=sizeLine)(h64:vs.length<64)
  (L:∀ h':Heap,(∀ b o,b≠a->s.heap.get? b=some o->h'.get? b=some o)->LtOk prog w A { s with heap:=h' } κ kd) (h0:KeysOf κ (pairsOf vs))
  (hkk:2<=vs.length->∀(h':Heap) (Q:SortKind->Shared->Prop),(∀ b o,b≠a->s.heap.get? b=some o->h'.get? b=some o)->Q kd { s with heap:=h' }->wpAny (model prog w) A (keyKind' vs.toArray) Q E { s with heap:=h' })
  (h:∀ out:Array Keyed,out.Perm (pairsOf vs)->SortedToK κ out (pairsOf vs).size->P (.done (.ret .none)) { s with heap:=sortedHeap s.heap a vs (out.map (·.2)) }) :
  wpAny (model prog w) A (Builtin.«list.sort» ⟨[.ref a],[]⟩) P E s:=by
 rw [list_sort_plain]
 have la:a<s.heap.objs.size:=Heap.lt_size ho
 refine wpAny_bind (listItems_at ho rfl ?_)
 refine wpAny_bind (listUpdate_at ho rfl ?_ (by simpa using hz) (Nat.zero_le _))
 obtain⟨e1,g1⟩:∃ e1,(s.heap.update a (Obj.mapSeq fun _=>#[])).get? a=some (seqObj "list" #[] e1):=⟨_,get?_update_seq ho (fun _=>#[])⟩
 refine wpAny_bind (seqEpoch_at g1 rfl ?_)
 refine wpAny_bind (wpAny_newTuple ?_ (by simpa using hz))
 refine wpAny_bind (wpAny_newList ?_ (Nat.zero_le _))
 refine wpAny_holding ?_
 have g6:(((s.heap.update a (Obj.mapSeq fun _=>#[])).push (seqObj "tuple" vs.toArray 0)).push (seqObj "list" #[] 0)).get? a=some (seqObj "list" #[] e1):=Heap.get?_push_of_some _ (Heap.get?_push_of_some _ g1)
 have keep:∀ b o,b≠a->s.heap.get? b=some o->(((s.heap.update a (Obj.mapSeq fun _=>#[])).push (seqObj "tuple" vs.toArray 0)).push (seqObj "list" #[] 0)).get? b=some o:=fun b o nb e=>Heap.get?_push_of_some _ (Heap.get?_push_of_some _ (by rw [Heap.get?_update_ne _ _ _ _ nb];exact e))
 show wpAny (model prog w) A _ P E { s with heap:=((s.heap.update a (Obj.mapSeq fun _=>#[])).push (seqObj "tuple" vs.toArray 0)).push (seqObj "list" #[] 0) }
 dsimp only
 have sz:vs.toArray.size=vs.length:=by simp
 by_cases c:vs.toArray.size<2
 ·rw [if_pos c,if_pos c]
  refine wpAny_bind (wpAny_pure ?_)
  rw [StateT.run_pure]
  refine wpAny_bind (wpAny_pure ?_)
  dsimp only
  refine wpAny_bind (seqEpoch_at g6 rfl ?_)
  refine wpAny_bind (listUpdate_at g6 rfl ?_ (Nat.zero_le _) (by show(Array.map _ (pairsOf vs)).size<=_;rw [Array.size_map,pairsOf_size,sizeLine_eq];omega))
  simp only [bne_self_eq_false,Bool.false_eq_true,if_false]
  refine wpAny_pure (h (vs.toArray.zip vs.toArray) (Array.Perm.refl _) fun i j hij hj=>?_)
  have:i=j:=by rw [pairsOf_size] at hj;omega
  subst this
  exact KeyOrd.kle_refl _
 ·rw [if_neg c,if_neg c]
  refine wpAny_bind (hkk (by omega) _ _ keep ?_)
  refine wpAny_bind (wpAny_mono (q_sortRunsS (κ:=κ) (kd:=kd) (a₀:=pairsOf vs) (st:=SortSt.mk' kd (vs.toArray.zip vs.toArray) #[] 7 none)
   (Q:=fun _ st'=>(arrOf st').Perm (pairsOf vs)/\failedOf st'=none/\SortedToK κ (arrOf st') (pairsOf vs).size) (L _ keep)
   h0 ⟨Array.Perm.refl _,rfl,rfl⟩ rfl (by rw [pairsOf_size];omega) (by rw [pairsOf_size];exact h64) fun st' g' s'=>⟨g'.perm,g'.fail,s'⟩) ?_ fun _ _ e=>e)
  rintro ⟨⟨⟩,st'⟩ s' ⟨rfl,hp,hf,hs⟩
  dsimp only
  refine wpAny_bind (seqEpoch_at g6 rfl ?_)
  refine wpAny_bind (listUpdate_at g6 rfl ?_ (Nat.zero_le _) (by
   show(Array.map _ (arrOf st')).size<=_
   rw [Array.size_map,hp.size_eq,pairsOf_size]
   omega))
  rw [hf]
  simp only [bne_self_eq_false,Bool.false_eq_true,if_false]
  exact wpAny_pure (h (arrOf st') hp hs)
theorem q_sortedS{κ:KeyKind}{kd:SortKind}{l:Addr}{T:String}{o:Obj}{vs:List Value}{n:Nat}{Q:Value->Shared->Prop}(hT:T = "list" \/ T = "tuple")(ho:s.heap.get? l=some o)(hc:o.cls=.type T)(hd:o.data=.seq vs.toArray n)(hz:vs.length<=sizeLine)(h64:vs.length<64)
  (L:∀(A':Around) (h':Heap),A'.units<=A.units+8->(∀ b o,s.heap.get? b=some o->h'.get? b=some o)->LtOk prog w A' { s with heap:=h' } κ kd) (h0:KeysOf κ (pairsOf vs))
  (hkk:2<=vs.length->∀(A':Around) (E':Value->Shared->Prop) (h':Heap) (Q:SortKind->Shared->Prop),(∀ b o,s.heap.get? b=some o->h'.get? b=some o)->Q kd { s with heap:=h' }->wpAny (model prog w) A' (keyKind' vs.toArray) Q E' { s with heap:=h' })
  (h:∀(out:Array Keyed) (h':Heap) (r:Addr) (e:Nat),out.Perm (pairsOf vs)->SortedToK κ out (pairsOf vs).size->s.heap.objs.size<=r->h'.get? r=some (seqObj "list" (out.map (·.2)) e)->(∀ b o,s.heap.get? b=some o->h'.get? b=some o)->Q (.ref r) { s with heap:=h' }) :
  wpAny (model prog w) A (call (.builtin "sorted") [.ref l]) Q E s:=by
 refine Calls.call_function_entry kind_sorted plain_sorted entry_sorted (args_sorted1 _) ?_
 unfold Builtin.«sorted»
 refine wpAny_bind (m:=checkCount "sorted" 1 1 _) (wpAny_pure ?_)
 refine wpAny_bind (q_collect hT ho hc hd (by simpa using hz) ?_)
 rw [List.toList_toArray]
 refine wpAny_bind (wpAny_newList ?_ hz)
 have es:((s.heap.push (seqObj "list" #[] 0)).update s.heap.objs.size (Obj.mapSeq (·++vs.toArray))).objs.size=s.heap.objs.size+1:=by rw [Heap.size_update,size_push']
 have gL:(((s.heap.push (seqObj "list" #[] 0)).update s.heap.objs.size (Obj.mapSeq (·++vs.toArray))).push (seqObj "list" vs.toArray 0)).get? (s.heap.objs.size+1)=some (seqObj "list" vs.toArray 0):=by rw [<-es];exact Heap.get?_push_size _ rfl
 have k2:∀ b o,s.heap.get? b=some o->(((s.heap.push (seqObj "list" #[] 0)).update s.heap.objs.size (Obj.mapSeq (·++vs.toArray))).push (seqObj "list" vs.toArray 0)).get? b=some o:=fun b o e =>
  Heap.get?_push_of_some _ (by rw [Heap.get?_update_ne _ _ _ _ (Nat.ne_of_lt (Heap.lt_size e))];exact Heap.get?_push_of_some _ e)
 have nb:∀ b o,s.heap.get? b=some o->b≠s.heap.objs.size+1:=fun b o e=>Nat.ne_of_lt (Nat.lt_succ_of_lt (Heap.lt_size e))
 show wpAny _ _ _ _ _ { s with heap:=((s.heap.push (seqObj "list" #[] 0)).update s.heap.objs.size (Obj.mapSeq (·++vs.toArray))).push (seqObj "list" vs.toArray 0) }
 rw [es]
 refine wpAny_bind (wpAny_holding (wpAny_call_entry slot_list_sort ⟨_,gL,rfl⟩ entry_list_sort (q_listSortS (κ:=κ) (kd:=kd) gL hz h64 (fun h' k'=>L _ h' (unitsOk A) fun b o e=>k' b o (nb b o e) (k2 b o e)) h0 (fun h2 h' Q k' q=>hkk h2 _ _ h' Q (fun b o e=>k' b o (nb b o e) (k2 b o e)) q) fun out p1 p2=>⟨_,rfl,?_⟩) (args_list_sort _)))
 refine wpAny_pure ⟨_,rfl,?_⟩
 obtain⟨e,he⟩:=sortedAll_at s.heap vs (out.map (·.2))
 exact h out _ _ e p1 p2 (Nat.le_succ _) he fun b o z=>sortedAll_old z
end
end SQ
namespace L2
open PySem PySem.Spec PyProof.Rows SQ
section
variable {X:Cx}
theorem sortA_outS{pins:List (Addr×Obj)}{σ:St}{H:Hp}{s:Shared}{Q:List D->Prop}{xs:List D}{vs:List V}{us:List Value}{a:Addr}{T:String}{o:Obj}{n:Nat}(I:Inv X pins σ H s)(r:Reps X.K H xs vs)(rv:Vals vs us)(hT:T = "list" \/ T = "tuple")(ho:s.heap.get? a=some o)(hc:o.cls=.type T)(hd:o.data=.seq us.toArray n)(hz:vs.length<=sizeLine)(h64:vs.length<64)(q:gSortL xs Q):
  wpAny (model X.prog X.w) X.A (call (.builtin "sorted") [.ref a]) (DEndF X pins σ H Q) X.xe s:=by
 have zu:us.length<=sizeLine:=by rw [<-rv.length];exact hz
 have fin:∀(out:Array Keyed) (h':Heap) (p:Addr) (e:Nat) (ys:List D) (vs':List V),(out.map (·.2)).toList.Perm us->Vals vs' (out.map (·.2)).toList->Reps X.K H ys vs'->s.heap.objs.size<=p->h'.get? p=some (seqObj "list" (out.map (·.2)) e)->(∀ b o,s.heap.get? b=some o->h'.get? b=some o)->Q ys->DEndF X pins σ H Q (.ref p) { s with heap:=h' }:=by
  intro out h' p e ys vs' pm rv' r' hp g k qy
  have hn:=I.hok.fresh hp
  have lv:vs'.length<=sizeLine:=by rw [rv'.length,pm.length_eq];exact zu
  exact⟨p,_,vs',ys,rfl,I.laid (t':=s.toks) (o:=.lst vs') k hp ⟨lv,(out.map (·.2)).toList,e,rv',g⟩,same_new hn _,hn,upd_same,r'.same (same_new hn _),qy⟩
 rcases q with⟨ns,rfl,q⟩ | ⟨tss,rfl,hne,q⟩
 ·have e1:=Reps.of_ints r
  subst e1
  have hi:=intsAre_of rv
  have hk:∀ v∈us,∃ k,intK.keyOf v=some k:=fun v hv=>by
   obtain⟨i,t,rfl⟩:=hi.all v hv
   exact⟨i,rfl⟩
  refine q_sortedS (κ:=intK) (kd:=oneType') hT ho hc hd zu (by rw [<-rv.length];exact h64) (fun A' h' _ _=>intK_lt) (keysOf_pairs hk) (fun h2 A' E' h' Q' k q=>?_) fun out h' p e p1 p2 hp g k=>?_
  ·cases us with
   | nil=>simp at h2
   | cons u us =>
    cases us with
    | nil=>simp at h2
    | cons u2 us=>rw [keyKind_ints hi];exact wpAny_pure q
  ·obtain⟨pm,ks,a2,pw⟩:=out_facts p1 p2 hk
   obtain⟨vs',ds',rv',r',pd⟩:=perm_vals pm rv r
   obtain⟨ms,rfl,pms⟩:=perm_map deI deI_int pd
   have e2:=Reps.of_ints r'
   subst e2
   have ek:ks=ms:=by
    have hm:=intsAre_of rv'
    clear pm pms pw pd r' rv'
    generalize (out.map (·.2)).toList=l at hm a2
    induction a2 generalizing ms with
    | nil=>cases hm;rfl
    | cons h t ih =>
     cases hm with
     | cons i t' h' =>
      simp only [intK,Option.some.injEq] at h
      subst h
      rw [ih _ h']
   subst ek
   have:=sortZ_uniq pms (pw.imp fun h=>by simpa [intK,KeyOrd.kle] using h)
   exact fin out h' p e _ _ pm rv' r' hp g k (by rw [this];exact q)
 ·have rf:=refs_of I r rv
  have hk:∀ v∈us,∃ k,(tupK s.heap).keyOf v=some k:=fun v hv=>by
   obtain⟨t,_,h⟩:=rf.mem hv
   exact⟨t,refKey_of h⟩
  refine q_sortedS (κ:=tupK s.heap) (kd:=tuples' true) hT ho hc hd zu (by rw [<-rv.length];exact h64) (fun A' h' _ k=>tupK_lt k) (keysOf_pairs hk) (fun h2 A' E' h' Q' k q=>kind_tups (rf.imp fun _ _ h=>h.keep k) hne h2 q) fun out h' p e p1 p2 hp g k=>?_
  obtain⟨pm,ks,a2,pw⟩:=out_facts p1 p2 hk
  obtain⟨vs',ds',rv',r',pd⟩:=perm_vals pm rv r
  obtain⟨ss,rfl,pms⟩:=perm_map deT deT_tD pd
  have rf':=refs_of I r' rv'
  have ek:ks=ss:=by
   clear pm pms pw r' rv' pd
   generalize (out.map (·.2)).toList=l at rf' a2
   induction a2 generalizing ss with
   | nil=>cases rf';rfl
   | cons h t ih =>
    cases rf' with
    | cons h1 t1 =>
     have:=refKey_of h1
     rw [show(tupK s.heap).keyOf _=refKey s.heap _ from rfl,this] at h
     cases h
     rw [ih _ t1]
  subst ek
  have:=sortT_uniq pms (pw.imp fun h=>by simpa [tupK,KeyOrd.kle] using h)
  exact fin out h' p e _ _ pm rv' r' hp g k (by rw [this];exact q)
def gSortS:List D->(List D->Prop)->Prop
 | [.list xs],Q=>xs.length<64/\gSortL xs Q
 | [.tuple xs],Q=>xs.length<64/\gSortL xs Q
 | _,_=>False
theorem c_sortS:CallF X (.builtin "sorted") gSortS:=⟨fun pins s σ H vs us ds Q I rv rd q=>by
 match ds,q,rd with
 | [.list xs],q,rd =>
  obtain⟨v,rfl,r⟩:=rd.one
  obtain⟨a,vs,rfl,h,r⟩:=r.list.sq
  obtain⟨u,rfl,r1⟩:=rv.one
  cases r1
  obtain⟨its,rvs,pl,hz⟩:=I.list h
  obtain⟨o,ho,hc,n,hd⟩:=pl.isList
  exact sortA_outS I r rvs (.inl rfl) ho hc hd hz (by rw [<-r.length];exact q.1) q.2
 | [.tuple xs],q,rd =>
  obtain⟨v,rfl,r⟩:=rd.one
  obtain⟨a,vs,rfl,h,r⟩:=r.tuple
  obtain⟨u,rfl,r1⟩:=rv.one
  cases r1
  obtain⟨its,rvs,⟨o,ho,hc,n,hd⟩,hz⟩:=I.tuple h
  exact sortA_outS I r rvs (.inr rfl) ho hc hd hz (by rw [<-r.length];exact q.1) q.2⟩
end
end L2
namespace L2
open PySem PySem.Spec PyProof.Rows
end L2
namespace L2
open PySem PySem.Spec PyProof.Rows PySem.Builtin PySem.Builtin.Str
def tx(x:Str):List Nat:=x.cps.toList
def Dl(r:List Nat):Prop:=∀ c t,r=c::t->c=44\/c=41\/c=93
theorem Dl.c{c:Nat}{r:List Nat}(h:c=44\/c=41\/c=93):Dl (c::r):=fun a t e=>by
 rw [<-(List.cons.inj e).1];exact h
end L2
namespace L2
open PySem PySem.Spec PyProof.Rows
section
variable {X:Cx}{e:Expr}{p pos:Pos}
end
section
variable {K:PySem.W.Frag}{H₀ H H':Hp}{σD:DSt}{σ:St}
theorem Nst.upd{b:Addr}{vs:List V}{ys:List D}(p:Pers H (upd H b (.lst vs)))(r:Reps K H ys vs):∀{xss:List (List D)} {as:List Addr} {k:Nat},as.Nodup->Nst K H xss as->as[k]?=some b->Nst K (upd H b (.lst vs)) (xss.set k ys) as
 | [],[],k,_,_,e=>by simp at e
 | xs::xss,c::as,0,nd,h,e=>by
  simp at e
  subst e
  rw [List.nodup_cons] at nd
  exact⟨⟨vs,upd_same,r.mono p⟩,h.2.keep p fun a ha u hu=>by rw [upd_ne (fun z=>nd.1 (by rw [<-z];exact ha))];exact hu⟩
 | xs::xss,c::as,k+1,nd,h,e=>by
  rw [List.nodup_cons] at nd
  have e':as[k]?=some b:=by simpa using e
  obtain⟨⟨ws,e1,r1⟩,t⟩:=h
  exact⟨⟨ws,by rw [upd_ne (fun z=>nd.1 (by rw [z];exact List.mem_of_getElem? e'))];exact e1,r1.mono p⟩,Nst.upd p r nd.2 t e'⟩
end
section
variable {X:Cx}{e e1 e2 e3:Expr}{pos:Pos}{te t3:DTE}{t1 t2:DTF}
theorem Nst.at:∀{K:PySem.W.Frag} {H:Hp} {xss:List (List D)} {as:List Addr} {k:Nat} {xs:List D},Nst K H xss as->xss[k]?=some xs->∃ b vs,as[k]?=some b/\H b=some (.lst vs)/\Reps K H xs vs
 | _,_,_::_,b::_,0,_,h,e=>by
  simp at e
  subst e
  obtain⟨vs,e1,r⟩:=h.1
  exact⟨b,vs,rfl,e1,r⟩
 | _,_,_::_,_::_,k+1,_,h,e=>by
  obtain⟨b,vs,h1,h2⟩:=Nst.at h.2 (k:=k) (by simpa using e)
  exact⟨b,vs,by simpa using h1,h2⟩
 | _,_,[],[],_,_,_,e=>by simp at e
variable {o:Expr}{to:DTE}{apos cpos:Pos}
end
structure Sl(fs:List Addr)(e:Addr)(h h':Heap):Prop where
 keep:∀ b o,h.get? b=some o->b≠e->b∉fs->h'.get? b=some o
 slot:∀ b o,h.get? b=some o->b≠e->∃ sl,h'.get? b=some { o with slots:=sl }
def Fly(h:Heap)(e:Addr)(cls:Value)(od:Option Addr):Prop :=
 ∃ oe vs T oT ts,h.get? e=some oe/\(oe.cls=cls/\oe.dict=od)/\oe.data=.fields vs/\vs[1]?=some (.ref T)/\T≠e/\h.get? T=some oT/\oT.data=.fields ts/\ts[3]?=some .none
def Fly0(h:Heap)(e:Addr)(cls:Value)(od:Option Addr):Prop :=
 Fly h e cls od\/∃ oe vs,h.get? e=some oe/\(oe.cls=cls/\oe.dict=od)/\oe.data=.fields vs/\vs[1]?=some .none
theorem dict_mapF(o:Obj)(f):(o.mapFields f).dict=o.dict:=by
 obtain⟨c,d,dt,sl⟩:=o
 cases dt <;> rfl
theorem mapF_same{o:Obj}{ts:Array Value}{i:Nat}{x:Value}(hd:o.data=.fields ts)(hx:ts[i]?=some x):o.mapFields (·.setIfInBounds i x)=o:=by
 obtain⟨c,d,dt,sl⟩:=o
 subst hd
 obtain⟨hi,e⟩:=Array.getElem?_eq_some_iff.mp hx
 have:ts.setIfInBounds i x=ts:=by
  apply Array.ext
  ·simp
  ·intro j h1 h2
   rw [Array.getElem_setIfInBounds]
   split
   ·next q=>subst q;exact e.symm
   ·rfl
 show(⟨c,d,.fields (ts.setIfInBounds i x),sl⟩:Obj)=_
 rw [this]
theorem upd_same_get{h:Heap}{T:Addr}{o:Obj}{ts:Array Value}{i:Nat}{x:Value}(e:h.get? T=some o)(hd:o.data=.fields ts)(hx:ts[i]?=some x)(b:Addr):
  (h.update T (Obj.mapFields (·.setIfInBounds i x))).get? b=h.get? b:=by
 by_cases q:T=b
 ·subst q
  rw [Heap.get?_update_self _ e (by rw [mapF_same hd hx];exact Obj.isFreed_of_fields hd),mapF_same hd hx,e]
 ·exact Heap.get?_update_other _ _ q
section
variable {M:Model}{A:Around}{E:Value->Shared->Prop}{s:Shared}{base:Heap}{env:Env}{outer:List Env}{L e:Addr}{Q:Unit->Shared->Prop}
theorem noted_core{oe:Obj}{vs:Array Value}{hd0:Value}{nxt:Bool}(hfr:A.frames=some (env::outer))(hl:s.heap.FunFrames base (env::outer))(hf:env.frame=some L)
  (he:s.heap.get? e=some oe) (hd:oe.data=.fields vs) (hsz:1<vs.size) (k:∀ h',Sl (frs (env::outer)) e s.heap h'->Fly h' e oe.cls oe.dict->Q () { s with heap:=h' }) :
  wpAny M A (do let a <-frameOf env;let pl <-entryPlaceOf L nxt;let b <-EntryCells.newEntry hd0 a .none (rawInt L) .none pl;setField (.ref e) 1 b) (fun _ s'=>wpAny M A (setFlight (.ref e) none) Q E s') E s:=by
 have nin:e∉frs (env::outer):=fun hm=>by
  obtain⟨_,o,ho,hnf⟩:=hl.mem hm
  have z:=he.symm.trans ho
  cases z
  exact hnf vs hd
 refine wpAny_bind (wpAny_frameOf_fun hfr hl hf fun g1 so=>wpAny_bind (wpAny_entryPlaceOf fun pl hpl=>?_))
 unfold EntryCells.newEntry newFields
 refine wpAny_bind (wpAny_newObj_type ?_ (hpl.sizeOk5 _ _ _ _ _))
 generalize ek:([hd0,.ref L,.none,rawInt L,.none]++(if pl.isEmpty then List.replicate 6 Value.none else pl)).toArray=tb
 have tbz:3<tb.size:=by rw [<-ek];simp only [List.size_toArray,List.length_append,List.length_cons,List.length_nil];omega
 have e1:g1.get? e=some oe:=(so.2.1 e nin).trans he
 have ne:g1.objs.size≠e:=Nat.ne_of_gt (Heap.lt_size e1)
 have e2:=Heap.get?_push_of_some (h:=g1) { cls:=.type "traceback",dict:=none,data:=.fields tb } e1
 refine wpAny_setField e2 hd hsz ?_
 have d3:=Obj.data_mapFields hd (·.setIfInBounds 1 (Value.ref g1.objs.size))
 have e3:=Heap.get?_update_self (Obj.mapFields (·.setIfInBounds 1 (Value.ref g1.objs.size))) e2 (Obj.isFreed_of_fields d3)
 have t3:((g1.push { cls:=.type "traceback",dict:=none,data:=.fields tb }).update e (Obj.mapFields (·.setIfInBounds 1 (Value.ref g1.objs.size)))).get? g1.objs.size=some { cls:=.type "traceback",dict:=none,data:=.fields tb } :=
  (Heap.get?_update_other _ _ (Ne.symm ne)).trans (Heap.get?_push_size g1 rfl)
 unfold setFlight
 refine wpAny_bind (wpAny_field e3 d3 (x:=.ref g1.objs.size) (by simp [hsz]) ?_)
 rw [if_pos (show(Value.ref g1.objs.size != Value.none)=true by simp)]
 refine wpAny_setField t3 rfl tbz (k _ ?_ ?_)
 ·have kp:∀ b o,b≠e->g1.get? b=some o->(((g1.push { cls:=.type "traceback",dict:=none,data:=.fields tb }).update e (Obj.mapFields (·.setIfInBounds 1 (Value.ref g1.objs.size)))).update g1.objs.size (Obj.mapFields (·.setIfInBounds 3 ((none:Option Addr).elim Value.none fun f=>rawInt f)))).get? b=some o:=fun b o nb hb=>by
   rw [Heap.get?_update_other _ _ (Nat.ne_of_gt (Heap.lt_size hb)),Heap.get?_update_other _ _ (Ne.symm nb)]
   exact Heap.get?_push_of_some _ hb
  refine⟨fun b o hb nb nf=>kp b o nb ((so.2.1 b nf).trans hb),fun b o hb nb=>?_⟩
  obtain⟨sl,hs⟩:=so.2.2 b o hb
  exact⟨sl,kp b _ nb hs⟩
 ·refine⟨_,_,g1.objs.size,_,_,(Heap.get?_update_other _ _ ne).trans e3,⟨Obj.cls_mapFields _ _,dict_mapF _ _⟩,d3,by simp [hsz],ne,Heap.get?_update_self _ t3 (Obj.isFreed_of_fields (Obj.data_mapFields rfl _)),Obj.data_mapFields rfl _,?_⟩
  simp [tbz]
theorem noted{cls:Value}{od:Option Addr}(hfr:A.frames=some (env::outer))(hl:s.heap.FunFrames base (env::outer))(hf:env.frame=some L)(hy:Fly0 s.heap e cls od)
  (k:∀ h',Sl (frs (env::outer)) e s.heap h'->Fly h' e cls od->Q () { s with heap:=h' }) :
  wpAny M A (noteFrame (.ref e) env) (fun _ s'=>wpAny M A (setFlight (.ref e) none) Q E s') E s:=by
 unfold noteFrame
 simp only [hf]
 rcases hy with⟨oe,vs,T,oT,ts,he,⟨rfl,rfl⟩,hd,h1,nT,hT,dT,h3⟩ | ⟨oe,vs,he,⟨rfl,rfl⟩,hd,h1⟩
 ·refine wpAny_bind (wpAny_field he hd h1 ?_)
  rw [if_pos (show(Value.ref T != Value.none)=true by simp)]
  refine wpAny_bind (wpAny_field hT dT h3 ?_)
  rw [if_neg (show ¬ ((Value.none == rawInt L)=true) by simp [rawInt])]
  refine wpAny_bind (wpAny_setField hT dT (Array.getElem?_eq_some_iff.mp h3).1 ?_)
  have sm:=upd_same_get hT dT h3
  refine noted_core hfr (hl.of_keeps fun b o hb _=>⟨o,(sm b).trans hb,rfl⟩) hf ((sm e).trans he) hd (Array.getElem?_eq_some_iff.mp h1).1 fun h' S F=>k h' ⟨fun b o hb=>S.keep b o ((sm b).trans hb),fun b o hb=>S.slot b o ((sm b).trans hb)⟩ F
 ·refine wpAny_bind (wpAny_field he hd h1 ?_)
  rw [if_neg (by decide)]
  exact noted_core hfr hl hf he hd (Array.getElem?_eq_some_iff.mp h1).1 k
theorem leaves{cls:Value}{od:Option Addr}(hfr:A.frames=some (env::outer))(hl:s.heap.FunFrames base (env::outer))(hf:env.frame=some L)(hy:Fly0 s.heap e cls od)
  (k:∀ h',Sl (frs (env::outer)) e s.heap h'->Fly h' e cls od->Q () { s with heap:=h' }):wpAny M A (leaving env (.ref e)) Q E s:=by
 unfold leaving
 exact wpAny_bind (noted hfr hl hf hy k)
theorem lands{cls:Value}{od:Option Addr}(hy:Fly s.heap e cls od)(k:∀ h',(∀ b,h'.get? b=s.heap.get? b)->Q () { s with heap:=h' }):wpAny M A (setFlight (.ref e) none) Q E s:=by
 obtain⟨oe,vs,T,oT,ts,he,_,hd,h1,nT,hT,dT,h3⟩:=hy
 unfold setFlight
 refine wpAny_bind (wpAny_field he hd h1 ?_)
 rw [if_pos (show(Value.ref T != Value.none)=true by simp)]
 exact wpAny_setField hT dT (Array.getElem?_eq_some_iff.mp h3).1 (k _ (upd_same_get hT dT h3))
end
def CXk(P:Program)(w:World):CXT:=fun outer H s E e s'=>∃ a C od H',e=.ref a/\s'.os=s.os/\AllBare s'.gens/\Un (frs outer) [] H H' s.heap s'.heap/\HOk P w H' s'.heap /\
 s.heap.get? a=none/\H' a=none/\Fly s'.heap a (.ref C) od/\E (.ref C) od H'
section
variable {fs fs':List Addr}{H H1:Hp}{h h1 h2:Heap}{a:Addr}{P:Program}{w:World}
theorem Un.sl(u:Un fs [] H H1 h h1)(S:Sl fs' a h1 h2)(hf:∀ b o,b∈fs'->h.get? b=some o->b∈fs)(ha:h.get? a=none):Un fs [] H H1 h h2 where
 keep:=fun b o e n hb hx=>S.keep b o (u.keep b o e n hb hx) (fun z=>by rw [z,ha] at e;cases e) fun z=>hb (hf b o z e)
 slot:=fun b o e n hb hx=>by
  obtain⟨sl,e1⟩:=u.slot b o e n hb hx
  obtain⟨sl',e2⟩:=S.slot b _ e1 fun z=>by rw [z,ha] at e;cases e
  exact⟨sl',e2⟩
 free:=u.free
 there:=fun b o e hx=>by
  obtain⟨o',e1⟩:=u.there b o e hx
  obtain⟨sl,e2⟩:=S.slot b _ e1 fun z=>by rw [z,ha] at e;cases e
  exact⟨_,e2⟩
 tups:=u.tups
 frzs:=u.frzs
 tbls:=u.tbls
theorem HOk.sl(hok:HOk P w H1 h1)(S:Sl fs' a h1 h2)(hf:∀ b∈fs',H1 b=none)(ha:H1 a=none):HOk P w H1 h2:=fun b o e=>by
 have ne:∀ c u,H1 c=some u->c≠a/\c∉fs':=fun c u q=>⟨fun z=>(by rw [z,ha] at q;cases q),fun z=>by rw [hf c z] at q;cases q⟩
 refine(hok b o e).stay (fun c u hc q=>?_) (fun _ q=>q) fun _ _ q=>q
 rcases hc with rfl | hc
 ·exact S.keep c u q (ne c o e).1 (ne c o e).2
 ·exact S.keep c u q (ne c _ hc).1 (ne c _ hc).2
end
theorem xe_of{P:Program}{w:World}{K:PySem.W.Frag}{mg:Str->Option Value}{base:Heap}{N:List Str}{qual:Str}{scope:Scope}{f:Addr}{cd:Value}{A:Around}{outer:List Env}{s s1:Shared}{H H1:Hp}{E:XK}{pins:List (Addr×Obj)}{σ:St}{a C:Addr}{od:Option Addr}
  (I:Inv (cxOf (CXk P w) P w K mg base N qual scope f cd A outer s H E) pins σ H1 s1) (hy:Fly0 s1.heap a (.ref C) od) (hn:s.heap.get? a=none) (hf:H1 a=none) (hE:E (.ref C) od H1) :
  (cxOf (CXk P w) P w K mg base N qual scope f cd A outer s H E).xe (.ref a) s1:=by
 refine leaves (base:=base) (outer:=outer) I.ok.frames I.stack rfl hy fun h' S F=>?_
 refine⟨a,C,od,H1,rfl,I.os,I.bare,Un.sl (show Un (frs outer) [] H H1 s.heap s1.heap from I.base) S (fun b o hb e=>?_) hn,HOk.sl I.hok S (fun b hb=>I.stkFree b hb) hf,hn,hf,F,hE⟩
 rcases List.mem_cons.mp (I.stkSub b hb) with q | q
 ·rw [q] at e
  exact absurd (Nat.lt_of_lt_of_le (Heap.lt_size e) I.ok.above) (Nat.lt_irrefl _)
 ·exact q
theorem exc_at{K:PySem.W.Frag}{h:Heap}{C:Addr}{bmB:List Value}{newId:String}(X:K.In h)(q:PySem.W.excIn K C bmB newId=true):
  ∃ nm qn N bs bm hd sn sub ab col dd k0 k1 k2 k3 k5 mN,h.get? C=some (excClassObj nm qn C N bs bm hd sn sub ab col dd k0 k1 k2 k3 k5 newId)/\h.Ns N mN/\mN "__init__" = none/\OwnTail h bmB bm:=by
 unfold PySem.W.excIn at q
 split at q
 ·next dd cd sl ho =>
  split at q
  ·next C' bm k0 k1 k2 k3 n k5 hm hs =>
   simp only [Bool.and_eq_true,beq_iff_eq,Bool.not_eq_true'] at q
   obtain⟨⟨⟨⟨⟨rfl,rfl⟩,z1⟩,z2⟩,z3⟩,z4⟩:=q
   obtain⟨nm,bs,mro,ns,qn,hd,sn,sub,ab,col,del⟩:=cd
   obtain⟨l⟩:=sl
   dsimp only at hm z1 z3 z4 hs
   subst hm z1 hs
   exact⟨nm,qn,ns,bs,bm,hd,sn,sub,ab,col,dd,k0,k1,k2,k3,k5,_,X _ _ ho,.of_isNs (PySem.W.isNs_of_in X z3),PySem.W.nsMap_none_of_in X z3 z4,PySem.W.tail_of_in X z2⟩
  ·cases q
 ·cases q
theorem ObjOk.ex{P:Program}{w:World}{H:Hp}{h:Heap}{a:Addr}{o:HO}(x:ObjOk P w H h a o):∃ u,h.get? a=some u:=by
 cases o with
 | lst xs=>obtain⟨_,_,_,_,e⟩:=x;exact⟨_,e⟩
 | tup xs=>obtain⟨_,_,_,o,e,_⟩:=x;exact⟨_,e⟩
 | dK kvs=>obtain⟨_,_,_,_,o,_,_,e,_⟩:=x;exact⟨_,e⟩
 | dT kvs=>obtain⟨_,_,_,_,o,_,_,e,_⟩:=x;exact⟨_,e⟩
 | set S n=>obtain⟨o,_,_,_,e,_⟩:=x;exact⟨_,e⟩
 | ins C dx fs=>obtain⟨_,_,_,e,_⟩:=x;exact⟨_,e⟩
 | own y=>exact x
 | xd fs=>obtain⟨_,⟨_,_,_,e,_⟩,_⟩:=x;exact⟨_,e⟩
 | rng lo hi=>obtain⟨_,_,_,e⟩:=x;exact⟨_,e⟩
 | frz ob u=>exact⟨_,x.1⟩
 | tbl ps=>obtain⟨_,_,_,_,e,_⟩:=x;exact⟨_,e⟩
 | met f y=>exact⟨_,x⟩
 | ext φ=>exact x.2.1
theorem raise0{P:Program}{w:World}{K:PySem.W.Frag}{mg:Str->Option Value}{base:Heap}{N:List Str}{qual:Str}{scope:Scope}{f:Addr}{cd:Value}{A:Around}{outer:List Env}{s s1:Shared}{H H1:Hp}{E:XK}{pins:List (Addr×Obj)}{σ:St}{C:Addr}{x:Str}{np cpos pos:Pos}{Q:Flow->Shared->Prop}
  (I:Inv (cxOf (CXk P w) P w K mg base N qual scope f cd A outer s H E) pins σ H1 s1) (hh:A.handled=none) (hg:Gl (cxOf (CXk P w) P w K mg base N qual scope f cd A outer s H E) x) (hm:mg x=some (.ref C))
  (q:PySem.W.excIn K C [.type "ValueError",.type "Exception",.type "BaseException",.type "object"] "ValueError.__new__" = true) (hE:E (.ref C) none H1) (hdb:(x == ("__debug__" : Str))=false:=by decide) :
  wpAny (model P w) (A.deeper (envOfC qual scope s.heap.objs.size f cd)) (exec (.Raise (some (.Call (.Name x np) [] [] cpos)) none pos) (envOfC qual scope s.heap.objs.size f cd)) Q (cxOf (CXk P w) P w K mg base N qual scope f cd A outer s H E).xe s1:=by
 obtain⟨nm,qn,Nn,bs,bm,hd,sn,sub,ab,col,dd,k0,k1,k2,k3,k5,mN,hC,hN,hni,T⟩:=exc_at I.kIn q
 refine wpAny_Raise_call_subU (C:=C) (nm:=nm) (q:=qn) (N:=Nn) (bs:=bs) (bm:=bm) (hdct:=hd) (sn:=sn) (sub:=sub) (ab:=ab) (col:=col) (dd:=dd) (k0:=k0) (k1:=k1) (k2:=k2) (k3:=k3) (k5:=k5) (newId := "ValueError.__new__")
  PySem.F.excBase_ValueError rfl PySem.F.excBase_ValueError (mN:=mN) (T.hasType rfl) hh rfl hni (ld_glob I hg hm ⟨rfl,?_⟩ hdb)
 refine evalArgs_empty ⟨rfl,Nat.zero_le _,hC,hN,T,fun h' e mk=>?_⟩
 have J:=I.kept (t':=s1.toks) mk.keeps
 obtain⟨t,he,_,_⟩:=mk.there
 have ne:∀ b u,H1 b=some u->b≠e:=fun b u z q=>by
  have:=mk.new
  rw [<-q] at this
  obtain⟨o,ho⟩:=(I.hok b u z).ex
  rw [ho] at this
  cases this
 refine xe_of J (.inr ⟨_,_,he,⟨rfl,rfl⟩,rfl,rfl⟩) ?_ ?_ hE
 ·cases z:s.heap.get? e with
  | none=>rfl
  | some o =>
   obtain⟨o',e'⟩:=I.base.there e o z (by intro y;cases y)
   rw [mk.new] at e'
   cases e'
 ·cases z:H1 e with
  | none=>rfl
  | some u=>exact absurd rfl (ne e u z)
structure Room0(k:Nat)(A:Around):Prop where
 dp:A.depth+3 * k+5<recursionLimit
 un:A.units+16 * k+200<cLine
 gd:A.guards=some []
theorem Room.r0{k:Nat}{A:Around}(r:Room k A):Room0 k A:=⟨r.dp,r.un,r.gd⟩
theorem Room0.mono{j k:Nat}{A:Around}(r:Room0 k A)(h:j<=k):Room0 j A:=⟨by have:=r.dp;omega,by have:=r.un;omega,r.gd⟩
theorem Room0.deeper{k:Nat}{A:Around}(r:Room0 (k+1) A)(env:Env):Room0 k (A.deeper env) :=
 ⟨by have:=r.dp;show A.depth+1+3 * k+5<_;omega,by have:=r.un;show A.units+3+16 * k+200<_;omega,r.gd⟩
theorem Room0.mark{k:Nat}{A:Around}(r:Room0 k A)(e:Option Value):Room0 k (A.mark e):=⟨r.dp,r.un,r.gd⟩
theorem Room0.units{k:Nat}{A:Around}(r:Room0 k A):A.units+64<cLine:=by have:=r.un;omega
def Cx.held(X:Cx)(e:Value):Cx:={ X with A:=X.A.mark (some e),calm:=false,xe:=fun _ _=>False }
section
variable {X:Cx}{pins:List (Addr×Obj)}{σ:St}{H:Hp}{s:Shared}{e:Value}
theorem Inv.held(I:Inv X pins σ H s)(e:Value):Inv (X.held e) pins σ H s :=
 ⟨⟨I.ok.mod,I.ok.kind,I.ok.glob,I.ok.blt,I.ok.above,I.ok.inj,I.ok.has,I.ok.cab,(fun z=>nomatch z),I.ok.frames,I.ok.stk,I.ok.exf,I.ok.bs,I.ok.bsz,I.ok.noex,I.ok.exfs,I.ok.funs,I.ok.frf⟩,I.os,I.bare,I.base,I.loc,I.cell,I.free,I.freeC,I.pin,I.hok,I.len⟩
theorem Inv.unheld(ok:X.Ok)(I:Inv (X.held e) pins σ H s):Inv X pins σ H s:=⟨ok,I.os,I.bare,I.base,I.loc,I.cell,I.free,I.freeC,I.pin,I.hok,I.len⟩
theorem Inv.goes(I:Inv X pins σ H s){h':Heap}{m':Str->Option Value}(hn:h'.Ns X.env.locals m')(hs:Heap.SameBut X.env.locals s.heap h')(t:Nat):Inv X pins (List.replicate X.N.length none) H { s with heap:=h',toks:=t }:=by
 have ne:∀ b o,X.s₀.heap.get? b=some o->b≠X.env.locals:=fun b o e=>Nat.ne_of_lt (Nat.lt_of_lt_of_le (Heap.lt_size e) I.ok.above)
 refine⟨I.ok,I.os,I.bare,⟨fun b o e n hb hx=>?_,fun b o e n hb hx=>?_,I.base.free,fun b o e hx=>?_,I.base.tups,I.base.frzs,I.base.tbls⟩,⟨m',hn,fun j y v e1 e2 _=>?_⟩,fun y c e=>?_,I.free,I.freeC,fun p hp=>?_,fun b ob e=>?_,List.length_replicate⟩
 ·exact(hs.2 b (ne b o e)).trans (I.base.keep b o e n hb hx)
 ·obtain⟨sl,e1⟩:=I.base.slot b o e n hb hx
  exact⟨sl,(hs.2 b (ne b o e)).trans e1⟩
 ·obtain⟨o',e1⟩:=I.base.there b o e hx
  exact⟨o',(hs.2 b (ne b o e)).trans e1⟩
 ·rw [List.getElem?_replicate] at e2
  split at e2 <;> cases e2
 ·obtain⟨w',z⟩:=I.cell y c e
  exact⟨w',z.sameBut hs (I.cne y c e)⟩
 ·obtain⟨e,n,nl,nf,d⟩:=I.pin p hp
  exact⟨(hs.2 p.1 nl).trans e,n,nl,nf,d⟩
 ·refine(I.hok b ob e).stay (fun c u hc q=>(hs.2 c ?_).trans q) (fun _ q=>q) fun _ _ q=>q
  rintro rfl
  rcases hc with hc | hc
  ·rw [<-hc,I.free] at e;cases e
  ·rw [I.free] at hc;cases hc
end
structure FnH(P:Program)(w:World)(K:PySem.W.Frag)(mg:Str->Option Value)(base:Heap)(k:Nat)(f:Addr)(fd:FuncData)(ps:List Str)(sp:Sp):Prop where
 len:∀ vs H Q E,sp vs H Q E->vs.length=ps.length
 run:∀(A:Around) (outer:List Env) (s:Shared) (H:Hp) (args:Args) (us:List Value) (vs:List V) (Q:VK) (E:XK),Room0 k A->Env0 P w K mg base A outer s H->BindsTo s fd args (ps.zip us)->Vals vs us->sp vs H Q E ->
  codeAny (model P w) A (.call (.ref f) args) (CR CX0 outer P w H s Q E) s
def CalleeH(P:Program)(w:World)(K:PySem.W.Frag)(mg:Str->Option Value)(base:Heap)(k:Nat)(x:Str)(ps:List Str)(sp:Sp):Prop :=
 ∃ f fd,FnH P w K mg base k f fd ps sp/\Binds K fd ps []/\PySem.W.keepIn K (.ref f)=true/\mg x=some (.ref f)
def cxH(P:Program)(w:World)(K:PySem.W.Frag)(mg:Str->Option Value)(base:Heap)(N:List Str)(qual:Str)(scope:Scope)(f:Addr)(cd:Value)(A:Around)(outer:List Env)(s:Shared)(H:Hp):Cx :=
 { cxOf CX0 P w K mg base N qual scope f cd A outer s H E0 with calm:=false,xe:=fun _ _=>False }
theorem pe_callH{X:Cx}{k k':Nat}{x:Str}{ps:List Str}{sp:Sp}{e:Expr}{es:List Expr}{t:TA}{p pos:Pos}(C:CalleeH X.prog X.w X.K X.mg X.base k x ps sp)(hr:Room0 k' X.A)(hg:Gl X x)(ha:PA X (e::es) t)(hk:k<=k')
  (hdb:(x == ("__debug__" : Str))=false) (he:starEach (e::es) X.env=(false,eval e X.env)::starEach es X.env) (hpl:(backTo pos (starEach es X.env)).any (·.1)=false):PE X (.Call (.Name x p) (e::es) [] pos) (tCall sp [] E0 t):=by
 intro pins s σ H Q I h
 obtain⟨f,fd,F,b,kp,m⟩:=C
 refine wpAny_Call_Name_kw (ld_glob I hg m ?_ hdb)
 refine PySem.W.callWith_K (h₀:=X.base) I.ok.mod.kin kp (thn (ha pos pins s σ H _ I h) fun us s1 ⟨vs,H1,I1,r,q⟩=>⟨I1.kIn,?_⟩) he hpl
 have q':sp vs H1 Q E0:=by
  have z:sp (vs ++ []) H1 Q E0:=q
  rw [List.append_nil] at z
  exact z
 have hl:us.length=ps.length:=by rw [<-r.length];exact F.len _ _ _ _ q'
 have bb:BindsTo s1 fd ⟨us,[]⟩ (ps.zip us):=by
  have:=b s1 us I1.kIn (by rw [List.append_nil];exact hl)
  rw [List.append_nil] at this
  exact this
 refine wpAny_call (codeAny_mono (F.run X.A X.stack s1 H1 ⟨us,[]⟩ us vs Q E0 (hr.mono hk) I1.env0 bb r q') fun r s' hq=>?_)
 cases r with
 | error e=>exact False.elim hq
 | ok fl =>
  cases fl with
  | ret u=>exact I1.after hq
  | next=>exact False.elim hq
  | brk=>exact False.elim hq
  | cont=>exact False.elim hq
section
variable {P:Program}{w:World}{K:PySem.W.Frag}{mg:Str->Option Value}{base:Heap}
theorem Fun.dokH{x qual:Str}{st:Stmt}{f:Addr}{fd:FuncData}{N ps:List Str}{k:Nat}{sp:DSp}(F:Fun K x qual st f fd)(S:FnScope N ps (defScope st))(len:∀ ws Q,sp ws Q->ws.length=ps.length)
  (hbody:∀(cdv:Value) (A:Around) (outer:List Env) (s:Shared) (H:Hp) (ws:List W) (Q:Ret->Prop),Room0 k (A.deeper (envOfC qual (defScope st) s.heap.objs.size f cdv))->sp ws Q ->
   ∃ t,DSs (cxH P w K mg base N qual (defScope st) f cdv A outer s H) (defBody st) t/\t { nx:=fun _=>Q (.val .none),rt:=Q } (startF N ws)):FnH P w K mg base (k+1) f fd ps (cnSp K sp):=by
 obtain⟨oc,od,kV,doc,pm,an,cdv,ct,osl,rfl,lk,hcd⟩:=F.ex
 refine⟨fun vs H Q E ⟨ws,QD,r,q,_⟩=>by rw [<-r.length];exact len ws QD q,fun A outer s H args us vs Q E hr e0 hb r ⟨ws,QD,rw',q,kk⟩=>?_⟩
 have hl:vs.length=ps.length:=by rw [<-rw'.length];exact len ws QD q
 have KX:K.In s.heap:=e0.mod.kin.keeps fun b o e=>(e0.bs b o e).1
 have lim:s.heap.NoLimit:=e0.mod.nolimit.keeps fun b o e=>(e0.bs b o e).1
 have hkind:∀ y∈ps.zip us,(defScope st).names.lookup y.1=some .local\/((defScope st).names.lookup y.1=some .cell/\((cellsFrom (s.heap.objs.size+1) (defScope st).names []).lookup y.1).isSome=true):=fun⟨n,v⟩ hy=>by
  rcases S.par n (List.of_mem_zip hy).1 with q | q
  ·exact .inl q
  ·exact .inr ⟨q,PySem.W.cellsFrom_some _ _ _ (.inl q)⟩
 refine codeAny_call_function (by have:=hr.dp;omega) (KX _ _ lk) rfl S.co S.gen rfl (PySem.W.codeRec_of KX hcd) (hb _ _ _ _ ?_)
 refine wpAny_newFunctionEnv_cells S.kind hkind fun env he s1 x=>?_
 subst he
 refine⟨lim.keeps x.toInCall.keep,codeAny_func ?_⟩
 obtain⟨t,ht,hq⟩:=hbody cdv A outer s H ws QD (hr.deeper _) q
 have e1:Env0 P w K mg base { A with handled:=none } outer s H:=⟨e0.frames,e0.mod,e0.bs,e0.bsz,e0.funs,e0.frf,e0.hok,e0.bare⟩
 have J:Inv (cxOf CX0 P w K mg base N qual (defScope st) f cdv { A with handled:=none } outer s H E0) [] (start N vs) H s1:=inv_start S rfl e1 hl r x
 have I:Inv (cxH P w K mg base N qual (defScope st) f cdv A outer s H) [] (start N vs) H s1 :=
  ⟨⟨J.ok.mod,J.ok.kind,J.ok.glob,J.ok.blt,J.ok.above,J.ok.inj,J.ok.has,J.ok.cab,(fun z=>nomatch z),Around.frames_deeper e0.frames,J.ok.stk,J.ok.exf,J.ok.bs,J.ok.bsz,J.ok.noex,J.ok.exfs,J.ok.funs,J.ok.frf⟩,J.os,J.bare,J.base,J.loc,J.cell,J.free,J.freeC,J.pin,J.hok,J.len⟩
 refine wpAny_mono (ht.run [] s1 (start N vs) H H _ _ I (DOk.begin rw' N) hq) (fun fl s' hs=>?_) fun e s' hs=>False.elim hs
 have fin:∀{σ':St} {H':Hp} {v:V} {u:Value},Inv (cxH P w K mg base N qual (defScope st) f cdv A outer s H) [] σ' H' s'->RelV v u->Q v H'->CE outer P w H s Q u s' :=
  fun{σ' H' v u} J rv q=>⟨v,H',J.os,J.bare,J.base,J.hok,rv,q⟩
 cases fl with
 | ret u =>
  obtain⟨v,σ',H',r',J,rv,sm,rp,q'⟩:=hs
  exact fin J rv (kk v H' r' sm rp q')
 | next =>
  obtain⟨σ',H',σD',J,ok,_,q'⟩:=hs
  exact fin (v:=V.non) (u:=Value.none) J rfl (kk .non H' (.val .none) ok.same .non q')
 | brk=>obtain⟨_,_,_,_,_,_,q'⟩:=hs;exact False.elim q'
 | cont=>obtain⟨_,_,_,_,_,_,q'⟩:=hs;exact False.elim q'
end
abbrev EX:=Str×List (Str×Int)->Prop
abbrev DSpX:=List W->(Ret->Prop)->EX->Prop
def XE(K:PySem.W.Frag)(H:Hp)(ex:EX):XK:=fun c od H'=>∃ x C,c=.ref C/\PySem.W.nsIn K mainGlobals x.1=some (some (.ref C))/\Same H H'/\((x.2 = []/\od=none)\/∃ d,od=some d/\H' d=some (.xd (x.2.map fun p=>(p.1,V.int p.2))))/\ex x
def cnSpX(K:PySem.W.Frag)(sp:DSpX):Sp:=fun vs H Q E=>∃ ws QD ex,RepWs K H ws vs/\sp ws QD ex/\(∀ v H' r,Same H H'->RepR K H H' r v->QD r->Q v H')/\∀ c od H',XE K H ex c od H'->E c od H'
def CalleeX(P:Program)(w:World)(K:PySem.W.Frag)(mg:Str->Option Value)(base:Heap)(k:Nat)(x:Str)(ps:List Str)(sp:Sp):Prop :=
 ∃ f fd,FnOk P w K mg base (CXk P w) k f fd ps sp/\Binds K fd ps []/\PySem.W.keepIn K (.ref f)=true/\mg x=some (.ref f)
structure DSX(X:Cx)(st:Stmt)(t:DTS):Prop where
 run:∀(pins:List (Addr×Obj)) (s:Shared) (σ:St) (H:Hp) (σD:DSt) (Dn:DEnds),Inv X pins σ H s->DOk X.K X.H₀ H σD σ->t Dn σD->wpAny (model X.prog X.w) X.A (exec st X.env) (DSP X pins X.H₀ H Dn) X.xe s
structure DSXs(X:Cx)(st:List Stmt)(t:DTS):Prop where
 run:∀(pins:List (Addr×Obj)) (s:Shared) (σ:St) (H:Hp) (σD:DSt) (Dn:DEnds),Inv X pins σ H s->DOk X.K X.H₀ H σD σ->t Dn σD->wpAny (model X.prog X.w) X.A (execs st X.env) (DSP X pins X.H₀ H Dn) X.xe s
theorem DSP.unnox{X:Cx}{pins:List (Addr×Obj)}{H₀ H:Hp}{Dn:DEnds}{f:Flow}{s':Shared}(h:DSP X.nox pins H₀ H Dn f s'):DSP X pins H₀ H Dn f s':=by
 cases f with
 | next=>obtain⟨a,b,c,I,r⟩:=h;exact⟨a,b,c,I.unwish,r⟩
 | brk=>obtain⟨a,b,c,I,r⟩:=h;exact⟨a,b,c,I.unwish,r⟩
 | cont=>obtain⟨a,b,c,I,r⟩:=h;exact⟨a,b,c,I.unwish,r⟩
 | ret u=>obtain⟨v,a,b,q,I,r⟩:=h;exact⟨v,a,b,q,I.unwish,r⟩
section
variable {X:Cx}{st:Stmt}{sts rest:List Stmt}{t u:DTS}{pos:Pos}
theorem dsx_of(h:DS X.nox st t):DSX X st t:=⟨fun pins s σ H σD Dn I ok q=>wpAny_mono (h.run pins s σ H X.H₀ σD Dn (I.wish _) ok q) (fun _ _ z=>z.unnox) fun _ _ z=>False.elim z⟩
theorem dsxs_of(h:DSs X.nox sts t):DSXs X sts t:=⟨fun pins s σ H σD Dn I ok q=>wpAny_mono (h.run pins s σ H X.H₀ σD Dn (I.wish _) ok q) (fun _ _ z=>z.unnox) fun _ _ z=>False.elim z⟩
theorem dsxs_nil:DSXs X [] dNext:=dsxs_of dss_nil
theorem dsxs_cons(h1:DSX X st t)(h2:DSXs X rest u):DSXs X (st::rest) (dSeq t u):=⟨fun pins s σ H σD Dn I ok q=>by
 refine wpAny_execs_cons (thn (h1.run pins s σ H σD { Dn with nx:=u Dn } I ok q) fun f s1 z=>?_)
 cases f with
 | next =>
  obtain⟨σ1,H1,σD1,I1,ok1,p1,q1⟩:=z
  exact thn (h2.run pins s1 σ1 H1 σD1 Dn I1 ok1 q1) fun _ _ w'=>w'.back p1
 | brk=>exact z
 | cont=>exact z
 | ret v=>exact z⟩
theorem dsxs_one(h1:DSX X st t):DSXs X [st] t:=⟨fun pins s σ H σD Dn I ok q=>by
 refine wpAny_execs_cons (thn (h1.run pins s σ H σD Dn I ok q) fun f s1 z=>?_)
 cases f with
 | next=>exact wpAny_execs_nil z
 | brk=>exact z
 | cont=>exact z
 | ret v=>exact z⟩
theorem dsx_if{c:Expr}{a b:List Stmt}{tc:DTT}(hc:DT X.nox c tc)(ha:DSXs X a t)(hb:DSXs X b u):DSX X (.If c a b pos) (dIf tc t u):=⟨fun pins s σ H σD Dn I ok q=>by
 refine wpAny_If (wpAny_mono (hc.run pins s σ H X.H₀ σD _ (I.wish _) ok q) (fun d s1 ⟨H1,I1,sm,q1⟩=>?_) fun _ _ z=>False.elim z)
 cases d with
 | true=>rw [if_pos rfl] at q1;exact thn (ha.run pins s1 σ H1 σD Dn I1.unwish (ok.after sm) q1) fun _ _ z=>z.back sm.pers
 | false=>rw [if_neg Bool.false_ne_true] at q1;exact thn (hb.run pins s1 σ H1 σD Dn I1.unwish (ok.after sm) q1) fun _ _ z=>z.back sm.pers⟩
end
section
variable {P:Program}{w:World}{K:PySem.W.Frag}{mg:Str->Option Value}{base:Heap}{N:List Str}{qual:Str}{scope:Scope}{f:Addr}{cd:Value}{A:Around}{outer:List Env}{s:Shared}{H:Hp}{E:XK}
def dRaise(ex:EX)(x:Str):DTS:=fun _ _=>ex (x,[])
theorem dsx_raise{ex:EX}{x:Str}{C:Addr}{np cpos pos:Pos}(hE:∀ c od H',XE K H ex c od H'->E c od H')(hh:A.handled=none)(hg:Gl (cxOf (CXk P w) P w K mg base N qual scope f cd A outer s H E) x)(hm:mg x=some (.ref C))(hn:PySem.W.nsIn K mainGlobals x=some (some (.ref C)))
  (q:PySem.W.excIn K C [.type "ValueError",.type "Exception",.type "BaseException",.type "object"] "ValueError.__new__" = true) (hdb:(x == ("__debug__" : Str))=false:=by decide) :
  DSX (cxOf (CXk P w) P w K mg base N qual scope f cd A outer s H E) (.Raise (some (.Call (.Name x np) [] [] cpos)) none pos) (dRaise ex x) :=
 ⟨fun pins s1 σ H1 σD Dn I ok qq=>raise0 I hh hg hm q (hE _ _ _ ⟨(x,[]),C,rfl,hn,ok.same,.inl ⟨rfl,rfl⟩,qq⟩) hdb⟩
end
section
variable {P:Program}{w:World}{K:PySem.W.Frag}{mg:Str->Option Value}{base:Heap}
theorem Fun.dokX{x qual:Str}{st:Stmt}{f:Addr}{fd:FuncData}{N ps:List Str}{k:Nat}{sp:DSpX}(F:Fun K x qual st f fd)(S:FnScope N ps (defScope st))(len:∀ ws Q ex,sp ws Q ex->ws.length=ps.length)
  (hbody:∀(cdv:Value) (A:Around) (outer:List Env) (s:Shared) (H:Hp) (ws:List W) (Q:Ret->Prop) (ex:EX) (E:XK),Room k (A.deeper (envOfC qual (defScope st) s.heap.objs.size f cdv))->sp ws Q ex->(∀ c od H',XE K H ex c od H'->E c od H') ->
   ∃ t,DSXs (cxOf (CXk P w) P w K mg base N qual (defScope st) f cdv A outer s H E) (defBody st) t/\t { nx:=fun _=>Q (.val .none),rt:=Q } (startF N ws)):FnOk P w K mg base (CXk P w) (k+1) f fd ps (cnSpX K sp):=by
 obtain⟨oc,od,kV,doc,pm,an,cdv,ct,osl,rfl,lk,hcd⟩:=F.ex
 refine fn_of lk hcd S (fun vs H Q E ⟨ws,QD,ex,r,q,_⟩=>by rw [<-r.length];exact len ws QD ex q) fun A outer s H vs Q E hr ⟨ws,QD,ex,r,q,kk,ke⟩=>?_
 obtain⟨t,ht,hq⟩:=hbody cdv A outer s H ws QD ex E hr q ke
 refine⟨fun D σ H1=>∃ σD Dn,DOk K H H1 σD σ/\t Dn σD/\(∀ σ' H' σD',DOk K H H' σD' σ'->Dn.nx σD'->D.nx σ' H')/\(∀ v H' r,Same H H'->RepR K H H' r v->Dn.rt r->D.rt v H')/\(∀ σD',Dn.bk σD'->False)/\∀ σD',Dn.ct σD'->False,?_,?_⟩
 ·intro pins s1 σ H1 D I ⟨σD,Dn,ok,q1,k1,k2,k3,k4⟩
  refine thn (ht.run pins s1 σ H1 σD Dn I ok q1) fun fl s' z=>?_
  cases fl with
  | next=>obtain⟨a,b,c,e1,e2,e3,e4⟩:=z;exact⟨a,b,e1,k1 a b c e2 e4⟩
  | brk=>obtain⟨a,b,c,e1,e2,e3,e4⟩:=z;exact(k3 _ e4).elim
  | cont=>obtain⟨a,b,c,e1,e2,e3,e4⟩:=z;exact(k4 _ e4).elim
  | ret u=>obtain⟨v,a,b,r,e1,e2,e3,e4,e5⟩:=z;exact⟨v,a,b,e1,e2,k2 v b r e3 e4 e5⟩
 ·exact⟨_,_,DOk.begin r N,hq,fun σ' H' σD' ok' q'=>kk .non H' (.val .none) ok'.same .non q',fun v H' r' sm rp qr=>kk v H' r' sm rp qr,fun _ z=>z.elim,fun _ z=>z.elim⟩
end
theorem exc_match{K:PySem.W.Frag}{M:Model}{A:Around}{E:Value->Shared->Prop}{s:Shared}{C CK a:Addr}{oe:Obj}{Q:Bool->Shared->Prop}(X:K.In s.heap)(he:s.heap.get? a=some oe)(hc:oe.cls=.ref C)
  (e:PySem.W.kitCls K (.ref C) (.ref CK)=some true) (b:PySem.W.subIn K (.ref CK) (.type "BaseException")=some true) (q:Q true s):wpAny M A (excMatches (.ref a) (.ref CK)) Q E s:=by
 obtain⟨L1,L2,L3⟩:=PySem.W.kit_cls (M:=M) X e
 have L4:=PySem.W.looks_subIn (M:=M) X b
 have Lt:PySem.W.Looks M s.heap (typeOf (.ref a)) (.ref C):=hc ▸ (PySem.W.Looks.ld he).andThen .now
 have Li:PySem.W.Looks M s.heap (isInstance (.ref CK) (.type "tuple")) false:=L1.andThen (PySem.W.Looks.of_pure tc_notTuple)
 have Le:PySem.W.Looks M s.heap (isExcClass (.ref CK)) true:=L2.andThen L4
 unfold excMatches
 refine wpAny_bind (Li.here ?_)
 refine wpAny_bind (wpAny_pure ?_)
 simp only [List.forIn_cons,List.forIn_nil]
 refine wpAny_bind (wpAny_bind (wpAny_bind (Le.here ?_)))
 refine wpAny_pure ?_
 refine wpAny_pure ?_
 refine wpAny_bind (Lt.here ?_)
 refine wpAny_bind (wpAny_bind (wpAny_bind (L3.here ?_)))
 exact wpAny_pure (wpAny_pure (wpAny_pure q))
structure XCls(K:PySem.W.Frag)(CK C:Addr):Prop where
 sub:PySem.W.kitCls K (.ref C) (.ref CK)=some true
 bas:PySem.W.subIn K (.ref CK) (.type "BaseException")=some true
theorem excO_ok{P:Program}{w:World}{H:Hp}{h:Heap}{a C:Addr}{od:Option Addr}(hy:Fly h a (.ref C) od):ObjOk P w H h a (ExcO C od a):=by
 obtain⟨oe,vs,_,_,_,he,⟨h1,h2⟩,hd,_⟩:=hy
 exact⟨⟨oe,he,h1,h2,vs,hd⟩,⟨oe,he⟩,fun _ _ ⟨o,e1,r⟩ k=>⟨o,k o e1,r⟩⟩
section
variable {X:Cx}{pins:List (Addr×Obj)}{σ:St}{H H₀:Hp}{s s':Shared}{E:XK}{e:Value}
theorem caught{Q:Flow->Shared->Prop}{E':Value->Shared->Prop}{n kn:Str}{i:Nat}{b0:Stmt}{suite:List Stmt}{kp hpos:Pos}{CK:Addr}(I:Inv X pins σ H s)(hX:X.stack=X.env::X.outer)(hF:X.env.frame=some X.env.locals)(hx:CXk X.prog X.w X.stack H s E e s')
  (hg:Gl X kn) (hm:X.mg kn=some (.ref CK)) (hdb:(kn == ("__debug__" : Str))=false) (hN:X.N.Nodup) (hi:X.N[i]?=some n) (hl:X.env.scope.names.lookup n=some .local)
  (hE:∀ C od H',E (.ref C) od H'->XCls X.K CK C/\∀ a,H' a=none->∀ s2,Inv (X.held (.ref a)) pins (σ.set i (some (.ref a))) (upd H' a (ExcO C od a)) s2 ->
   wpAny (model X.prog X.w) (X.held (.ref a)).A (execs (b0::suite) X.env) (fun f s3=>∃ σ3 H3,Inv X pins σ3 H3 s3/\∀ s4,Inv X pins (List.replicate X.N.length none) H3 s4->Q f s4) (fun _ _=>False) s2) :
  wpAny (model X.prog X.w) X.A (noteFrame e X.env) (fun _ s2=>wpAny (model X.prog X.w) X.A (setFlight e none) (fun _ s3=>wpAny (model X.prog X.w) X.A (handleBy e X.env [.ExceptHandler (some (.Name kn kp)) (some n) (b0::suite) hpos]) Q E' s3) E' s2) E' s':=by
 obtain⟨a,C,od,H',rfl,os,bare,un,hok,new,fr,fly,hE'⟩:=hx
 obtain⟨XC,hsuite⟩:=hE C od H' hE'
 have J:Inv X pins σ H' s':=I.call' os un hok bare (fun b hb=>nomatch hb)
 refine noted (base:=X.base) (outer:=X.outer) (by rw [I.ok.frames,hX]) (by rw [<-hX];exact J.stack) hF (.inl fly) fun h2 S F2=>?_
 rw [<-hX] at S
 have hok2:HOk X.prog X.w H' h2:=hok.sl S J.stkFree fr
 have un2:=un.sl S (fun b o hb _=>hb) new
 have ne:∀ b u,H' b=some u->b≠a:=fun b u q z=>by rw [z,fr] at q;cases q
 have up:∀ b u,H' b=some u->upd H' a (ExcO C od a) b=some u:=fun b u q=>by rw [upd_ne (ne b u q)];exact q
 have un3:Un (frs X.stack) [] H (upd H' a (ExcO C od a)) s.heap h2:=⟨un2.keep,un2.slot,fun b o e n hx=>by
   rw [upd_ne (fun z=>by rw [z,new] at e;cases e)]
   exact un2.free b o e n hx,un2.there,fun b xs e=>up _ _ (un2.tups b xs e),fun b o u e=>up _ _ (un2.frzs b o u e),fun b ps e=>by
   obtain⟨m,q⟩:=un2.tbls b ps e
   exact⟨m,up _ _ q⟩⟩
 have hok3:HOk X.prog X.w (upd H' a (ExcO C od a)) h2:=fun b u q=>by
  by_cases z:b=a
  ·subst z
   rw [upd_same] at q
   cases q
   exact excO_ok F2
  ·rw [upd_ne z] at q
   exact(hok2 b u q).stay (fun _ _ _ q=>q) (fun c q=>up _ _ q) (fun c xs q=>up _ _ q) fun c _ _ q=>up _ _ q
 have I2:Inv X pins σ (upd H' a (ExcO C od a)) { s' with heap:=h2 }:=I.call' (s':={ s' with heap:=h2 }) os un3 hok3 bare (fun b hb=>nomatch hb)
 have I3:=I2.held (.ref a)
 refine wpAny_handleBy_cons (codeAny_handlers_test (ld_glob I3 hg hm ?_ hdb)) (by intro q;cases q)
 obtain⟨oe,vs,_,_,_,he,⟨hc,_⟩,_⟩:=id F2
 refine exc_match (s:={ s' with heap:=h2 }) I2.kIn he hc XC.sub XC.bas ?_
 refine codeAny_handlers_suite_as (lands (s:={ s' with heap:=h2 }) F2 fun h3 same=>?_)
 have I4:=I3.kept (h':=h3) (t':=s'.toks) fun b u q=>by rw [same];exact q
 refine store_ok (X:=X.held (.ref a)) I4 hN hi (.inl hl) (v:=.ref a) rfl (fun s4 I5=>?_) (.inr hl)
 refine wpAny_mono (hsuite a fr s4 I5) (fun f s5 ⟨σ5,H5,I6,k⟩=>?_) fun _ _ z=>False.elim z
 obtain⟨m,hn,_⟩:=I6.loc
 exact wpAny_nameGoes hl hn (by rw [I.ok.kind];rfl) fun h6 m6 hn6 hs6=>k _ (I6.goes hn6 hs6 _)
end
def dTry(L:List Str)(sp:DSpX)(spg:DSp)(t:DTP):DTS:=fun Dn σ=>t σ fun ws=>sp ws (fun r=>Dn.rt r) fun x=>x.1∈L/\spg [.exc x] fun r=>Dn.rt r
section
variable {X:Cx}
theorem ds_try{L:List Str}{CK:Addr}{k kg k' i:Nat}{x g n kn:Str}{ps pg:List Str}{sp:DSpX}{spg:DSp}{t:DTP}{e:Expr}{es:List Expr}{p kp hpos gp np gpos rpos rpos2 cpos pos:Pos}
  (C:CalleeX X.prog X.w X.K X.mg X.base k x ps (cnSpX X.K sp)) (G:CalleeH X.prog X.w X.K X.mg X.base kg g pg (cnSp X.K spg)) (hr:Room k' X.A) (hm:X.mg kn=some (.ref CK)) (hL:∀ y∈L,∀ D,PySem.W.nsIn X.K mainGlobals y=some (some (.ref D))->XCls X.K CK D)
  (hN:X.N.Nodup) (hi:X.N[i]?=some n) (hl:X.env.scope.names.lookup n=some .local) (hgx:Gl X x) (hgg:Gl X g) (hgk:Gl X kn) (hX:X.stack=X.env::X.outer) (hF:X.env.frame=some X.env.locals) (ha:DPs X (e::es) t)
  (hk:k<=k':=by decide) (hkg:kg<=k':=by decide) (hdx:(x == ("__debug__" : Str))=false:=by decide) (hdg:(g == ("__debug__" : Str))=false:=by decide) (hdk:(kn == ("__debug__" : Str))=false:=by decide)
  (hdn:(n == ("__debug__" : Str))=false:=by decide) (hcn:(n == ("__classdict__" : Str))=false:=by decide)
  (he:starEach (e::es) X.env=(false,eval e X.env)::starEach es X.env:=by rfl) (hpl:(backTo cpos (starEach es X.env)).any (·.1)=false:=by rfl) (hnox:X.xe=fun _ _=>False:=by rfl) :
  DS X (.Try [.Return (some (.Call (.Name x p) (e::es) [] cpos)) rpos] [.ExceptHandler (some (.Name kn kp)) (some n) [.Return (some (.Call (.Name g gp) [.Name n np] [] gpos)) rpos2] hpos] [] [] pos) (dTry L sp spg t):=⟨fun pins s σ H H₀ σD Dn I ok q=>by
 obtain⟨f,fd,F,b,kp',m⟩:=C
 refine wpAny_Try_except (wpAny_execs_cons (wpAny_Return_some (wpAny_Call_Name_kw (ld_glob I hgx m ?_ hdx))))
 refine PySem.W.callWith_K (h₀:=X.base) I.ok.mod.kin kp' (wpAny_mono (ha.run cpos pins s σ H H₀ σD _ I ok q) (fun us s1 ⟨vs,H1,ws,I1,r,s01,rp,q1⟩=>⟨I1.kIn,?_⟩) (fun _ _ z=>by rw [hnox] at z;exact False.elim z)) he hpl
 have hlen:us.length=ps.length:=by
  rw [<-r.length]
  exact F.len vs H1 (fun _ _=>True) (fun _ _ _=>True) ⟨ws,_,_,rp,q1,fun _ _ _ _ _ _=>trivial,fun _ _ _ _=>trivial⟩
 have bb:BindsTo s1 fd ⟨us,[]⟩ (ps.zip us):=by
  have:=b s1 us I1.kIn (by rw [List.append_nil];exact hlen)
  rw [List.append_nil] at this
  exact this
 refine wpAny_call (codeAny_mono (F.run X.A X.stack s1 H1 ⟨us,[]⟩ us vs (fun v H'=>∃ r,Same H1 H'/\RepR X.K H1 H' r v/\Dn.rt r) (XE X.K H1 fun x=>x.1∈L/\spg [.exc x] fun r=>Dn.rt r) (hr.mono hk) I1.env0 bb r
  ⟨ws,_,_,rp,q1,fun v H' r sm rr qq=>⟨r,sm,rr,qq⟩,fun _ _ _ z=>z⟩) fun res s' hq=>?_)
 have back:∀{H':Hp} {r:Ret} {v:V},Same H1 H'->RepR X.K H1 H' r v->RepR X.K H₀ H' r v:=fun{H' r v} sm rr=>by
  cases r with
  | val d=>exact rr
  | new xs=>obtain⟨a,vs,e1,nn,e2,r⟩:=rr;exact⟨a,vs,e1,(ok.same.trans s01).free nn,e2,r⟩
 cases res with
 | error er =>
  refine caught (i:=i) I1 hX hF hq hgk hm hdk hN hi hl fun D od H' hE=>?_
  obtain⟨x,D',eD,hns,sm,fx,hxL,hsp⟩:=hE
  cases eD
  refine⟨hL x.1 hxL D hns,fun a fr s2 J=>?_⟩
  have sm2:Same H' (upd H' a (ExcO D od a)):=same_new fr _
  have hiσ:i<σ.length:=by rw [I.len];exact(List.getElem?_eq_some_iff.mp hi).1
  have body:=pss_one (X:=X.held (.ref a)) (ps_ret (pos:=rpos2) (pe_callH (X:=X.held (.ref a)) (p:=gp) (pos:=gpos) G (hr.r0.mark _) hgg (pa_cons (pe_var (X:=X.held (.ref a)) (i:=i) (pos:=np) hi (.inl hl) hdn hcn) pa_nil) hkg hdg rfl rfl))
  refine wpAny_mono (body pins s2 _ _ { nx:=fun _ _=>False,rt:=fun v H3=>∃ r,Same (upd H' a (ExcO D od a)) H3/\RepR X.K (upd H' a (ExcO D od a)) H3 r v/\Dn.rt r } J ?_) (fun fl s3 z=>?_) fun _ _ z=>z
  ·refine⟨.ref a,List.getElem?_set_self hiσ,[.exc x],_,.cons ⟨a,D,od,rfl,hns,upd_same,?_⟩ .nil,hsp,fun v H3 r sm3 rr qq=>⟨r,sm3,rr,qq⟩⟩
   rcases fx with fx | ⟨d,ed,fx⟩
   ·exact .inl fx
   ·exact .inr ⟨d,ed,sm2 _ _ fx⟩
  ·cases fl with
   | next=>obtain⟨_,_,_,z⟩:=z;exact z.elim
   | brk=>obtain⟨_,_,_,z⟩:=z;exact False.elim z
   | cont=>obtain⟨_,_,_,z⟩:=z;exact False.elim z
   | ret u =>
    obtain⟨v,σ3,H3,J3,rv,r,sm3,rr,qq⟩:=z
    refine⟨σ3,H3,J3.unheld I.ok,fun s4 J4=>⟨v,_,H3,r,J4,rv,ok.same.trans (s01.trans (sm.trans (sm2.trans sm3))),?_,qq⟩⟩
    cases r with
    | val d=>exact rr
    | new xs=>obtain⟨b',vs',e1,nn,e2,r⟩:=rr;exact⟨b',vs',e1,(ok.same.trans (s01.trans (sm.trans sm2))).free nn,e2,r⟩
 | ok fl =>
  cases fl with
  | ret u =>
   obtain⟨v,H',J,rv,r,sm,rr,qq⟩:=I1.after hq
   exact⟨v,σ,H',r,J,rv,ok.same.trans (s01.trans sm),back sm rr,qq⟩
  | next=>exact False.elim hq
  | brk=>exact False.elim hq
  | cont=>exact False.elim hq⟩
end
end L2
namespace L2
open PySem PySem.Spec PyProof.Rows PySem.W
section
variable {prog:Program}{w:World}{A:Around}{E:Value->Shared->Prop}{s:Shared}{K:Frag}{x C:Addr}{ox:Obj}{od:Option Obj}
theorem exc_check{nameV:Value}{Q:Unit->Shared->Prop}{M:Model}(X:K.In s.heap)(I:InstAt s.heap x ox C od)(hb:mroIn K C (.type "BaseException")=some true)(q:Q () s):
  wpAny M A (checkBuiltinCall "BaseException.__getattribute__" ⟨[.ref x,nameV],[]⟩) Q E s:=by
 have hk:builtinKind "BaseException.__getattribute__" = some .slot:=by decide +kernel
 have hsplit:splitId "BaseException.__getattribute__" = some ("BaseException", "__getattribute__"):=by decide +kernel
 have L1:Looks M s.heap (isInstance (.ref x) (.type "BaseException")) true:=I.type.andThen (looks_mroIn X hb)
 have ha:=PySem.F.args_bexc_ga (.ref x) nameV
 simp only [checkBuiltinCall,hk,hsplit]
 refine wpAny_bind (L1.here ?_)
 repeat (any_goals (first | assumption | wp_step))
theorem exc_ga_class{tk:Tok}{R:Result->Shared->Prop}(X:K.In s.heap)(I:InstAt s.heap x ox C od)(hb:mroIn K C (.type "BaseException")=some true)
  (hf:findObj K C od "__class__" = some (.bind (.builtin "getset_descriptor.__get__") (.builtin "object.__class__"))) (hm:mroIn K C (.type "object")=some true) (q:R (.ok (.ret (.ref C))) s) :
  codeAny (model prog w) A (.call (.builtin "BaseException.__getattribute__") ⟨[.ref x,.str "__class__" tk],[]⟩) R s:=by
 refine codeAny_call_builtin PySem.F.attr_ValueError.ga.plain PySem.F.entry_bexc_ga (exc_check X I hb ?_)
 have L0:=I.type (M:=model prog w)
 have L1:=looks_find (M:=model prog w) X I hf
 obtain⟨hh,g,dr,t,os⟩:=s
 unfold Builtin.«object.__getattribute__»
 repeat (any_goals (first | assumption | exact L0.at ‹_› | wp_step))
 refine wpAny_loadPart_at I.at_ (wpAny_pure ?_)
 rw [I.cls]
 refine wpAny_bind (L1.at ?_)
 unfold Builtin.ObjectAttr.bindTo
 repeat (any_goals (first | assumption | wp_step))
 exact class_get X I hm (wpAny_pure q)
theorem exc_class{Q:Option Value->Shared->Prop}(X:K.In s.heap)(I:InstAt s.heap x ox C od)(hga:findIn K (.ref C) "__getattribute__" = some (some (.builtin "BaseException.__getattribute__")))(hhk:findIn K (.ref C) "__getattr__" = some none)(hb:mroIn K C (.type "BaseException")=some true)
  (hf:findObj K C od "__class__" = some (.bind (.builtin "getset_descriptor.__get__") (.builtin "object.__class__"))) (hm:mroIn K C (.type "object")=some true) (q:Q (some (.ref C)) { s with toks:=s.toks+1 }) :
  wpAny (model prog w) A (getAttr? (.ref x) "__class__") Q E s:=by
 have L0:=I.type (M:=model prog w)
 have L1:=looks_findIn (M:=model prog w) X hga
 have L2:=looks_findIn (M:=model prog w) X hhk
 obtain⟨hh,g,d,t,os⟩:=s
 unfold getAttr? getAttrBy? getAttrBy
 refine wpAny_bind (wpAny_mkText (wpAny_bind (wpAny_attempt (wpAny_holding (wpAny_bind (L0.at (wpAny_bind (L1.at ?_))))))))
 dsimp only
 rw [if_neg (by rw [show(Value.builtin "BaseException.__getattribute__" == Value.builtin "object.__getattribute__")=false by decide +kernel,Bool.and_false];decide)]
 unfold getAttrByItsOwn hookBefore
 rw [if_pos (by rfl)]
 refine wpAny_bind (L2.at (wpAny_bind (wpAny_attempt (wpAny_holding ?_))))
 unfold callGetattribute
 rw [if_neg (by decide +kernel)]
 unfold boundAndCalled
 refine wpAny_bind (wpAny_of_eq (PySem.F.attr_ValueError.ga.bind (.ref x)) ?_)
 refine wpAny_call (exc_ga_class (s:=⟨hh,g,d,t+1,os⟩) X I hb hf hm ?_)
 exact handed_on rfl (wpAny_pure q)
end
structure XIs(K:Frag)(C:Addr):Prop where
 ga:findIn K (.ref C) "__getattribute__" = some (some (.builtin "BaseException.__getattribute__"))
 hk:findIn K (.ref C) "__getattr__" = some none
 bas:mroIn K C (.type "BaseException")=some true
 dct:hasDictIn K C=true
 fnd:findIn K (.ref C) "__class__" = some (some (.builtin "object.__class__"))
 spc:specialIn K (.builtin "object.__class__") "__get__" = some (some (.builtin "getset_descriptor.__get__"))
 tks:takesIn K (.builtin "object.__class__")=some true
 mro:mroIn K C (.type "object")=some true
theorem cls_look{K:Frag}{C:Addr}(h:hasDictIn K C=true):∃ cd,clsIn K C=some cd/\∃ c d sl,K.lookup C=some ⟨c,d,.cls cd,sl⟩:=by
 unfold hasDictIn at h
 cases e:clsIn K C with
 | none=>rw [e] at h;cases h
 | some cd =>
  refine⟨cd,rfl,?_⟩
  unfold clsIn at e
  split at e
  ·next ho=>cases e;exact⟨_,_,_,ho⟩
  ·cases e
theorem kitx_exc{K:Frag}{a C:Addr}(Z:XIs K C):KitX K (.ref a) (.ref C) (fun h=>∃ ox od,InstAt h a ox C od) where
 ty:=fun M h _ ⟨ox,od,I⟩=>I.type
 it:=fun M h X _=>by
  obtain⟨cd,_,c,d,sl,ho⟩:=cls_look Z.dct
  exact(Looks.ld (X _ _ ho)).andThen .now
 ne:=fun h tp dd its n sl X htp=>by
  obtain⟨cd,_,c,d,sl',ho⟩:=cls_look Z.dct
  cases q:(Value.ref C == Value.ref tp) with
  | false=>rfl
  | true =>
   cases beq_iff_eq.mp q
   have z:=(X _ _ ho).symm.trans htp
   cases z
 ca:=fun{prog w A E Q s} X ⟨ox,od,I⟩ k=>by
  obtain⟨cd,hc,_⟩:=cls_look Z.dct
  have hf:findObj K C od "__class__" = some (.bind (.builtin "getset_descriptor.__get__") (.builtin "object.__class__")):=by
   unfold findObj
   rw [hc,Option.bind_some,Z.fnd,Option.bind_some]
   simp [Z.spc,Z.tks]
  exact exc_class X I Z.ga Z.hk Z.bas hf Z.mro k
section
variable {X:Cx}{pins:List (Addr×Obj)}{σ:St}{H:Hp}{s:Shared}
def XDc(H:Hp)(od:Option Addr):Prop:=od=none\/∃ d fs,od=some d/\H d=some (.xd fs)
theorem XDc.of{K:Frag}{x:Str×List (Str×Int)}{od:Option Addr}(h:(x.2 = []/\od=none)\/∃ d,od=some d/\H d=some (.xd (x.2.map fun p=>(p.1,V.int p.2)))):XDc H od:=by
 rcases h with h | ⟨d,e,h⟩
 ·exact .inl h.2
 ·exact .inr ⟨d,_,e,h⟩
theorem inst_exc(I:Inv X pins σ H s){a C:Addr}{od:Option Addr}(h:H a=some (ExcO C od a))(hd:XDc H od):∃ ox oo,InstAt s.heap a ox C oo:=by
 obtain⟨⟨oe,he,hc,hdi,vs,hf⟩,_,_⟩:=I.hok _ _ h
 have hno:notCls oe=true:=by unfold notCls;rw [hf]
 rcases hd with rfl | ⟨d,fs,rfl,hx⟩
 ·exact⟨oe,none,he,hc,hno,by rw [hdi];trivial⟩
 ·obtain⟨o,ho⟩:=(I.hok _ _ hx).ex
  exact⟨oe,some o,he,hc,hno,by rw [hdi];exact ho⟩
def dIsX(i:Nat)(tab:Str->Option Bool):DTE:=fun σ Q=>match σ[i]? with
 | some (some (.exc x))=>(match tab x.1 with
  | some b=>Q (.bool b)
  | none=>False)
 | _=>False
variable {e:Expr}{pos p:Pos}
theorem de_isX(i:Nat){x:Str}{px:Pos}{tab:Str->Option Bool}{c:Value}{cv:V}(rc:∀ u,RelV cv u->u=c)(hk:∀ nm b,tab nm=some b->∀ C,nsIn X.K mainGlobals nm=some (some (.ref C))->XIs X.K C/\kitOne X.K (.ref C) c=some b)
  (hg:Gl X "isinstance") (hm:X.mg "isinstance" = none) (hv:bootBuiltins "isinstance" = some (.builtin "isinstance")) (h2:PE X e (tC cv)) (hN:X.N[i]?=some x:=by rfl) (hvs:Vis X.env.scope x:=by first | exact Or.inl rfl | exact Or.inr (Or.inl rfl) | exact Or.inr (Or.inr rfl))
  (hd:(x == ("__debug__" : Str))=false:=by decide) (hcd:(x == ("__classdict__" : Str))=false:=by decide)
  (he:starEach [.Name x px,e] X.env=(false,eval (.Name x px) X.env)::starEach [e] X.env:=by rfl) (he2:starEach [e] X.env=(false,eval e X.env)::starEach [] X.env:=by rfl) (hpl:(backTo pos (starEach [e] X.env)).any (·.1)=false:=by rfl) :
  DE X (.Call (.Name "isinstance" p) [.Name x px,e] [] pos) (dIsX i tab):=by
 have hc:CallR X (.builtin "isinstance") (fun vs H Q=>∃ nm b a C od,vs = [.ref a,cv]/\tab nm=some b/\nsIn X.K mainGlobals nm=some (some (.ref C))/\H a=some (ExcO C od a)/\XDc H od/\Q (.bl b) H):=fun pins s σ H xs us Q I rv ⟨nm,b,a,C,od,e,ht,hn,ha,hd,q⟩=>by
  subst e
  obtain⟨u,w,rfl,r1,r2⟩:=rv.two
  cases r1
  cases rc _ r2
  obtain⟨Z,ek⟩:=hk nm b ht C hn
  exact kia_one (kitx_exc Z) I.kIn (inst_exc I ha hd) ek (fun z=>nomatch z) fun tk=>⟨.bl b,H,I.tok tk,rfl,q⟩
 refine DE.of (pe_callB hc hg hm hv (pa_cons (pe_var (i:=i) hN hvs hd hcd) (pa_cons h2 pa_nil he2) he) (by decide) (by decide) he hpl) fun σ H H₀ σD QD ok q=>?_
 unfold dIsX at q
 split at q
 ·next x' e' =>
  obtain⟨v,e1,a,C,od,rfl,hn,ha,hf⟩:=ok.exc e'
  split at q
  ·next b ht=>exact⟨.ref a,e1,x'.1,b,a,C,od,rfl,ht,hn,ha,XDc.of (K:=X.K) hf,.bool b,Same.refl _,.bl,q⟩
  ·exact q.elim
 ·exact q.elim
theorem de_isXT(i:Nat){x:Str}{px tp:Pos}{k:Nat}{es:List Expr}{tab:Str->Option Bool}{cs:List Value}{cvs:List V}(rc:∀ us,Vals cvs us->us=cs)(hk:∀ nm b,tab nm=some b->∀ C,nsIn X.K mainGlobals nm=some (some (.ref C))->XIs X.K C/\kitAny X.K (.ref C) cs=some b)
  (hg:Gl X "isinstance") (hm:X.mg "isinstance" = none) (hv:bootBuiltins "isinstance" = some (.builtin "isinstance")) (h2:PA X es (fun _ H Q=>Q cvs H)) (hz:cvs.length<=sizeLine) (hN:X.N[i]?=some x:=by rfl) (hvs:Vis X.env.scope x:=by first | exact Or.inl rfl | exact Or.inr (Or.inl rfl) | exact Or.inr (Or.inr rfl))
  (hd:(x == ("__debug__" : Str))=false:=by decide) (hcd:(x == ("__classdict__" : Str))=false:=by decide)
  (he:starEach [.Name x px,.Tuple es k tp] X.env=(false,eval (.Name x px) X.env)::starEach [.Tuple es k tp] X.env:=by rfl) (he2:starEach [.Tuple es k tp] X.env=(false,eval (.Tuple es k tp) X.env)::starEach [] X.env:=by rfl) (hpl:(backTo pos (starEach [.Tuple es k tp] X.env)).any (·.1)=false:=by rfl) :
  DE X (.Call (.Name "isinstance" p) [.Name x px,.Tuple es k tp] [] pos) (dIsX i tab):=by
 have hc:CallR X (.builtin "isinstance") (fun vs H Q=>∃ nm b a C od q,vs = [.ref a,.ref q]/\tab nm=some b/\nsIn X.K mainGlobals nm=some (some (.ref C))/\H a=some (ExcO C od a)/\XDc H od/\SqT X.K H q cvs/\Q (.bl b) H):=fun pins s σ H xs us Q I rv ⟨nm,b,a,C,od,tq,e,ht,hn,ha,hd,hq,q⟩=>by
  subst e
  obtain⟨u,w,rfl,r1,r2⟩:=rv.two
  cases r1
  cases r2
  obtain⟨Z,ek⟩:=hk nm b ht C hn
  obtain⟨its,rr,⟨⟨c',dd,dt,sl⟩,h1,h2,⟨n,h3⟩,_⟩,_⟩:=I.tupleD hq
  cases rc _ rr
  simp only at h2 h3
  subst h2 h3
  exact kia_tup (kitx_exc Z) I.kIn (inst_exc I ha hd) h1 ek (fun z=>nomatch z) fun tk=>⟨.bl b,H,I.tok tk,rfl,q⟩
 refine DE.of (pe_callB hc hg hm hv (pa_cons (pe_var (i:=i) hN hvs hd hcd) (pa_cons (pe_tup h2) pa_nil he2) he) (by decide) (by decide) he hpl) fun σ H H₀ σD QD ok q=>?_
 unfold dIsX at q
 split at q
 ·next x' e' =>
  obtain⟨v,e1,a,C,od,rfl,hn,ha,hf⟩:=ok.exc e'
  split at q
  ·next b ht =>
   refine⟨.ref a,e1,hz,fun tq hq=>?_⟩
   have sm:=same_new hq (.tup cvs)
   have ok2:=ok.after sm
   obtain⟨v2,e2,a2,C2,od2,rfl,hn2,ha2,hf2⟩:=ok2.exc e'
   rw [e1] at e2
   cases e2
   exact⟨x'.1,b,a,C2,od2,tq,rfl,ht,hn2,ha2,XDc.of (K:=X.K) hf2,SqT.of upd_same,.bool b,sm,.bl,q⟩
  ·exact q.elim
 ·exact q.elim
theorem pa_tyNil:PA X [] (fun _ H Q=>Q [] H):=pa_nil
theorem pa_tyCons{es:List Expr}{v:V}{vs:List V}(h:PE X e (tC v))(t:PA X es (fun _ H Q=>Q vs H))(hs:starEach (e::es) X.env=(false,eval e X.env)::starEach es X.env:=by rfl):PA X (e::es) (fun _ H Q=>Q (v::vs) H):=pa_cons h t hs
def dNeverE:DTE:=fun _ _=>False
theorem de_neverE:DE X e dNeverE:=⟨fun _ _ _ _ _ _ _ _ _ h=>h.elim⟩
theorem o_eq0{k:Nat}(hr:Room0 k X.A):OpD X (compareOp .Eq) gEq:=⟨fun pins s σ H x y v u a b Q I rx ry ra rb q=>by
 have G:=(o_eqG (X:=X) hr.units).run pins s σ H x y v u a b Q I rx ry ra rb
 have S:=(o_eqS (X:=X) (f:=fun _ _=>true) false .Eq op_eq).run pins s σ H x y v u a b Q I rx ry ra rb
 cases a <;> cases b <;> first | exact S q | exact G q⟩
theorem o_ne0{k:Nat}(hr:Room0 k X.A):OpD X (compareOp .NotEq) gNe:=⟨fun pins s σ H x y v u a b Q I rx ry ra rb q=>by
 have G:=(o_neG (X:=X) hr.units).run pins s σ H x y v u a b Q I rx ry ra rb
 have S:=(o_eqS (X:=X) (f:=fun _ _=>true) true .NotEq op_ne).run pins s σ H x y v u a b Q I rx ry ra rb
 cases a <;> cases b <;> first | exact S q | exact G q⟩
def isBX(k:Bool):Value->Bool
 | .bool i=>i == k
 | _=>false
theorem bool_valsX:∀{bs:List Bool} {its:List Value},Vals (bs.map V.bl) its->its=bs.map Value.bool
 | [],_,.nil=>rfl
 | b::bs,_,.cons h t=>by
  have h:_=Value.bool b:=h
  rw [h,bool_valsX t]
  rfl
theorem mt_countX:MtR X "list.count" (fun x vs H Q=>∃(l:Addr) (bs:List Bool) (k:Bool),x=.ref l/\vs = [.bl k]/\Rd H l (.lst (bs.map V.bl))/\Q (.int ((bs.count k:Nat):Int)) H):=by
 intro pins s σ H x vs v us Q I rx rv h
 obtain⟨l,bs,k,rfl,rfl,hR,q⟩:=h
 cases rx
 obtain⟨u,rfl,ru⟩:=rv.one
 cases ru
 obtain⟨z,its,n,r,e⟩:=hR.ok I.hok
 cases bool_valsX r
 refine call_meets F.slot_list_count ⟨_,e,rfl⟩ F.entry_list_count (F.args_list_count_2 _ _) (PySem.SeqAt.list_countAt l (bs.map Value.bool).toArray n none #[] (.bool k) (isBX k)) ⟨e,fun y hy=>?_,?_⟩
 ·obtain⟨b,_,rfl⟩:=List.mem_map.mp (List.mem_toArray.mp hy)
  exact PySem.SeqAt.EqAt.bool_bool b k
 ·have ec:(bs.map Value.bool).countP (isBX k)=bs.count k:=by
   rw [List.countP_map]
   rfl
  rw [List.toList_toArray,ec]
  exact⟨.int ((bs.count k:Nat):Int),H,I.tok _,⟨_,rfl⟩,q⟩
theorem mt_indexX:MtR X "list.index" (fun x vs H Q=>∃(l:Addr) (bs:List Bool) (k:Bool) (j:Nat),x=.ref l/\vs = [.bl k]/\Rd H l (.lst (bs.map V.bl))/\bs.findIdx? (· == k)=some j/\Q (.int (j:Int)) H):=by
 intro pins s σ H x vs v us Q I rx rv h
 obtain⟨l,bs,k,j,rfl,rfl,hR,hj,q⟩:=h
 cases rx
 obtain⟨u,rfl,ru⟩:=rv.one
 cases ru
 obtain⟨z,its,n,r,e⟩:=hR.ok I.hok
 cases bool_valsX r
 obtain⟨hlt,hit,hno⟩:=List.findIdx?_eq_some_iff_getElem.mp hj
 rw [List.length_map] at z
 have zl:=sizeLine_eq
 refine call_meets F.slot_list_index ⟨_,e,rfl⟩ F.entry_list_index (F.args_list_index_2 _ _) (PySem.SeqAt.list_indexAt l (bs.map Value.bool).toArray n none #[] (.bool k) (isBX k) j (by simpa using hlt) (by omega) ?_ fun m hm hmj=>?_) ⟨e,fun y hy=>?_,?_⟩
 ·simp only [List.getElem_toArray,List.getElem_map]
  exact hit
 ·simp only [List.getElem_toArray,List.getElem_map]
  have:=hno m hmj
  simpa [isBX] using this
 ·obtain⟨b,_,rfl⟩:=List.mem_map.mp (List.mem_toArray.mp hy)
  exact PySem.SeqAt.EqAt.bool_bool b k
 ·exact⟨.int (j:Int),H,I.tok _,⟨_,rfl⟩,q⟩
variable {o:Expr}{to te:DTE}{apos cpos:Pos}
def dCntX(to te:DTE):DTE:=fun σ Q=>to σ fun d=>match d with
 | .list xs=>te σ fun k=>(match k with
  | .bool c=>(match boolsD xs with
   | some bs=>Q (.int ((bs.count c:Nat):Int))
   | none=>False)
  | _=>False)
 | _=>False
def dIdxX(to te:DTE):DTE:=fun σ Q=>to σ fun d=>match d with
 | .list xs=>te σ fun k=>(match k with
  | .bool c=>(match boolsD xs with
   | some bs=>(match bs.findIdx? (· == c) with
    | some j=>Q (.int (j:Nat))
    | none=>False)
   | none=>False)
  | _=>False)
 | _=>False
theorem de_countX(ho:DV X o to)(ha:DE X e te)(hbase:attributeBase o "count" X.env (eval o X.env)=eval o X.env:=by rfl)
  (hfew:((backTo cpos (starEach [e] X.env)).all (fun x=>!x.1) && (backToKw cpos (keywordEach [] X.env)).all (fun x=>x.1.isSome) && decide (([e]:List Expr).length+([]:List Keyword).length+(if ([]:List Keyword).isEmpty then 0 else 1)<30))=true:=by rfl)
  (hline:(apos.endLine == cpos.line)=true:=by rfl) (hs:starEach [e] X.env=(false,eval e X.env)::starEach [] X.env:=by rfl) (hplain:(backTo cpos (starEach [] X.env)).any (·.1)=false:=by rfl) :
  DE X (.Call (.Attribute o "count" apos) [e] [] cpos) (dCntX to te) :=
 DE.of (pe_bm F.plainAttrs_list F.slot_list_count F.type_list_count mt_countX ho.pe (pa_cons ha.pe pa_nil hs) hbase hfew hline hs hplain) fun σ H H₀ σD QD ok q=>⟨H₀,σD,_,ok,q,fun v H1 d s1 r1 q1=>by
  cases d with
  | list xs =>
   obtain⟨a,vs,rfl,hR,rp⟩:=r1.list
   refine⟨.inl ⟨rfl,vs,.inl hR⟩,H₀,σD,_,ok.after s1,q1,fun v2 H2 d2 s2 r2 q2=>?_⟩
   cases d2 with
   | bool c =>
    cases r2
    dsimp only at q2
    split at q2
    ·next bs hb =>
     have e:=boolsD_rep rp hb
     subst e
     refine⟨a,bs,c,rfl,rfl,s2.rd hR,.int _,s1.trans s2,.int,q2⟩
    ·exact q2.elim
   | _=>exact q2.elim
  | _=>exact q1.elim⟩
theorem de_indexX(ho:DV X o to)(ha:DE X e te)(hbase:attributeBase o "index" X.env (eval o X.env)=eval o X.env:=by rfl)
  (hfew:((backTo cpos (starEach [e] X.env)).all (fun x=>!x.1) && (backToKw cpos (keywordEach [] X.env)).all (fun x=>x.1.isSome) && decide (([e]:List Expr).length+([]:List Keyword).length+(if ([]:List Keyword).isEmpty then 0 else 1)<30))=true:=by rfl)
  (hline:(apos.endLine == cpos.line)=true:=by rfl) (hs:starEach [e] X.env=(false,eval e X.env)::starEach [] X.env:=by rfl) (hplain:(backTo cpos (starEach [] X.env)).any (·.1)=false:=by rfl) :
  DE X (.Call (.Attribute o "index" apos) [e] [] cpos) (dIdxX to te) :=
 DE.of (pe_bm F.plainAttrs_list F.slot_list_index F.type_list_index mt_indexX ho.pe (pa_cons ha.pe pa_nil hs) hbase hfew hline hs hplain) fun σ H H₀ σD QD ok q=>⟨H₀,σD,_,ok,q,fun v H1 d s1 r1 q1=>by
  cases d with
  | list xs =>
   obtain⟨a,vs,rfl,hR,rp⟩:=r1.list
   refine⟨.inl ⟨rfl,vs,.inl hR⟩,H₀,σD,_,ok.after s1,q1,fun v2 H2 d2 s2 r2 q2=>?_⟩
   cases d2 with
   | bool c =>
    cases r2
    dsimp only at q2
    split at q2
    ·next bs hb =>
     split at q2
     ·next j hj =>
      have e:=boolsD_rep rp hb
      subst e
      refine⟨a,bs,c,j,rfl,rfl,s2.rd hR,hj,.int _,s1.trans s2,.int,q2⟩
     ·exact q2.elim
    ·exact q2.elim
   | _=>exact q2.elim
  | _=>exact q1.elim⟩
end
end L2
namespace L2
open PySem PySem.Spec PyProof.Rows PySem.W
def tabX(L:List Str)(t:Str):Str->Option Bool:=fun nm=>if L.contains nm then some (nm == t) else none
def tabB(L:List Str)(b:Bool):Str->Option Bool:=fun nm=>if L.contains nm then some b else none
section
variable {K:Frag}{C D:Addr}{t:Value}{b:Bool}
theorem kitCls_of(hd:hasDictIn K D=true)(ht:typeIn K (.ref D)=some (.type "type"))(hs:subIn K t (.ref D)=some b):kitCls K t (.ref D)=some b:=by
 obtain⟨cd,hc,_⟩:=cls_look hd
 show(if ((clsIn K D).isSome && typeIn K (.ref D) == some (.type "type"))=true then subIn K t (.ref D) else none)=some b
 rw [hc,ht,if_pos (by rfl)]
 exact hs
theorem kitOne_ne(h:C≠D)(k:kitCls K (.ref C) (.ref D)=some b):kitOne K (.ref C) (.ref D)=some b:=by
 unfold kitOne
 rw [if_neg (fun q=>h (Value.ref.inj (beq_iff_eq.mp q)))]
 exact k
theorem kitOne_self:kitOne K (.ref C) (.ref C)=some true:=by
 unfold kitOne
 rw [if_pos (by exact beq_self_eq_true _)]
theorem kitOne_ty{T:String}(hm:kitMeta T=true)(hs:subIn K (.ref C) (.type T)=some b):kitOne K (.ref C) (.type T)=some b:=by
 unfold kitOne
 rw [if_neg (fun q=>by cases beq_iff_eq.mp q)]
 show(if kitMeta T=true then subIn K (.ref C) (.type T) else none)=some b
 rw [if_pos hm]
 exact hs
theorem kitAny_no{c:Value}{cs:List Value}(h:kitOne K t c=some false)(r:kitAny K t cs=some b):kitAny K t (c::cs)=some b:=by
 unfold kitAny
 rw [h]
 exact r
theorem kitAny_nil:kitAny K t []=some false:=rfl
theorem fa_nil{P:Str->Prop}:∀ r∈([]:List Str),P r:=fun _ h=>nomatch h
theorem fa_cons{P:Str->Prop}{a:Str}{l:List Str}(h:P a)(t:∀ r∈l,P r):∀ r∈a::l,P r:=fun r hr=>by
 rcases List.mem_cons.mp hr with rfl | hr
 ·exact h
 ·exact t r hr
theorem tab_of{c:Value->Prop}{L:List Str}{tab:Str->Option Bool}{F:Addr->Bool->Prop}(hL:∀ nm b,tab nm=some b->nm∈L)
  (h:∀ r∈L,∃ C,nsIn K mainGlobals r=some (some (.ref C))/\∀ b,tab r=some b->F C b):∀ nm b,tab nm=some b->∀ C,nsIn K mainGlobals nm=some (some (.ref C))->F C b:=fun nm b e C hC=>by
 obtain⟨C',h1,h2⟩:=h nm (hL nm b e)
 rw [h1] at hC
 cases hC
 exact h2 b e
theorem tabX_in{L:List Str}{t:Str}:∀ nm b,tabX L t nm=some b->nm∈L:=fun nm b e=>by
 unfold tabX at e
 split at e
 ·next h=>exact List.contains_iff_mem.mp h
 ·cases e
theorem tabB_in{L:List Str}{v:Bool}:∀ nm b,tabB L v nm=some b->nm∈L:=fun nm b e=>by
 unfold tabB at e
 split at e
 ·next h=>exact List.contains_iff_mem.mp h
 ·cases e
theorem tab_at{tab:Str->Option Bool}{r:Str}{v:Bool}{F:Addr->Bool->Prop}(hC:nsIn K mainGlobals r=some (some (.ref C)))(ht:tab r=some v)(f:F C v):∃ C,nsIn K mainGlobals r=some (some (.ref C))/\∀ b,tab r=some b->F C b :=
 ⟨C,hC,fun b e=>by rw [ht] at e;cases e;exact f⟩
theorem ns_at{r:Str}{F:Addr->Prop}(hC:nsIn K mainGlobals r=some (some (.ref C)))(f:F C):∀ D,nsIn K mainGlobals r=some (some (.ref D))->F D:=fun D e=>by rw [hC] at e;cases e;exact f
theorem vals_cls:∀(ps:List (V×Value)),(∀ p∈ps,∀ u,RelV p.1 u->u=p.2)->∀ us,Vals (ps.map (·.1)) us->us=ps.map (·.2)
 | [],_,_,.nil=>rfl
 | p::ps,h,_,.cons r t=>by rw [h p List.mem_cons_self _ r,vals_cls ps (fun q hq=>h q (List.mem_cons_of_mem _ hq)) _ t];rfl
end
theorem dseq_by{t R:DTS}{Dn:DEnds}{σ:DSt}(P:DSt->Prop)(h:∀ N:DSt->Prop,(∀ σ',P σ'->N σ')->t { Dn with nx:=N } σ)(k:∀ σ',P σ'->R Dn σ'):dSeq t R Dn σ:=h _ k
def gIsB:DOp:=fun a b Q=>match a,b with
 | .bool i,.bool j=>Q (.bool (decide (i=j)))
 | _,_=>False
theorem op_isB{X:Cx}:OpR X (compareOp .Is) (fun x y H Q=>∃ a b,x=.bl a/\y=.bl b/\Q (.bl (decide (a=b))) H):=by
 intro pins s σ H x y v w Q I rv rw' h
 obtain⟨a,b,rfl,rfl,q⟩:=h
 obtain rfl:v=Value.bool a:=rv
 obtain rfl:w=Value.bool b:=rw'
 have e:isSame (Value.bool a) (Value.bool b)=pure (decide (a=b)):=by cases a <;> cases b <;> rfl
 refine wpAny_bind (wpAny_of_eq e (wpAny_pure ?_))
 exact⟨.bl (decide (a=b)),H,I,rfl,q⟩
section
variable {X:Cx}
theorem o_isB:OpD X (compareOp .Is) gIsB:=OpD.of op_isB fun x y H a b Q ra rb q=>by
 cases a with
 | bool i =>
  cases b with
  | bool j =>
   have ra:=ra.rep (fun xs z=>by cases z)
   have rb:=rb.rep (fun xs z=>by cases z)
   cases ra
   cases rb
   exact⟨i,j,rfl,rfl,.bool (decide (i=j)),Same.refl _,.bl,q⟩
  | _=>exact q.elim
 | _=>exact q.elim
end
end L2
namespace L2
open PySem PySem.Spec PyProof.Rows
section
variable {X:Cx}
end
section
variable {K:PySem.W.Frag}{H₀ H:Hp}{σD:DSt}{σ:St}
theorem Slots.focus{fp:List Addr}(h:Slots K H₀ H σD σ fp){i:Nat}{o:O}(e:σD[i]?=some (some (.own o))):
  ∃ v f g g',σ[i]?=some (some v)/\RepO K H o v f/\fp=g++(f++g')/\∀ H' o' f',Pers H H'->(∀ a,a∈g++g'->∀ u,H a=some u->H' a=some u)->RepO K H' o' v f'->Slots K H₀ H' (clr (σD.set i (some (.own o')))) σ (g++(f'++g')):=by
 induction h generalizing i with
 | nil=>simp at e
 | none t ih =>
  cases i with
  | zero=>simp at e
  | succ i=>obtain⟨v,f,g,g',h1,h2,h3,h4⟩:=ih (i:=i) (by simpa using e);exact⟨v,f,g,g',by simpa using h1,h2,h3,fun H' o' f' p k r=>.none (h4 H' o' f' p k r)⟩
 | val q t ih =>
  cases i with
  | zero=>simp at e
  | succ i=>obtain⟨v,f,g,g',h1,h2,h3,h4⟩:=ih (i:=i) (by simpa using e);exact⟨v,f,g,g',by simpa using h1,h2,h3,fun H' o' f' p k r=>.val (q.mono p) (h4 H' o' f' p k r)⟩
 | vw q t ih =>
  cases i with
  | zero=>simp at e
  | succ i=>obtain⟨v,f,g,g',h1,h2,h3,h4⟩:=ih (i:=i) (by simpa using e);exact⟨v,f,g,g',by simpa using h1,h2,h3,fun H' o' f' p k r=>.vw q (h4 H' o' f' p k r)⟩
 | vd q t ih =>
  cases i with
  | zero=>simp at e
  | succ i=>obtain⟨v,f,g,g',h1,h2,h3,h4⟩:=ih (i:=i) (by simpa using e);exact⟨v,f,g,g',by simpa using h1,h2,h3,fun H' o' f' p k r=>.vd q (h4 H' o' f' p k r)⟩
 | exc q t ih =>
  cases i with
  | zero=>simp at e
  | succ i=>obtain⟨v,f,g,g',h1,h2,h3,h4⟩:=ih (i:=i) (by simpa using e);exact⟨v,f,g,g',by simpa using h1,h2,h3,fun H' o' f' p k r=>.exc q (h4 H' o' f' p k r)⟩
 | scr q t ih =>
  cases i with
  | zero=>simp at e
  | succ i=>obtain⟨v,f,g,g',h1,h2,h3,h4⟩:=ih (i:=i) (by simpa using e);exact⟨v,f,g,g',by simpa using h1,h2,h3,fun H' o' f' p k r=>.scr q (h4 H' o' f' p k r)⟩
 | pen q t ih =>
  cases i with
  | zero=>simp at e
  | succ i=>obtain⟨v,f,g,g',h1,h2,h3,h4⟩:=ih (i:=i) (by simpa using e);exact⟨v,f,g,g',by simpa using h1,h2,h3,fun H' o' f' p k r=>.pen (p _ _ q rfl) (h4 H' o' f' p k r)⟩
 | tmp q t ih =>
  cases i with
  | zero=>simp at e
  | succ i=>obtain⟨v,f,g,g',h1,h2,h3,h4⟩:=ih (i:=i) (by simpa using e);exact⟨v,f,g,g',by simpa using h1,h2,h3,fun H' o' f' p k r=>.none (h4 H' o' f' p k r)⟩
 | @own o0 v0 f0 ws wvs fp' q t ih =>
  cases i with
  | zero =>
   simp at e
   subst e
   refine⟨v0,f0,[],fp',rfl,q,rfl,fun H' o' f' p k r=>?_⟩
   rw [List.nil_append]
   exact .own r (t.keepC p fun a ha u hu=>k a ha u hu)
  | succ i =>
   obtain⟨v,f,g,g',h1,h2,h3,h4⟩:=ih (i:=i) (by simpa using e)
   refine⟨v,f,f0++g,g',by simpa using h1,h2,by rw [h3,List.append_assoc],fun H' o' f' p k r=>?_⟩
   rw [List.append_assoc]
   refine .own (q.keep p fun a ha u hu=>k a ?_ u hu) (h4 H' o' f' p (fun a ha u hu=>k a ?_ u hu) r)
   ·exact List.mem_append_left _ (List.mem_append_left _ ha)
   ·rcases List.mem_append.mp ha with z | z
    ·exact List.mem_append_left _ (List.mem_append_right _ z)
    ·exact List.mem_append_right _ z
theorem DOk.focus(h:DOk K H₀ H σD σ){i:Nat}{o:O}(e:σD[i]?=some (some (.own o))):
  ∃ v f,σ[i]?=some (some v)/\RepO K H o v f/\f.Nodup/\(∀ a∈f,H₀ a=none)/\∀ H' o' f',(∀ a u,a∉f->H a=some u->H' a=some u)->f'.Nodup->(∀ a∈f',a∈f\/H a=none)->RepO K H' o' v f' ->
   DOk K H₀ H' (clr (σD.set i (some (.own o')))) σ/\Pers H H':=by
 obtain⟨s,fp,sl,nd,fr⟩:=h
 obtain⟨v,f,g,g',h1,h2,rfl,h4⟩:=sl.focus e
 have nd':=nd
 rw [List.nodup_append,List.nodup_append] at nd'
 obtain⟨ng,⟨nf,ng',dfg'⟩,dg⟩:=nd'
 have inf:∀ a∈f,a∈g++(f++g'):=fun a ha=>List.mem_append_right _ (List.mem_append_left _ ha)
 refine⟨v,f,h1,h2,nf,fun a ha=>fr a (inf a ha),fun H' o' f' k nf' hf' r=>?_⟩
 have pr:Pers H H':=fun a u ha hp=>k a u (fun z=>by obtain⟨w,e1,e2⟩:=h2.live a z;rw [ha] at e1;cases e1;rw [e2] at hp;cases hp) ha
 have off:∀ a,a∈g++g'->a∉f:=fun a ha z=>by
  rcases List.mem_append.mp ha with y | y
  ·exact dg a y a (List.mem_append_left _ z) rfl
  ·exact dfg' a z a y rfl
 have lv:∀ a,a∈g++g'->H a≠none:=fun a ha z=>by
  obtain⟨w,e1,_⟩:=sl.live a (by rcases List.mem_append.mp ha with y | y;exact List.mem_append_left _ y;exact List.mem_append_right _ (List.mem_append_right _ y))
  rw [z] at e1
  cases e1
 refine⟨⟨fun a u ha=>k a u (fun z=>by rw [fr a (inf a z)] at ha;cases ha) (s a u ha),_,h4 H' o' f' pr (fun a ha u hu=>k a u (off a ha) hu) r,?_,fun a ha=>?_⟩,pr⟩
 ·have nq:∀ x∈g++g',∀ y∈f',x≠y:=fun x hx y hy z=>by
   subst z
   rcases hf' x hy with q | q
   ·exact off x hx q
   ·exact lv x hx q
  rw [List.nodup_append,List.nodup_append]
  refine⟨ng,⟨nf',ng',fun x hx y hy z=>nq y (List.mem_append_right _ hy) x hx z.symm⟩,fun x hx y hy=>?_⟩
  rcases List.mem_append.mp hy with q | q
  ·exact nq x (List.mem_append_left _ hx) y q
  ·exact dg x hx y (List.mem_append_right _ q)
 ·rcases List.mem_append.mp ha with q | q
  ·exact fr a (List.mem_append_left _ q)
  ·rcases List.mem_append.mp q with q | q
   ·rcases hf' a q with z | z
    ·exact fr a (inf a z)
    ·cases y:H₀ a with
     | none=>rfl
     | some u=>rw [s a u y] at z;cases z
   ·exact fr a (List.mem_append_right _ (List.mem_append_right _ q))
def O.bare:O->O
 | .anc _ o=>o.bare
 | o=>o
def O.with:O->O->O
 | .anc a o,o'=>.anc a (o.with o')
 | _,o'=>o'
theorem RepO.bare{o:O}{v:V}{f:List Addr}(h:RepO K H o v f):RepO K H o.bare v f:=by
 induction o with
 | anc a o ih=>exact ih h.2
 | _=>exact h
theorem RepO.ref{o:O}{v:V}{f:List Addr}(h:RepO K H o v f):∃ a,v=.ref a:=by
 induction o with
 | anc a o ih=>exact⟨a,h.1⟩
 | lst xs=>obtain⟨a,_,e,_⟩:=h;exact⟨a,e⟩
 | dct xs=>obtain⟨a,_,e,_⟩:=h;exact⟨a,e⟩
 | nst xs ds=>obtain⟨a,_,_,e,_⟩:=h;exact⟨a,e⟩
 | ins c fs=>obtain⟨a,_,_,_,e,_⟩:=h;exact⟨a,e⟩
 | mix ms=>obtain⟨a,_,_,e,_⟩:=h;exact⟨a,e⟩
theorem RepO.with{H':Hp}{o o':O}{v:V}{f f':List Addr}(h:RepO K H o v f)(h':RepO K H' o' v f'):RepO K H' (o.with o') v f':=by
 induction o with
 | anc a o ih=>exact⟨h.1,ih h.2⟩
 | _=>exact h'
end
def W.plain:W->Bool
 | .val _=>true
 | .pen=>true
 | _=>false
theorem RepWs.mono{K:PySem.W.Frag}{H H':Hp}(p:Pers H H'):∀{ws:List W} {vs:List V},(∀ w∈ws,w.plain=true)->RepWs K H ws vs->RepWs K H' ws vs
 | [],_,_,.nil=>.nil
 | w::ws,_,h,.cons r t=>by
  refine .cons ?_ (RepWs.mono p (fun x hx=>h x (List.mem_cons_of_mem _ hx)) t)
  have:=h w List.mem_cons_self
  cases w with
  | val d=>exact Rep.mono p r
  | pen=>obtain⟨a,rfl,r⟩:=r;exact⟨a,rfl,p _ _ r rfl⟩
  | _=>cases this
abbrev DSpG:=List W->O->List W->(D->O->Prop)->Prop
structure GEnds where
 nx:DSt->Prop
 rt:D->DSt->Prop
 bk:DSt->Prop:=fun _=>False
 ct:DSt->Prop:=fun _=>False
abbrev GTS:=GEnds->DSt->Prop
def gEnds(K:PySem.W.Frag)(H₀ H:Hp)(Gn:GEnds):Ends where
 nx:=fun σ' H'=>∃ σD',DOk K H₀ H' σD' σ'/\Pers H H'/\Gn.nx σD'
 bk:=fun σ' H'=>∃ σD',DOk K H₀ H' σD' σ'/\Pers H H'/\Gn.bk σD'
 ct:=fun σ' H'=>∃ σD',DOk K H₀ H' σD' σ'/\Pers H H'/\Gn.ct σD'
 rt:=fun v H'=>∃ σ' σD' d,DOk K H₀ H' σD' σ'/\Rep K H' d v/\Gn.rt d σD'
structure DGS(X:Cx)(st:Stmt)(t:GTS):Prop where
 run:∀(pins:List (Addr×Obj)) (s:Shared) (σ:St) (H H₀:Hp) (σD:DSt) (Gn:GEnds),Inv X pins σ H s->DOk X.K H₀ H σD σ->t Gn σD->wpAny (model X.prog X.w) X.A (exec st X.env) (SP X pins (gEnds X.K H₀ H Gn)) X.xe s
structure DGSs(X:Cx)(st:List Stmt)(t:GTS):Prop where
 run:∀(pins:List (Addr×Obj)) (s:Shared) (σ:St) (H H₀:Hp) (σD:DSt) (Gn:GEnds),Inv X pins σ H s->DOk X.K H₀ H σD σ->t Gn σD->wpAny (model X.prog X.w) X.A (execs st X.env) (SP X pins (gEnds X.K H₀ H Gn)) X.xe s
section
variable {X:Cx}{st:Stmt}{sts rest:List Stmt}{t u:GTS}{e:Expr}{te:DTE}{pos:Pos}
theorem DGS.of{t':TS}(h:PS X st t')(k:∀ σ H H₀ σD Gn,DOk X.K H₀ H σD σ->t Gn σD->t' (gEnds X.K H₀ H Gn) σ H):DGS X st t :=
 ⟨fun pins s σ H H₀ σD Gn I ok q=>h pins s σ H _ I (k σ H H₀ σD Gn ok q)⟩
def cnGG(K:PySem.W.Frag)(t:GTS):TS:=fun E σ H=>∃ H₀ σD Gn,DOk K H₀ H σD σ/\t Gn σD/\(∀ σ' H' σD',DOk K H₀ H' σD' σ'->Pers H H'->Gn.nx σD'->E.nx σ' H')/\(∀ v H' σ' σD' d,DOk K H₀ H' σD' σ'->Rep K H' d v->Gn.rt d σD'->E.rt v H') /\
 (∀ σ' H' σD',DOk K H₀ H' σD' σ'->Pers H H'->Gn.bk σD'->E.bk σ' H')/\∀ σ' H' σD',DOk K H₀ H' σD' σ'->Pers H H'->Gn.ct σD'->E.ct σ' H'
theorem DGSs.ps(h:DGSs X sts t):PSs X sts (cnGG X.K t):=fun pins s σ H E I ⟨H₀,σD,Gn,ok,q,k1,k2,k3,k4⟩=>thn (h.run pins s σ H H₀ σD Gn I ok q) fun f s' z=>by
 cases f with
 | next=>obtain⟨a,b,e1,c,e2,e3,e4⟩:=z;exact⟨a,b,e1,k1 a b c e2 e3 e4⟩
 | brk=>obtain⟨a,b,e1,c,e2,e3,e4⟩:=z;exact⟨a,b,e1,k3 a b c e2 e3 e4⟩
 | cont=>obtain⟨a,b,e1,c,e2,e3,e4⟩:=z;exact⟨a,b,e1,k4 a b c e2 e3 e4⟩
 | ret u=>obtain⟨v,a,b,e1,e2,σ',σD',d,e3,e4,e5⟩:=z;exact⟨v,a,b,e1,e2,k2 v b σ' σD' d e3 e4 e5⟩
end
abbrev DTPG:=DSt->(List W->List W->Prop)->Prop
structure DPG(X:Cx)(i:Nat)(es:List Expr)(t:DTPG):Prop where
 run:∀(pos:Pos) (pins:List (Addr×Obj)) (s:Shared) (σ:St) (H H₀:Hp) (σD:DSt) (Q:List W->List W->Prop),Inv X pins σ H s->DOk X.K H₀ H σD σ->t σD Q ->
  wpAny (model X.prog X.w) X.A (spliced (backTo pos (starEach es X.env))) (fun us s'=>∃ vp v vq H' wp wq,Inv X pins σ H' s'/\Vals (vp++v::vq) us/\Same H H'/\σ[i]?=some (some v)/\RepWs X.K H' wp vp/\RepWs X.K H' wq vq/\Q wp wq) X.xe s
section
variable {X:Cx}{e:Expr}{es:List Expr}{k k' i j:Nat}{x:Str}{ps:List Str}{sp:DSpG}{t:DTPG}{p pos:Pos}
end
section
variable {P:Program}{w:World}{K:PySem.W.Frag}{mg:Str->Option Value}{base:Heap}
end
section
variable {X:Cx}{e ie:Expr}{pos:Pos}{te ta:DTE}{t1 t2:DTF}
end
section
variable {X:Cx}{a b:Expr}{rest:List Expr}{pos:Pos}
end
section
variable {K:PySem.W.Frag}{H:Hp}
end
section
variable {X:Cx}{e:Expr}{es:List Expr}{te:DTE}{t:DTP}{pos:Pos}{c f m x:Str}{C g:Addr}{i j k k':Nat}{fd:FuncData}{ps:List Str}{sp:DSpG}
end
section
variable {X:Cx}{e:Expr}{pos:Pos}{i j:Nat}{sp:DSpG}{t:DTPG}{a b:List Stmt}{ta tb:DTS}
end
section
variable {X:Cx}{tg e:Expr}{te:DTE}
end
section
variable {X:Cx}{e:Expr}{te:DTE}{pos p2:Pos}{lo hi:Option Expr}{tl th:DTO}
theorem sl_txt:SlR X (fun x lo hi H Q=>∃ y,x=.str y/\y.length<=sizeLine/\Q (.str (Txt.slice y lo hi)) H):=by
 intro pins s σ H x v vl vu lo hi sl Q I rx hs pl pu h
 obtain⟨y,rfl,hz,q⟩:=h
 obtain⟨t,rfl⟩:=rx
 refine⟨"str",_,PySem.F.slot_str_getitem.lookup,typeIs_str _ _ _,?_⟩
 have fin:∀(t':Tok) (k:Nat),EP X pins σ Q (.str (Txt.slice y lo hi) t') { s with toks:=k }:=fun t' k=>⟨.str _,H,I.kept (t':=k) (fun b o e=>e),⟨_,rfl⟩,q⟩
 cases pl with
 | none =>
  cases pu with
  | none=>exact wpAny_getItem_str_slice (l:=none) (u:=none) (st:=none) hs rfl (post_val_or_str ⟨Nat.le_trans (Txt.slice_le y _ _) hz,fin⟩)
  | int j uj=>exact wpAny_getItem_str_slice (l:=none) (u:=some (j,uj)) (st:=none) hs rfl (post_val_or_str ⟨Nat.le_trans (Txt.slice_le y _ _) hz,fin⟩)
 | int i ui =>
  cases pu with
  | none=>exact wpAny_getItem_str_slice (l:=some (i,ui)) (u:=none) (st:=none) hs rfl (post_val_or_str ⟨Nat.le_trans (Txt.slice_le y _ _) hz,fin⟩)
  | int j uj=>exact wpAny_getItem_str_slice (l:=some (i,ui)) (u:=some (j,uj)) (st:=none) hs rfl (post_val_or_str ⟨Nat.le_trans (Txt.slice_le y _ _) hz,fin⟩)
def dSlT(te:DTE)(tl th:DTO):DTE:=fun σ Q=>te σ fun d=>tl σ fun l=>th σ fun u=>match d with
 | .str y=>y.length<=sizeLine/\Q (.str (Txt.slice y l u))
 | _=>False
theorem de_sliceT(he:DE X e te)(hl:DO X lo tl)(hu:DO X hi th):DE X (.Subscript e (.Slice lo hi none p2) pos) (dSlT te tl th) :=
 DE.of (pe_slice sl_txt he.pe hl.po hu.po) fun σ H H₀ σD QD ok q=>⟨H₀,σD,_,ok,q,fun v H1 d s1 r1 q1=>⟨H₀,σD,_,ok.after s1,q1,fun l H2 s2 q2=>⟨H₀,σD,_,(ok.after s1).after s2,q2,fun u H3 s3 q3=>by
  cases d with
  | str y =>
   cases r1
   exact⟨y,rfl,q3.1,_,s1.trans (s2.trans s3),.str,q3.2⟩
  | _=>exact q3.elim⟩⟩⟩
end
section
variable {X:Cx}
variable {o e:Expr}{to te:DTE}{apos cpos:Pos}{name:Str}{id:String}{gV:Str->Str->V}{gD:Str->Str->D}
end
open PySem.Builtin PySem.Builtin.Str
section
variable {X:Cx}
variable {o e:Expr}{to te:DTE}{apos cpos:Pos}
end
end L2
namespace L2
open PySem PySem.Spec PyProof.Rows
open PySem.Builtin PySem.Builtin.Str
section
variable {X:Cx}
end
end L2
namespace L2
open PySem PySem.Spec PyProof.Rows
section
variable {X:Cx}
end
section
variable {X:Cx}{e:Expr}{te:DTE}{pos tpos px py ps:Pos}{k i j:Nat}{x y:Str}
end
end L2
namespace L2
open PySem PySem.Spec PyProof.Rows PySem.NumText
structure NumT(x:Str):Prop where
 dig:∀ c∈x.cps.toList,48<=c/\c<=57
 ne:x.cps.toList ≠ []
 le:x.length<=10
 hd:x=Str.ofString "0" \/ x.cps.toList.head?≠some 48
end L2
namespace L2
open PySem PySem.Spec PyProof.Rows
section
variable {X:Cx}{e:Expr}{es:List Expr}
end
section
variable {X:Cx}{k v e f:Expr}{tk tv te tf:DTE}{apos cpos dpos:Pos}
end
section
variable {X:Cx}{k e f:Expr}{tk te tf:DTE}{p1 pos pos':Pos}
def dPutW(i:Nat)(tk tv:DTE):DTS:=fun Dn σ=>tv σ fun d=>match σ[i]? with
 | some (some (.own o))=>match o.bare with
  | .dct ks=>tk σ fun k=>match k with
   | .int n=>ks.length<sizeLine/\Dn.nx (clr (σ.set i (some (.own (o.with (.dct (setK ks (Sum.inl n) d)))))))
   | .str n=>ks.length<sizeLine/\Dn.nx (clr (σ.set i (some (.own (o.with (.dct (setK ks (Sum.inr n) d)))))))
   | _=>False
  | _=>False
 | _=>False
theorem ds_putW(i:Nat){x:Str}{m:Nat}{spos:Pos}(hr:Room m X.A)(hk:DE X k tk)(hv:DE X e te)(hN:X.N[i]?=some x:=by rfl)(hvis:Vis X.env.scope x:=by first | exact Or.inl rfl | exact Or.inr (Or.inl rfl) | exact Or.inr (Or.inr rfl))(hd:(x == ("__debug__" : Str))=false:=by decide)(hcd:(x == ("__classdict__" : Str))=false:=by decide)
  (hs:swapsWith e (some (.Subscript (.Name x p1) k pos')) spos.line X.env=pure false:=by rfl) :
  DS X (.Assign [.Subscript (.Name x p1) k pos'] e spos) (dPutW i tk te) :=
 DS.of (ps_dput (by have:=hr.un;omega) (pe_var (i:=i) hN hvis hd hcd) hk.pe hv.pe hs) fun σ H H₀ σD Dn ok q=>⟨H₀,σD,_,ok,q,fun v H1 d s1 r1 q1=>by
  split at q1
  ·next o eo =>
   split at q1
   ·next ks eb =>
    obtain⟨v',f',e1,rO,_⟩:=(ok.after s1).focus eo
    have r:=rO.bare
    rw [eb] at r
    obtain⟨a,vs,rfl,rfl,ea,rk⟩:=r
    refine⟨.ref a,e1,H₀,σD,_,ok.after s1,q1,fun v2 H2 d2 s2 r2 q2=>?_⟩
    obtain⟨v3,f3,e3,rO3,nf,fr,put⟩:=((ok.after s1).after s2).focus eo
    rw [e1] at e3
    cases e3
    have r3:=rO3.bare
    rw [eb] at r3
    obtain⟨a3,vs3,e4,rfl,ea3,rk3⟩:=r3
    cases e4
    have hl:∀{P:Prop},ks.length<sizeLine/\P->vs3.length<sizeLine:=fun z=>by rw [<-rk3.len];exact z.1
    have fin:∀(kk:Key),DOk X.K H₀ (upd H2 a (.dK (putK vs3 kk v))) (clr (σD.set i (some (.own (o.with (.dct (setK ks kk d))))))) σ/\Pers H2 (upd H2 a (.dK (putK vs3 kk v))):=fun kk=>by
     refine put _ _ [a] (fun c u hc hu=>by rw [upd_ne (fun z=>hc (by rw [z];exact List.mem_singleton.mpr rfl))];exact hu) (List.nodup_cons.mpr ⟨List.not_mem_nil,List.nodup_nil⟩) (fun c hc=>.inl hc) (rO3.with (o':=.dct (setK ks kk d)) ⟨a,_,rfl,rfl,upd_same,?_⟩)
     have:=rk3.put (k:=kk) (r1.same s2)
     exact⟨this.1,this.2.mono (upd_pers ea3 rfl)⟩
    cases d2 with
    | int n' =>
     cases r2
     exact⟨a,_,rfl,DPut.k (k:=Sum.inl n') ea3 (hl q2),_,(fin _).1,(s1.trans s2).pers.trans (fin _).2,q2.2⟩
    | str n' =>
     cases r2
     exact⟨a,_,rfl,DPut.k (k:=Sum.inr n') ea3 (hl q2),_,(fin _).1,(s1.trans s2).pers.trans (fin _).2,q2.2⟩
    | _=>exact q2.elim
   ·exact q1.elim
  ·exact q1.elim⟩
end
def MxAt(K:PySem.W.Frag)(H:Hp)(bs:List Addr)(u:V):Mx->Prop
 | .v d=>Rep K H d u
 | .l xs=>∃ b vs,u=.ref b/\b∈bs/\H b=some (.lst vs)/\Reps K H xs vs
section
variable {K:PySem.W.Frag}{H H':Hp}
theorem MxAt.more{bs cs:List Addr}{u:V}{m:Mx}(h:MxAt K H bs u m)(k:∀ b∈bs,b∈cs):MxAt K H cs u m:=by
 cases m with
 | v d=>exact h
 | l xs=>obtain⟨b,vs,e1,e2,e3⟩:=h;exact⟨b,vs,e1,k b e2,e3⟩
theorem MxR.at:∀{ms:List Mx} {us:List V} {bs:List Addr} {k:Nat} {m:Mx},MxR K H ms us bs->ms[k]?=some m->∃ u,us[k]?=some u/\MxAt K H bs u m
 | [],_,_,k,m,_,e=>by simp at e
 | .v d::ms,u::us,bs,0,m,h,e=>by cases e;exact⟨u,rfl,h.1⟩
 | .v d::ms,u::us,bs,k+1,m,h,e=>by
  obtain⟨w,e1,r⟩:=MxR.at (k:=k) h.2 (by simpa using e)
  exact⟨w,by simpa using e1,r⟩
 | .l xs::ms,u::us,b::bs,0,m,h,e=>by
  cases e
  obtain⟨e0,⟨vs,e1,r⟩,_⟩:=h
  exact⟨u,rfl,b,vs,e0,List.mem_cons_self,e1,r⟩
 | .l xs::ms,u::us,b::bs,k+1,m,h,e=>by
  obtain⟨w,e1,r⟩:=MxR.at (k:=k) h.2.2 (by simpa using e)
  exact⟨w,by simpa using e1,r.more fun c hc=>List.mem_cons_of_mem _ hc⟩
end
section
variable {X:Cx}{e ie:Expr}{te ti:DTE}{tf:DTF}{pos:Pos}
end
section
variable {X:Cx}{tg iter elt:Expr}{ifs:List Expr}{scope:Scope}{cl:List (Str×Addr)}{N' capt:List Str}{k:Nat}{js is:List Nat}{ti:DTF}{g:DTG}{tt:DTT}{tf:DTF}{pos:Pos}
end
end L2
namespace SV
open PySem
structure Bel(xs:Array Nat)(j b:Nat):Prop where
 le:b<=xs.size
 lo:∀ i,i<b->xs.getD i 0<j
 hi:∀ i,b<=i->i<xs.size->j<=xs.getD i 0
def Not(xs:Array Nat)(j:Nat):Prop:=xs[SetTable.below xs j]?≠some j
end SV
namespace SV
open PySem
end SV
namespace PySem
section
variable {prog:Program}{w:World}{K:Type}[DecidableEq K](knd:KeyKind prog w K)
variable {knd}
variable {A:Around}{E:Value->Shared->Prop}{s:Shared}
end
section
open PyProof.Rows
variable {prog:Program}{w:World}{A:Around}{R:Result->Shared->Prop}{I:Addr}{fp wr:List Addr}{G:Array GenState->Array GenState->Prop}{n:Nat}{P:Nat->Value->Prop}{St:Nat->Shared->Prop}
end
section
variable {prog:Program}{w:World}{A:Around}{E:Value->Shared->Prop}{s:Shared}
end
end PySem
namespace PySem
namespace F
end F
section
variable {prog:Program}{w:World}{A:Around}{E:Value->Shared->Prop}{s:Shared}{a:Addr}{o:Obj}{es:Array (Int×Value)}{ep:Nat}{t:SetTable}
end
end PySem
namespace PySem
section
variable {prog:Program}{w:World}{A:Around}{E:Value->Shared->Prop}{s:Shared}{a:Addr}{o:Obj}{es:Array (Int×Value)}{ep:Nat}{t:SetTable}
def IsSI(h:Heap)(I:Addr)(fs:Array Value):Prop:=∃ u,h.get? I=some u/\u.cls=.type "set_iterator" /\ u.data=.fields fs
end
end PySem
namespace SV
open PySem
def sl(t:SetTable)(i:Nat):Nat:=if i=0 then 0 else t.place.getD (i-1) 0+1
end SV
namespace PySem
section
variable {prog:Program}{w:World}{A:Around}{E:Value->Shared->Prop}{s:Shared}{a:Addr}{o:Obj}{es:Array (Int×Value)}{ep:Nat}{t:SetTable}
theorem IsSI.at{h h':Heap}{I:Addr}{fs:Array Value}(x:IsSI h I fs)(e:∀ o,h.get? I=some o->h'.get? I=some o):IsSI h' I fs:=let ⟨u,hu,r⟩:=x;⟨u,e _ hu,r⟩
end
end PySem
namespace SV
open PySem
section
variable {prog:Program}{w:World}{A:Around}{E:Value->Shared->Prop}{s:Shared}{a:Addr}{o:Obj}{es:Array (Int×Value)}{ep:Nat}{t:SetTable}
end
end SV
namespace SQ
open PySem PyProof.Rows
theorem IntsAre.mk:∀{us:List Value},(∀ v∈us,∃ n t,v=.int n t)->∃ ns,IntsAre us ns
 | [],_=>⟨[],.nil⟩
 | u::us,h=>by
  obtain⟨n,t,rfl⟩:=h u List.mem_cons_self
  obtain⟨ns,e⟩:=IntsAre.mk fun v hv=>h v (List.mem_cons_of_mem _ hv)
  exact⟨n::ns,.cons n t e⟩
section
variable {prog:Program}{w:World}{A:Around}{E:Value->Shared->Prop}{s:Shared}{a:Addr}{o:Obj}{es:Array (Int×Value)}{ep:Nat}{t:SetTable}
end
end SQ
namespace L2
open PySem PySem.Spec PyProof.Rows SQ
section
variable {X:Cx}{a:Expr}{p pos p2 pos2:Pos}
end
end L2
namespace SQ
open PySem PyProof.Rows
section
variable {prog:Program}{w:World}{A:Around}{E:Value->Shared->Prop}{s:Shared}{a:Addr}{o:Obj}{es:Array (Int×Value)}{ep:Nat}{t:SetTable}
end
end SQ
namespace L2
open PySem PySem.Spec PyProof.Rows SQ
section
variable {X:Cx}{a:Expr}{p pos p2 pos2:Pos}
end
end L2
namespace L2
open PySem PySem.Spec PyProof.Rows
section
variable {X:Cx}{pins:List (Addr×Obj)}{σ:St}{H:Hp}{s:Shared}{P c:Addr}{q:Str}
end
section
variable {X:Cx}{pins:List (Addr×Obj)}{σ:St}{H:Hp}{a it S f:Addr}{xs:List V}{kf:Nat->Int}{kwd:List (Str×Value)}{R:Value->Shared->Prop}
structure MkHd(X:Cx)(pins:List (Addr×Obj))(σ:St)(H:Hp)(a it S:Addr)(xs:List V)(kf:Nat->Int)(j i:Nat)(H1:Hp)(s:Shared):Prop where
 I:Inv X pins σ H1 s
 sm:Same H H1
 st:s.heap.IsTupleIter it a j
 f1:FpOk X pins H1 it
 f2:FpOk X pins H1 S
 ne:it≠S
 best:∃ vb tb c x,s.heap.get? S=some (seqObj "list" #[vb,.int (kf i) tb] c)/\xs[i]?=some x/\RelV x vb
 lt:i<j
 mx:∀ j',j' < j->kf j'<=kf i/\(j' < i->kf j' < kf i)
theorem FpOk.at{b:Addr}{H1 H2:Hp}(h:FpOk X pins H1 b)(n:H2 b=none):FpOk X pins H2 b:=⟨n,h.2⟩
end
section
variable {X:Cx}{pins:List (Addr×Obj)}{σ:St}{H:Hp}{a f:Addr}{xs:List V}{kf:Nat->Int}{R:Value->Shared->Prop}{s:Shared}
end
section
variable {X:Cx}{a body:Expr}{ta:DTF}{tb:DTE}{p pos kp kp2 lp cp:Pos}{k:Nat}{P c:Addr}{q y:Str}{params:Arguments}{scope:Scope}{N:List Str}
end
section
variable {X:Cx}{e:Expr}{es:List Expr}{k k':Nat}{x q:Str}{T:Addr}{ps:List Str}{sp:DSp}{t:DTP}{p pos:Pos}
end
section
variable {P:Program}{w:World}{K:PySem.W.Frag}{mg:Str->Option Value}{base:Heap}
end
section
variable {T a:Addr}{K:PySem.W.Frag}{h:Heap}
end
end L2
namespace PySem
open Sem (wp)
section
variable {prog:Program}{w:World}{A:Around}{E:Value->Shared->Prop}{h:Heap}{g:Array GenState}{d:Drawn}{t:Nat}{os:OsState}
variable {nm q:Str}{C N:Addr}{bs bm bmB bmN:List Value}{hdct:Bool}{sn:List Str}{sub:List Value}{ab:Bool}{col:Option Bool}{dd:Option Addr}{k0 k1 k2 k3 k5:Option Value}{B Bn newId nid initId inN:String}
end
end PySem
namespace PySem
open Sem (wp)
open Builtin Builtin.ObjectAttr
section
variable {prog:Program}{w:World}{A:Around}{E:Value->Shared->Prop}{h:Heap}{g:Array GenState}{d:Drawn}{t:Nat}{os:OsState}
variable {nm q:Str}{C N x:Addr}{bs bm bmB:List Value}{sn:List Str}{sub:List Value}{ab:Bool}{col:Option Bool}{dd:Option Addr}{k0 k1 k2 k3 k5:Option Value}{B newId sa owner:String}
 {mA:Str->Option Value} {name:Str} {v:Value}
end
end PySem
namespace PySem
open Sem (wp)
section
variable {M:Model}{A:Around}{E:Value->Shared->Prop}{s:Shared}{env:Env}
variable {nm q:Str}{C N:Addr}{bs bm bmB bmN:List Value}{hdct:Bool}{sn:List Str}{sub:List Value}{ab:Bool}{col:Option Bool}{dd:Option Addr}{k0 k1 k2 k3 k5:Option Value}{B Bn newId nid initId inN:String}
end
section
variable {prog:Program}{w:World}{A:Around}{E:Value->Shared->Prop}{s:Shared}{env:Env}
variable {nm q:Str}{C N:Addr}{bs bm bmB bmN:List Value}{hdct:Bool}{sn:List Str}{sub:List Value}{ab:Bool}{col:Option Bool}{dd:Option Addr}{k0 k1 k2 k3 k5:Option Value}{B Bn newId nid initId inN:String}
end
end PySem
namespace L2
open PySem PySem.Spec PyProof.Rows
def excInI(K:PySem.W.Frag)(C:Addr)(bmB:List Value)(newId:String)(fI:Addr):Bool:=match K.lookup C with
 | some ⟨.type "type",_,.cls cd,sl⟩=>(match cd.mro,sl.toList with
  | .ref C'::bm,[_,_,_,_,some (.builtin n),_]=>C' == C && n == newId && !cd.hasDel && cd.hasDict && PySem.W.tailIn K bmB bm && PySem.W.nsOkIn K cd.ns && PySem.W.nsIn K cd.ns "__init__" == some (some (.ref fI))
  | _,_=>false)
 | _=>false
section
variable {X:Cx}{pins:List (Addr×Obj)}{σ:St}{H:Hp}{s:Shared}
end
def excObj(C t:Addr)(od:Option Addr):Obj:={ cls:=.ref C,dict:=od,data:=.fields #[.ref t,.none,.none,.none,.bool false,.none] }
def ExcE(C t:Addr)(od:Option Addr)(a:Addr):HO:=.ext fun h=>h.get? a=some (excObj C t od)
structure XI(X:Cx)(σ:St)(H:Hp)(s:Shared)(e C t:Addr)(od:Option Addr)(mA:Str->Option Value)(c:Nat):Prop where
 I:Inv X [] σ H s
 tr:H e=some (ExcE C t od e)
 no:od=none->∀ n,mA n=none
 ns:∀ d,od=some d->d≠e/\s.heap.Ns1 d mA/\FpOk X [] H d
 few:∃ ks,Within mA ks/\ks.length<=c
structure XFld(K:PySem.W.Frag)(C fI:Addr)(fs:List Str):Prop where
 cls:excInI K C [.type "ValueError",.type "Exception",.type "BaseException",.type "object"] "ValueError.__new__" fI=true
 sa:PySem.W.findIn K (.ref C) "__setattr__" = some (some (.builtin "object.__setattr__"))
 at_:∀ f∈fs,PySem.W.findIn K (.ref C) f=some none
section
variable {X:Cx}{σ:St}{H:Hp}{s:Shared}{e C t fI:Addr}{od:Option Addr}{mA:Str->Option Value}{fs:List Str}{c:Nat}
theorem XI.ob(x:XI X σ H s e C t od mA c):s.heap.get? e=some (excObj C t od):=(x.I.hok e _ x.tr).1
end
def fldV(fs:List Str)(ns:List Int):List (Str×V):=(fs.zip ns).map fun p=>(p.1,V.int p.2)
def InitEnd(P:Program)(w:World)(outer:List Env)(H:Hp)(s s':Shared)(e C t:Addr)(fv:List (Str×V)):Prop :=
 ∃ d H',s'.os=s.os/\AllBare s'.gens/\Un (frs outer) [] H H' s.heap s'.heap/\HOk P w H' s'.heap/\H' e=some (ExcE C t (some d) e)/\H' d=some (.xd fv)/\But e H H'/\d≠e/\H d=none
structure InitOk(P:Program)(w:World)(K:PySem.W.Frag)(mg:Str->Option Value)(base:Heap)(k:Nat)(C fI:Addr)(fs:List Str):Prop where
 run:∀(A:Around) (outer:List Env) (s:Shared) (H:Hp) (e t:Addr) (ns:List Int) (us:List Value),Room k A->Env0 P w K mg base A outer s H->H e=some (ExcE C t none e)->Vals (ns.map V.int) us->ns.length=fs.length ->
  codeAny (model P w) A (.call (.ref fI) ⟨.ref e::us,[]⟩) (fun r s'=>r=.ok (.ret .none)/\InitEnd P w outer H s s' e C t (fldV fs ns)) s
section
variable {P:Program}{w:World}{K:PySem.W.Frag}{mg:Str->Option Value}{base:Heap}{k:Nat}{C fI:Addr}{fd:FuncData}{qual:Str}{st:Stmt}
end
section
variable {P:Program}{w:World}{K:PySem.W.Frag}{mg:Str->Option Value}{base:Heap}{N:List Str}{qual:Str}{scope:Scope}{f:Addr}{cd:Value}{A:Around}{outer:List Env}{s:Shared}{H:Hp}{E:XK}
end
end L2
namespace L2
open PySem PySem.Spec PyProof.Rows PySem.W
section
variable {prog:Program}{w:World}{A:Around}{E:Value->Shared->Prop}{s:Shared}{K:Frag}{x C:Addr}{ox:Obj}{od:Option Obj}{name:Str}{v:Value}
end
section
variable {X:Cx}{pos p:Pos}
end
end L2
namespace L2
open PySem PySem.Spec PyProof.Rows
section
variable {X:Cx}{e:Expr}{es rest:List Expr}{k k':Nat}{x:Str}{ps:List Str}{sp:DSp}{t:DTP}{p cpos:Pos}
end
section
variable {X:Cx}
variable {o e:Expr}{to te:DTE}{apos cpos:Pos}
end
section
variable {X:Cx}{pos p:Pos}
end
section
variable {X:Cx}{e:Expr}{pos p:Pos}
theorem vals_take:∀{xs:List V} {us:List Value} (n:Nat),Vals xs us->Vals (xs.take n) (us.take n)
 | _,_,0,_=>.nil
 | _,_,n+1,.nil=>.nil
 | _,_,n+1,.cons r t=>.cons r (vals_take n t)
theorem vals_drop:∀{xs:List V} {us:List Value} (n:Nat),Vals xs us->Vals (xs.drop n) (us.drop n)
 | _,_,0,h=>h
 | _,_,n+1,.nil=>.nil
 | _,_,n+1,.cons r t=>vals_drop n t
def insL{α:Type}(k:Int)(y:α)(xs:List α):List α:=xs.take k.toNat++y::xs.drop k.toNat
def rInsert:V->List V->Hp->VK->Prop:=fun x vs H Q=>∃(l:Addr) (xs:List V) (k:Int) (y:V),x=.ref l/\vs = [.int k,y]/\H l=some (.lst xs)/\xs.length<sizeLine/\0<=k/\k<=xs.length/\Q .non (upd H l (.lst (insL k y xs)))
theorem mt_insert:MtM X "list.insert" rInsert:=by
 intro pins s σ H x vs v us Q I rx rv h
 obtain⟨l,xs,k,y,rfl,rfl,hH,hz,h0,h1,q⟩:=h
 cases rx
 obtain⟨u1,u,rfl,r1,ru⟩:=rv.two
 obtain⟨t,rfl⟩:=r1
 obtain⟨z,its,n,r,hl,e⟩:=I.lstM hH
 have hn:=r.length
 rw [sizeLine_eq] at hz
 refine call_meets F.slot_list_insert ⟨_,e,rfl⟩ F.entry_list_insert (F.args_list_insert_3 _ _ _) (AutoListH.list_insert_list_int_val_1 l its.toArray n k t u (by unfold Builtin.List.listFitsIndex;simp;omega) (by rw [List.size_toArray,sizeLine_eq];omega)) ⟨e,?_⟩
 have hk:(if k<0 then (k+((its.toArray.size:Nat):Int)).toNat else min k.toNat its.toArray.size)=k.toNat:=by
  rw [if_neg (by omega),List.size_toArray]
  omega
 refine⟨.non,_,I.lset (its':=insL k u its) hH e ?_ ((vals_take _ r).append (.cons ru (vals_drop _ r))) ?_,rfl,q⟩
 ·show((its.toArray.extract 0 (if k<0 then (k+((its.toArray.size:Nat):Int)).toNat else min k.toNat its.toArray.size)).push u++its.toArray.extract (if k<0 then (k+((its.toArray.size:Nat):Int)).toNat else min k.toNat its.toArray.size))=_
  rw [hk]
  unfold insL
  simp [List.extract_eq_take_drop]
  exact List.take_of_length_le (by rw [List.length_drop];exact Nat.le_refl _)
 ·rw [List.length_append,List.length_cons,List.length_take,List.length_drop,sizeLine_eq]
  omega
def dIns(i:Nat)(ti te:DTE):DTS:=fun Dn σ=>match σ[i]? with
 | some (some (.own (.lst xs)))=>ti σ fun k=>match k with
  | .int k=>te σ fun d=>xs.length<sizeLine/\0<=k/\k<=xs.length/\Dn.nx (clr (σ.set i (some (.own (.lst (insL k d xs))))))
  | _=>False
 | _=>False
theorem ds_insert(i:Nat){ie:Expr}{ti te:DTE}{x:Str}{p1 apos cpos:Pos}(hi:DE X ie ti)(he:DE X e te)(hN:X.N[i]?=some x:=by rfl)(hv:Vis X.env.scope x:=by first | exact Or.inl rfl | exact Or.inr (Or.inl rfl) | exact Or.inr (Or.inr rfl))(hd:(x == ("__debug__" : Str))=false:=by decide)
  (hcd:(x == ("__classdict__" : Str))=false:=by decide)
  (hbase:attributeBase (.Name x p1) "insert" X.env (eval (.Name x p1) X.env)=eval (.Name x p1) X.env:=by rfl)
  (hfew:((backTo cpos (starEach (ie :: [e]) X.env)).all (fun x=>!x.1) && (backToKw cpos (keywordEach [] X.env)).all (fun x=>x.1.isSome)
   && decide ((ie :: [e]).length+([]:List Keyword).length+(if ([]:List Keyword).isEmpty then 0 else 1)<30))=true:=by rfl)
  (hline:(apos.endLine == cpos.line)=true:=by rfl) (hst:starEach (ie :: [e]) X.env=(false,eval ie X.env)::starEach [e] X.env:=by rfl) (hst2:starEach (e :: []) X.env=(false,eval e X.env)::starEach [] X.env:=by rfl) (hplain:(backTo cpos (starEach [e] X.env)).any (·.1)=false:=by rfl)
  (hs:swapsWith (.Call (.Attribute (.Name x p1) "insert" apos) [ie,e] [] cpos) none pos.line X.env=pure false:=by rfl):DS X (.Expr (.Call (.Attribute (.Name x p1) "insert" apos) [ie,e] [] cpos) pos) (dIns i ti te) :=
 DS.of (ps_expr (pe_bm PySem.F.plainAttrs_list PySem.F.slot_list_insert PySem.F.type_list_insert mt_insert (pe_var (i:=i) hN hv hd hcd) (pa_cons hi.pe (pa_cons he.pe pa_nil hst2) hst) hbase hfew hline hst hplain) hs) fun σ H H₀ σD Dn ok q=>by
  unfold dIns at q
  split at q
  ·next xs eo =>
   obtain⟨a,vs,e1,e2,r,n⟩:=ok.ownL eo
   refine⟨.ref a,e1,.inl ⟨rfl,vs,SqL.of e2⟩,H₀,σD,_,ok,q,fun w H1 d s1 r1 q1=>?_⟩
   cases d with
   | int k =>
    cases r1
    refine⟨H₀,σD,_,ok.after s1,q1,fun w2 H2 d2 s2 r2 q2=>?_⟩
    have s12:=s1.trans s2
    have rl:=r.length
    exact⟨a,vs,k,w2,rfl,rfl,s12 _ _ e2,by rw [<-rl];exact q2.1,q2.2.1,by rw [<-rl];exact q2.2.2.1,_,(ok.after s12).write eo e1 (s12 _ _ e2) (((r.same s12).take _).append (.cons r2 ((r.same s12).drop _))),s12.pers.trans (upd_pers (s12 _ _ e2) rfl),q2.2.2.2⟩
   | _=>exact q1.elim
  ·exact q.elim
end
section
variable {X:Cx}{a b c d:Expr}{ta tb tc td:DTE}{pos:Pos}
def dChain3(g g' g'':DOp)(ta tb tc td:DTE):DTE:=fun σ Q=>ta σ fun a=>tb σ fun b=>g a b fun z=>match z with
 | .bool k=>if k=true then tc σ fun c=>g' b c fun z=>match z with
  | .bool k=>if k=true then td σ fun d=>g'' c d Q else Q (.bool false)
  | _=>False
  else Q (.bool false)
 | _=>False
theorem de_chain3{op op' op'':CmpOp}{g g' g'':DOp}(ho:OpD X (compareOp op) g)(ho':OpD X (compareOp op') g')(ho'':OpD X (compareOp op'') g'')(ha:DV X a ta)(hb:DV X b tb)(hc:DV X c tc)(hd:DV X d td)
  (hm:lastMarks [op,op',op''] [b,c,d]=false:=by with_unfolding_all rfl):DE X (.Compare a [op,op',op''] [b,c,d] pos) (dChain3 g g' g'' ta tb tc td):=⟨fun pins s σ H H₀ σD Q I ok q=>by
 refine Compare_chain (thn (ha.run pins s σ H H₀ σD _ I ok q) fun v s1 ⟨x,H1,d,I1,r1,sm1,p1,q1⟩=>chain_link (thn (hb.run pins s1 σ H1 H₀ σD _ I1 (ok.after sm1) q1) fun u s2 ⟨y,H2,e,I2,r2,sm2,p2,q2⟩ =>
  thn (ho.run pins s2 σ H2 x y v u d e _ I2 r1 r2 (p1.same sm2) p2 q2) fun k s3 ⟨z,H3,dz,I3,r3,sm3,p3,q3⟩=>?_)) hm
 cases dz with
 | bool k =>
  cases p3
  cases r3
  refine wpAny_truthy_bool ?_
  cases k with
  | false=>exact ite_ff ⟨.bl false,H3,.bool false,I3,rfl,(sm1.trans sm2).trans sm3,.bl,by simpa using q3⟩
  | true =>
   have sm:=(sm1.trans sm2).trans sm3
   simp only [reduceIte] at q3
   refine ite_tt (chain_link (thn (hc.run pins s3 σ H3 H₀ σD _ I3 (ok.after sm) q3) fun w' s4 ⟨z',H4,f,I4,r4,sm4,p4,q4⟩ =>
    thn (ho'.run pins s4 σ H4 y z' u w' e f _ I4 r2 r4 ((p2.same sm3).same sm4) p4 q4) fun k s5 ⟨z5,H5,dz5,I5,r5,sm5,p5,q5⟩=>?_))
   cases dz5 with
   | bool k =>
    cases p5
    cases r5
    refine wpAny_truthy_bool ?_
    cases k with
    | false=>exact ite_ff ⟨.bl false,H5,.bool false,I5,rfl,(sm.trans sm4).trans sm5,.bl,by simpa using q5⟩
    | true =>
     simp only [reduceIte] at q5
     refine ite_tt (chain_last (thn (hd.run pins s5 σ H5 H₀ σD _ I5 (ok.after ((sm.trans sm4).trans sm5)) q5) fun w6 s6 ⟨z6,H6,f6,I6,r6,sm6,p6,q6⟩=>?_))
     exact thn (ho''.run pins s6 σ H6 z' z6 w' w6 f f6 Q I6 r4 r6 ((p4.same sm5).same sm6) p6 q6) fun _ _ z=>z.back (((sm.trans sm4).trans sm5).trans sm6)
   | _=>exact q5.elim
 | _=>exact q3.elim⟩
theorem de_dic1{i j:Int}{k l}{p1 p2:Pos}:DE X (.Dict [some (.Constant (.int i) k p1)] [.Constant (.int j) l p2] pos) (dC (.dict [(.int i,.int j)])):=⟨fun pins s σ H H₀ σD Q I ok q =>
 thn (pe_disp (pps_cons (pe_int (X:=X)) (pe_int (X:=X)) pps_nil) rfl rfl (by simp) (by simp) pins s σ H (fun v H'=>∃ p,v=.ref p/\H p=none/\H'=upd (upd H p (.dK [])) p (.dK [(Sum.inl i,.int j)])) I (fun p hp=>by
  refine⟨upd_same,[(Sum.inl i,.int j)],rfl,by simp,p,rfl,hp,rfl⟩)) fun u s' ⟨v,H',I',r,p,e1,hp,e2⟩=>by
 subst e1 e2
 obtain⟨o,J⟩:=I'.frzK upd_same
 exact⟨.ref p,_,.dict _,J,r,fun b z hb=>by rw [upd_ne (ne_of_none hb hp),upd_ne (ne_of_none hb hp),upd_ne (ne_of_none hb hp)];exact hb,.dic upd_same (.cons .int .nil),q⟩⟩
end
section
variable {X:Cx}
def cnSX(X:Cx)(t:DTS):TS:=fun E σ H=>∃ σD Dn,DOk X.K X.H₀ H σD σ/\t Dn σD/\(∀ σ' H' σD',DOk X.K X.H₀ H' σD' σ'->Pers H H'->Dn.nx σD'->E.nx σ' H')/\(∀ v H' r,Same X.H₀ H'->RepR X.K X.H₀ H' r v->Dn.rt r->E.rt v H') /\
 (∀ σ' H' σD',DOk X.K X.H₀ H' σD' σ'->Pers H H'->Dn.bk σD'->E.bk σ' H')/\∀ σ' H' σD',DOk X.K X.H₀ H' σD' σ'->Pers H H'->Dn.ct σD'->E.ct σ' H'
theorem DSXs.ps{sts:List Stmt}{t:DTS}(h:DSXs X sts t):PSs X sts (cnSX X t):=fun pins s σ H E I ⟨σD,Dn,ok,q,k1,k2,k3,k4⟩=>thn (h.run pins s σ H σD Dn I ok q) fun f s' z=>by
 cases f with
 | next=>obtain⟨a,b,c,e1,e2,e3,e4⟩:=z;exact⟨a,b,e1,k1 a b c e2 e3 e4⟩
 | brk=>obtain⟨a,b,c,e1,e2,e3,e4⟩:=z;exact⟨a,b,e1,k3 a b c e2 e3 e4⟩
 | cont=>obtain⟨a,b,c,e1,e2,e3,e4⟩:=z;exact⟨a,b,e1,k4 a b c e2 e3 e4⟩
 | ret u=>obtain⟨v,a,b,r,e1,e2,e3,e4,e5⟩:=z;exact⟨v,a,b,e1,e2,k2 v b r e3 e4 e5⟩
theorem DSX.of{st:Stmt}{t:DTS}{t':TS}(h:PS X st t')(k:∀ σ H σD Dn,DOk X.K X.H₀ H σD σ->t Dn σD->t' (dEnds X.K X.H₀ H Dn) σ H):DSX X st t :=
 ⟨fun pins s σ H σD Dn I ok q=>thn (h pins s σ H _ I (k σ H σD Dn ok q)) fun _ _ z=>z.dsp⟩
end
section
variable {X:Cx}{pins:List (Addr×Obj)}{σ:St}{H:Hp}{s:Shared}
end
end L2
namespace PySem
section
variable {prog:Program}{w:World}{A:Around}{E:Value->Shared->Prop}{s:Shared}
end
end PySem
namespace L2
open PySem PySem.Spec PyProof.Rows SQ
section
variable {X:Cx}{a:Expr}{p pos p2 pos2:Pos}
end
end L2
namespace L2
open PySem PySem.Spec PyProof.Rows
section
variable {X:Cx}{pos p:Pos}
end
section
variable {prog:Program}{w:World}{A:Around}{R:Result->Shared->Prop}{s:Shared}{elt t1 i1 t2 i2:Expr}{f1 f2:List Expr}{scope:Scope}{pos:Pos}{it acc:Value}{env:Env}
end
section
variable {X:Cx}
end
section
variable {K:PySem.W.Frag}{H₀ H H':Hp}
end
section
variable {X:Cx}{elt tg iter t2 i2:Expr}{ifs ifs2:List Expr}{scope:Scope}{pos:Pos}{cl:List (Str×Addr)}{N' capt:List Str}{k:Nat}{js is is2:List Nat}{ti ti2:DTF}{g g2:DTG}{tt tt2:DTT}{te:DTE}
end
section
variable {X:Cx}
variable {elt tg iter t2 i2:Expr}{ifs ifs2:List Expr}{scope:Scope}{pos:Pos}{cl:List (Str×Addr)}{N' capt:List Str}{k:Nat}{js is is2:List Nat}{ti ti2:DTF}{g g2:DTG}{tt tt2:DTT}{te:DTE}
end
section
variable {X:Cx}{e:Expr}{es:List Expr}{pos:Pos}{i j:Nat}{sp:DSpG}{t:DTPG}
end
section
variable {K:PySem.W.Frag}{H₀ H Hb H':Hp}{σD:DSt}{σ:St}
end
section
variable {X:Cx}{elt tg iter:Expr}{ifs:List Expr}{scope:Scope}{pos:Pos}{cl:List (Str×Addr)}{N' capt:List Str}{k:Nat}{js is:List Nat}{ti:DTF}{g:DTG}{tt:DTT}{sp:DSpG}{t:DTPG}
end
section
variable {X:Cx}
variable {o e:Expr}{to te:DTE}{apos cpos:Pos}
end
end L2
namespace SQ
open PySem PyProof.Rows
set_option autoImplicit false
def Ref2(h:Heap)(v:Value)(is:List Int):Prop:=∃ a its n t u js,v=.ref a/\IsTup h a its/\its.toList = [.int n t,u]/\RefIs h u js/\is=n::js
open Classical in
noncomputable def key2 (h:Heap) (v:Value):Option (List Int):=if x:∃ is,Ref2 h v is then some x.choose else none
@[reducible] noncomputable def prK (h:Heap):KeyKind:={ tupK h with keyOf:=fun v=>key2 h v }
section
variable {prog:Program}{w:World}{A:Around}{E:Value->Shared->Prop}{s:Shared}
theorem items_int{vs:List Value}{ns:List Int}(h:IntsAre vs ns):ItemsAre (intKind prog w) ns vs:=by
 induction h with
 | nil=>exact .nil
 | cons n t h ih=>exact .cons (by simp [intKind,Value.isInt]) ih
theorem All2.perm{α β:Type}{R:α->β->Prop}{as' as:List α}(p:as'.Perm as):∀{bs:List β},All2 R as bs->∃ bs',All2 R as' bs'/\bs'.Perm bs:=by
 induction p with
 | nil=>intro bs h;exact⟨bs,h,.refl _⟩
 | cons x p ih =>
  intro bs h
  cases h with
  | cons h t =>
   obtain⟨bs',h',p'⟩:=ih t
   exact⟨_,.cons h h',p'.cons _⟩
 | swap x y l =>
  intro bs h
  cases h with
  | cons h t =>
   cases t with
   | cons h2 t=>exact⟨_,.cons h2 (.cons h t),.swap _ _ _⟩
 | trans p1 p2 ih1 ih2 =>
  intro bs h
  obtain⟨b1,h1,q1⟩:=ih2 h
  obtain⟨b2,h2,q2⟩:=ih1 h1
  exact⟨b2,h2,q2.trans q1⟩
end
end SQ
namespace L2
open PySem PySem.Spec PyProof.Rows SQ
section
variable {X:Cx}{pins:List (Addr×Obj)}{σ:St}{H:Hp}{s:Shared}
end
end L2
namespace L2
open PySem PySem.Spec PyProof.Rows SQ
section
variable {X:Cx}{pins:List (Addr×Obj)}{σ:St}{H:Hp}{s:Shared}
end
section
variable {X:Cx}{a body:Expr}{ta:DTF}{tb:DTE}{p pos kp lp:Pos}{k:Nat}{P c:Addr}{q y:Str}{params:Arguments}{scope:Scope}{N:List Str}
end
end L2
namespace PySem.AutoSeq1
open PySem.MeetsSeq PySem.MeetsSeq2 PySem.MeetsSeq3
end PySem.AutoSeq1
namespace L2
open PySem PySem.Spec PyProof.Rows
section
variable {X:Cx}{e:Expr}{te:DTE}{pos:Pos}
end
section
variable {X:Cx}
end
section
variable {K:PySem.W.Frag}{H:Hp}
theorem RepKV.getN:∀{ks:List (Key×D)} {vs:List (Key×V)} {k:Key},RepKV K H ks vs->getK ks k=none->valV vs k=none
 | [],vs,k,h,e=>by
  have:vs = []:=by have:=h.len;simpa using this.symm
  rw [this];rfl
 | p::ks,vs,k,h,e=>by
  obtain⟨v,vs',rfl,r,t⟩:=h.split
  by_cases c:p.1=k
  ·simp [getK,c] at e
  ·have e2:getK ks k=none:=by simpa [getK,c] using e
   have:=t.getN e2
   simpa [valV,c] using this
end
section
variable {X:Cx}{tk te:DTE}{pos:Pos}
def dGet2(i:Nat)(tk te:DTE):DTE:=fun σ Q=>match σ[i]? with
 | some (some (.own (.dct ks)))=>tk σ fun k=>te σ fun d=>match k with
  | .int n=>Q ((getK ks (Sum.inl n)).getD d)
  | .str n=>Q ((getK ks (Sum.inr n)).getD d)
  | _=>False
 | some (some (.vd ks))=>tk σ fun k=>te σ fun d=>match k with
  | .int n=>Q ((getK ks (Sum.inl n)).getD d)
  | .str n=>Q ((getK ks (Sum.inr n)).getD d)
  | _=>False
 | _=>False
theorem de_get2(i:Nat){x:Str}{k e:Expr}{p1 apos:Pos}{m:Nat}(hr:Room m X.A)(hk:DE X k tk)(he:DE X e te)(hN:X.N[i]?=some x:=by rfl)(hvis:Vis X.env.scope x:=by first | exact Or.inl rfl | exact Or.inr (Or.inl rfl) | exact Or.inr (Or.inr rfl))(hd:(x == ("__debug__" : Str))=false:=by decide)(hcd:(x == ("__classdict__" : Str))=false:=by decide)
  (mm:M2 X (.Name x p1) "get" apos k e pos:=by exact⟨rfl,rfl,rfl,rfl⟩):DE X (.Call (.Attribute (.Name x p1) "get" apos) [k,e] [] pos) (dGet2 i tk te) :=
 DE.of (pe_dget2 (by have:=hr.un;omega) (pe_var (i:=i) hN hvis hd hcd) hk.pe he.pe mm) fun σ H H₀ σD QD ok q=>by
  have key:∀{a:Addr} {vs:List (Key×V)} {ks:List (Key×D)},H a=some (.dK vs)->RepKV X.K H ks vs->∀(k:Key) (v3:V) (H3:Hp) (d3:D),Same H H3->Rep X.K H3 d3 v3->QD ((getK ks k).getD d3) ->
    ∃ o,DGet H3 a (kV k) o/\∃ d,Same H H3/\Rep X.K H3 d (o.getD v3)/\QD d:=fun{a vs ks} e2 r k v3 H3 d3 s3 r3 q3=>by
   refine⟨_,DGet.k (k:=k) (s3 _ _ e2),?_⟩
   cases hg:getK ks k with
   | none =>
    rw [hg] at q3
    rw [r.getN hg]
    exact⟨d3,s3,r3,q3⟩
   | some d =>
    rw [hg] at q3
    obtain⟨v,hv,rv⟩:=(r.same s3).get hg
    rw [hv]
    exact⟨d,s3,rv,q3⟩
  unfold dGet2 at q
  split at q
  ·next ks eo =>
   obtain⟨a,vs,e1,e2,r,n⟩:=ok.ownD eo
   refine⟨.ref a,e1,a,rfl,.inl ⟨_,.inl e2⟩,H₀,σD,_,ok,q,fun v2 H2 d2 s2 r2 q2=>⟨H₀,σD,_,ok.after s2,q2,fun v3 H3 d3 s3 r3 q3=>?_⟩⟩
   cases d2 with
   | int n=>cases r2;exact key e2 r (Sum.inl n) v3 H3 d3 (s2.trans s3) r3 q3
   | str n=>cases r2;exact key e2 r (Sum.inr n) v3 H3 d3 (s2.trans s3) r3 q3
   | _=>exact q3.elim
  ·next ks eo =>
   obtain⟨v,e1,a,vs,rfl,e2,r⟩:=ok.vd eo
   refine⟨.ref a,e1,a,rfl,.inl ⟨_,.inl e2⟩,H₀,σD,_,ok,q,fun v2 H2 d2 s2 r2 q2=>⟨H₀,σD,_,ok.after s2,q2,fun v3 H3 d3 s3 r3 q3=>?_⟩⟩
   cases d2 with
   | int n=>cases r2;exact key e2 r (Sum.inl n) v3 H3 d3 (s2.trans s3) r3 q3
   | str n=>cases r2;exact key e2 r (Sum.inr n) v3 H3 d3 (s2.trans s3) r3 q3
   | _=>exact q3.elim
  ·exact q.elim
end
section
variable {X:Cx}{tk te:DTE}{pos:Pos}
end
theorem is_kV{P:Program}{w:World}{k:Key}{u:Value}(h:(mixKind P w).is k u=true):RelV (kV k) u:=by
 rw [mixKind_is] at h
 cases k with
 | inl i=>obtain⟨t,e⟩:=Value.isInt_shape (show Value.isInt i u=true from h);exact⟨t,e⟩
 | inr x =>
  have h':Value.isStrOf x u=true:=h
  cases u with
  | str y t=>exact⟨t,by simp [Value.isStrOf] at h';rw [h']⟩
  | _=>simp [Value.isStrOf] at h'
theorem KV.at{κ:Type}:∀{vs:List (κ×V)} {ws:List (κ×Value)} {i:Nat} {k:κ} {v:V},KV vs ws->vs[i]?=some (k,v)->∃ u,ws[i]?=some (k,u)
 | [],_,_,_,_,_,e=>by simp at e
 | p::vs,ws,i,k,v,h,e=>by
  cases h with
  | cons r t =>
   cases i with
   | zero =>
    simp at e
    subst e
    rename_i b l
    obtain⟨k',u⟩:=b
    have z:k=k':=r.1
    subst z
    exact⟨u,rfl⟩
   | succ i =>
    obtain⟨u,hu⟩:=KV.at t (show vs[i]?=some (k,v) by simpa using e)
    exact⟨u,by simpa using hu⟩
section
variable {X:Cx}{pins:List (Addr×Obj)}{σ:St}{H:Hp}{s:Shared}{a:Addr}{o:Obj}
end
section
variable {X:Cx}{tg:Expr}
theorem RepK.at{K:PySem.W.Frag}{H:Hp}:∀{kvs:List (D×D)} {vs:List (Key×V)} {i:Nat} {d:D},RepK K H kvs vs->(kvs.map (·.1))[i]?=some d->∃ k v,vs[i]?=some (k,v)/\d=kD k
 | _,_,i,d,.nil,e=>by simp at e
 | _,_,i,d,.cons (k:=k) (v:=v) r t,e=>by
  cases i with
  | zero=>simp at e;exact⟨k,v,rfl,e.symm⟩
  | succ i =>
   obtain⟨k',v',h1,h2⟩:=RepK.at t (i:=i) (by simpa using e)
   exact⟨k',v',by simpa using h1,h2⟩
theorem RepK.len{K:PySem.W.Frag}{H:Hp}:∀{kvs:List (D×D)} {vs:List (Key×V)},RepK K H kvs vs->kvs.length=vs.length
 | _,_,.nil=>rfl
 | _,_,.cons r t=>by rw [List.length_cons,List.length_cons,RepK.len t]
theorem rep_key{K:PySem.W.Frag}{H:Hp}(k:Key):Rep K H (kD k) (kV k):=by
 cases k with
 | inl i=>exact .int
 | inr x=>exact .str
end
section
variable {K:PySem.W.Frag}{H₀ H:Hp}{σD:DSt}{σ:St}
def dP(ks:List (Key×D)):List (D×D):=ks.map fun p=>(kD p.1,p.2)
theorem kD_inj{a b:Key}(h:kD a=kD b):a=b:=by
 cases a <;> cases b <;> simp [kD] at h <;> rw [h]
theorem RepK.kv:∀{ks:List (Key×D)} {vs:List (Key×V)},RepK K H (dP ks) vs->RepKV K H ks vs
 | [],vs,h=>by cases h;exact RepKV.nil'
 | (k,d)::ks,vs,h=>by
  generalize hg:dP ((k,d)::ks)=l at h
  cases h with
  | nil=>cases hg
  | cons r t =>
   simp only [dP,List.map_cons,List.cons.injEq,Prod.mk.injEq] at hg
   obtain⟨⟨h1,rfl⟩,rfl⟩:=hg
   cases kD_inj h1
   exact RepKV.cons r (RepK.kv t)
end
section
variable {X:Cx}
end
section
variable {X:Cx}{o:Expr}{td:TE}{p pos apos cpos:Pos}
end
section
variable {prog:Program}{w:World}{A:Around}{E:Value->Shared->Prop}
variable {κ:Type}[DecidableEq κ]{knd:KeyKind prog w κ}
end
section
variable {X:Cx}{e:Expr}{p pos:Pos}
end
section
variable {X:Cx}
end
section
variable {X:Cx}{a:Expr}{te:DTE}{p pos:Pos}
end
structure InsC(K:PySem.W.Frag)(mg:Str->Option Value)(c:Str)(C:Addr)(fs:List Str):Prop where
 m:mg c=some (.ref C)
 n:PySem.W.nsIn K mainGlobals c=some (some (.ref C))
 c:Cls K C
 f:∀ f∈fs,NoAttr K C f
section
variable {X:Cx}{e e2:Expr}{es:List Expr}{te:DTE}{t:DTP}{pos:Pos}{c f m x:Str}{C g:Addr}{i j k k':Nat}{ps fs:List Str}{sp:DSpG}{tg:DTPG}
end
section
variable {X:Cx}
end
section
variable {X:Cx}{tg:Expr}{a b c:Expr}{p p2 pos pos2:Pos}{t:DTF}
section
variable {prog:Program}{w:World}{A:Around}{E:Value->Shared->Prop}{s:Shared}
end
end
section
open PySem.Builtin PySem.Builtin.Str
end
section
variable {X:Cx}{e:Expr}{es:List Expr}{pos:Pos}
structure DEk(X:Cx)(e:Expr)(t:DTE):Prop where
 run:∀(pins:List (Addr×Obj)) (s:Shared) (σ:St) (H H₀:Hp) (σD:DSt) (Q:D->Prop),1<=s.toks->Inv X pins σ H s->DOk X.K H₀ H σD σ->t σD Q->wpAny (model X.prog X.w) X.A (eval e X.env) (DEnd X pins σ H Q) X.xe s
structure DVk(X:Cx)(e:Expr)(t:DTE):Prop where
 run:∀(pins:List (Addr×Obj)) (s:Shared) (σ:St) (H H₀:Hp) (σD:DSt) (Q:D->Prop),1<=s.toks->Inv X pins σ H s->DOk X.K H₀ H σD σ->t σD Q->wpAny (model X.prog X.w) X.A (eval e X.env) (DEndT X pins σ H Q) X.xe s
structure DFk(X:Cx)(e:Expr)(t:DTF):Prop where
 run:∀(pins:List (Addr×Obj)) (s:Shared) (σ:St) (H H₀:Hp) (σD:DSt) (Q:List D->Prop),1<=s.toks->Inv X pins σ H s->DOk X.K H₀ H σD σ->t σD Q->wpAny (model X.prog X.w) X.A (eval e X.env) (DEndF X pins σ H Q) X.xe s
structure DAk(X:Cx)(es:List Expr)(t:DTF):Prop where
 run:∀(pos:Pos) (pins:List (Addr×Obj)) (s:Shared) (σ:St) (H H₀:Hp) (σD:DSt) (Q:List D->Prop),1<=s.toks->Inv X pins σ H s->DOk X.K H₀ H σD σ->t σD Q ->
  wpAny (model X.prog X.w) X.A (spliced (backTo pos (starEach es X.env))) (fun us s'=>∃ vs H' ds,Inv X pins σ H' s'/\Vals vs us/\Same H H'/\Reps X.K H' ds vs/\Q ds) X.xe s
structure DSk(X:Cx)(st:Stmt)(t:DTS):Prop where
 run:∀(pins:List (Addr×Obj)) (s:Shared) (σ:St) (H H₀:Hp) (σD:DSt) (Dn:DEnds),1<=s.toks->Inv X pins σ H s->DOk X.K H₀ H σD σ->t Dn σD->wpAny (model X.prog X.w) X.A (exec st X.env) (DSP X pins H₀ H Dn) X.xe s
structure DSsk(X:Cx)(st:List Stmt)(t:DTS):Prop where
 run:∀(pins:List (Addr×Obj)) (s:Shared) (σ:St) (H H₀:Hp) (σD:DSt) (Dn:DEnds),1<=s.toks->Inv X pins σ H s->DOk X.K H₀ H σD σ->t Dn σD->wpAny (model X.prog X.w) X.A (execs st X.env) (DSP X pins H₀ H Dn) X.xe s
theorem DS.k{st:Stmt}{t:DTS}(h:DS X st t):DSk X st t:=⟨fun pins s σ H H₀ σD Dn _ I ok q=>h.run pins s σ H H₀ σD Dn I ok q⟩
theorem DSs.k{st:List Stmt}{t:DTS}(h:DSs X st t):DSsk X st t:=⟨fun pins s σ H H₀ σD Dn _ I ok q=>h.run pins s σ H H₀ σD Dn I ok q⟩
end
section
variable {X:Cx}{pins:List (Addr×Obj)}{σ:St}{H:Hp}{s:Shared}{P c:Addr}{q:Str}
end
section
variable {X:Cx}{pins:List (Addr×Obj)}{σ:St}{H:Hp}{a it S f:Addr}{xs:List V}{kf:Nat->Int}{kwd:List (Str×Value)}{R:Value->Shared->Prop}
structure MnHd(X:Cx)(pins:List (Addr×Obj))(σ:St)(H:Hp)(a it S:Addr)(xs:List V)(kf:Nat->Int)(j i:Nat)(H1:Hp)(s:Shared):Prop where
 I:Inv X pins σ H1 s
 sm:Same H H1
 st:s.heap.IsListIter it a j
 f1:FpOk X pins H1 it
 f2:FpOk X pins H1 S
 ne:it≠S
 best:∃ vb tb c x,s.heap.get? S=some (seqObj "list" #[vb,.int (kf i) tb] c)/\xs[i]?=some x/\RelV x vb
 lt:i<j
 mx:∀ j',j' < j->kf i<=kf j'/\(j' < i->kf i<kf j')
end
section
variable {X:Cx}{pins:List (Addr×Obj)}{σ:St}{H:Hp}{a f:Addr}{xs:List V}{kf:Nat->Int}{R:Value->Shared->Prop}{s:Shared}
end
structure LamScope(y n:Str)(sc:Scope):Prop where
 kind:sc.kind=.function
 co:sc.isCoroutine=false
 gen:sc.isGenerator=false
 ne:y≠n
 loc:sc.names.lookup y=some .local
 fre:sc.names.lookup n=some .free
 only:∀ x∈sc.names,x.2 ≠ .cell/\(x.2=.free->x.1=n)
section
variable {X:Cx}{a body:Expr}{ta:DTF}{tb:DTE}{p pos kp kp2 lp cp:Pos}{k:Nat}{P c:Addr}{q y n:Str}{params:Arguments}{scope:Scope}
end
end L2
namespace SQ
open PySem PyProof.Rows
set_option autoImplicit false
abbrev ipK(p:Int×Str):List Int:=p.1::p.2.cps.toList.map fun n:Nat=>(n:Int)
def RefP(h:Heap)(v:Value)(p:Int×Str):Prop:=∃ a t u,v=.ref a/\IsTup h a #[.int p.1 t,.str p.2 u]
theorem RefP.uniq{h:Heap}{v:Value}{p q:Int×Str}(x:RefP h v p)(y:RefP h v q):p=q:=by
 obtain⟨a,t,u,rfl,⟨o,e,_,n,d⟩⟩:=x
 obtain⟨a',t',u',e',⟨o',e2,_,n',d'⟩⟩:=y
 cases e'
 rw [e] at e2
 cases e2
 rw [d] at d'
 obtain⟨i,x⟩:=p
 obtain⟨j,y⟩:=q
 cases d'
 rfl
theorem RefP.keep{h h':Heap}{v:Value}{p:Int×Str}(k:∀ b o,h.get? b=some o->h'.get? b=some o)(x:RefP h v p):RefP h' v p:=by
 obtain⟨a,t,u,e,i⟩:=x
 exact⟨a,t,u,e,i.keeps k⟩
noncomputable def refKeyP (h:Heap) (v:Value):Option (List Int):=@dite _ (∃ p,RefP h v p) (Classical.propDecidable _) (fun x=>some (ipK x.choose)) (fun _=>none)
theorem refKeyP_some{h:Heap}{v:Value}{is:List Int}(e:refKeyP h v=some is):∃ p,RefP h v p/\is=ipK p:=by
 unfold refKeyP at e
 split at e
 ·next x=>cases e;exact⟨_,x.choose_spec,rfl⟩
 ·cases e
theorem refKeyP_of{h:Heap}{v:Value}{p:Int×Str}(x:RefP h v p):refKeyP h v=some (ipK p):=by
 unfold refKeyP
 rw [dif_pos ⟨p,x⟩]
 rw [(Exists.choose_spec (p:=fun p=>RefP h v p) ⟨p,x⟩).uniq x]
@[reducible] noncomputable def pairK (h:Heap):KeyKind where
 α:=List Int
 blt a b:=decide (a<b)
 irrefl a:=by simpa using List.lt_irrefl a
 trans a b c h1 h2:=by simp only [decide_eq_true_eq] at *;exact List.lt_trans h1 h2
 negTrans a b c h:=by
  simp only [decide_eq_true_eq] at *
  by_cases c:a<b
  ·exact .inl c
  ·exact .inr (List.lt_of_le_of_lt (List.not_lt.mp c) h)
 total a b h1 h2:=by simp only [decide_eq_false_iff_not] at *;exact List.le_antisymm (List.not_lt.mp h2) (List.not_lt.mp h1)
 keyOf v:=refKeyP h v
 dflt:=[]
theorem map_lt:∀ xs ys:List Nat,(xs.map (fun n:Nat=>(n:Int))<ys.map (fun n:Nat=>(n:Int)))↔xs<ys
 | [],[]=>by simp
 | [],y::ys=>by simp
 | x::xs,[]=>by simp
 | x::xs,y::ys=>by
  rw [List.map_cons,List.map_cons,List.cons_lt_cons_iff,List.cons_lt_cons_iff,map_lt xs ys]
  simp only [Int.ofNat_lt,Int.natCast_inj]
section
variable {prog:Program}{w:World}{A:Around}{E:Value->Shared->Prop}{s:Shared}
theorem oneLt_str{x y:Str}{t u:Tok}{Q:Bool->Shared->Prop}(h:Q (decide (x.cps.toList<y.cps.toList)) s):wpAny (model prog w) A (oneLt' false (.str x t) (.str y u)) Q E s:=by
 rw [oneLt'_eq]
 rw [if_neg (by decide)]
 exact wpAny_bind (richCompare_gives (op:=.Lt) (typeIs_str s x t) (typeIs_str s y u) F.slot_str_lt F.entry_str_lt (F.args_str_lt_2 _ _) (gives_str_lt x y t u) (fun e=>nomatch e) (wpAny_truthy_bool h))
theorem pairK_lt{h₀:Heap}{f:Bool}(k:∀ b o,h₀.get? b=some o->s.heap.get? b=some o):LtOk prog w A s (pairK h₀) (tuples' f):=fun E x y a b Q ha hb q=>by
 obtain⟨p,rp,rfl⟩:=refKeyP_some ha
 obtain⟨q',rq,rfl⟩:=refKeyP_some hb
 obtain⟨ra,t1,u1,rfl,⟨oa,ga,_,na,da⟩⟩:=rp.keep k
 obtain⟨rb,t2,u2,rfl,⟨ob,gb,_,nb,db⟩⟩:=rq.keep k
 obtain⟨i,x⟩:=p
 obtain⟨j,y⟩:=q'
 have q:Q (decide (ipK (i,x)<ipK (j,y))) s:=q
 refine wpAny_bind (listItems_at ga da (wpAny_bind (listItems_at gb db (wpAny_bind ?_))))
 show wpAny _ _ (forIn ([((Value.int i t1,Value.int j t2),0),((Value.str x u1,Value.str y u2),1)]:List ((Value×Value)×Nat)) _ _) _ _ _
 simp only [List.forIn_cons,List.forIn_nil]
 refine wpAny_bind (wpAny_bind (wpAny_eqBool_int ?_))
 by_cases c:i=j
 ·subst c
  rw [if_neg (by simp)]
  refine wpAny_pure (wpAny_bind (wpAny_bind (wpAny_eqBool_str ?_)))
  by_cases c2:x=y
  ·subst c2
   rw [if_neg (by simp)]
   refine wpAny_pure (wpAny_pure (wpAny_pure ?_))
   have e:decide (ipK (i,x)<ipK (i,x))=false:=decide_eq_false (List.lt_irrefl _)
   rw [e] at q
   exact q
  ·rw [if_pos (by simpa using c2)]
   have e1:(f && (1:Nat) == 0)=false:=by cases f <;> rfl
   rw [e1]
   refine wpAny_bind (oneLt_str (wpAny_pure (wpAny_pure (wpAny_pure ?_))))
   have e:decide (ipK (i,x)<ipK (i,y))=decide (x.cps.toList<y.cps.toList):=decide_eq_decide.mpr (by
    rw [List.cons_lt_cons_iff,map_lt]
    simp)
   rw [e] at q
   exact q
 ·rw [if_pos (by simpa using c)]
  refine wpAny_bind (oneLt_intF (wpAny_pure (wpAny_pure (wpAny_pure ?_))))
  have e:decide (ipK (i,x)<ipK (j,y))=decide (i<j):=decide_eq_decide.mpr (by
   rw [List.cons_lt_cons_iff]
   simp [c])
  rw [e] at q
  exact q
theorem first_pair{v:Value}{p:Int×Str}(h:RefP s.heap v p):∃ t,∀ Q:Option Value->Shared->Prop,Q (some (.int p.1 t)) s->wpAny (model prog w) A (firstOfTuple' v) Q E s:=by
 obtain⟨a,t,u,rfl,⟨o,g,c,n,d⟩⟩:=h
 refine⟨t,fun Q q=>wpAny_bind (wpAny_typeOf (T := "tuple") ⟨o,g,c⟩ ?_)⟩
 rw [if_neg (by decide)]
 exact wpAny_bind (listItems_at g d (wpAny_pure q))
theorem first_allP:∀{vs:List Value} {ps:List (Int×Str)},All2 (RefP s.heap) vs ps->∃(fs:List Value) (ns:List Int),IntsAre fs ns/\fs.length=vs.length/\∀ Q:List (Option Value)->Shared->Prop,Q (fs.map some) s->wpAny (model prog w) A (vs.mapM firstOfTuple') Q E s
 | _,_,.nil=>⟨[],[],.nil,rfl,fun Q q=>by rw [List.mapM_nil];exact wpAny_pure q⟩
 | _,_,.cons (b:=p) h r=>by
  obtain⟨fs,ns,i1,l1,w1⟩:=first_allP r
  obtain⟨t,w2⟩:=first_pair (prog:=prog) (w:=w) (A:=A) (E:=E) h
  refine⟨.int p.1 t::fs,p.1::ns,.cons p.1 t i1,by simp [l1],fun Q q=>?_⟩
  rw [List.mapM_cons]
  exact wpAny_bind (w2 _ (wpAny_bind (w1 _ (wpAny_pure q))))
theorem kind_pairs{vs:List Value}{ps:List (Int×Str)}{Q:SortKind->Shared->Prop}(h:All2 (RefP s.heap) vs ps)(h2:2<=vs.length)(q:Q (tuples' true) s):wpAny (model prog w) A (keyKind' vs.toArray) Q E s:=by
 obtain⟨fs,ns,i1,l1,w1⟩:=first_allP (prog:=prog) (w:=w) (A:=A) (E:=E) h
 rw [keyKind'_eq,List.mapM_toArray]
 simp only [map_eq_pure_bind,bind_assoc,pure_bind]
 refine wpAny_bind (w1 _ ?_)
 rw [if_pos (by simp)]
 refine wpAny_bind (m:=rule _) (wpAny_rule ?_)
 have ef:Array.filterMap id (List.map some fs).toArray=fs.toArray:=by simp
 rw [ef,oneTypeOnly'_eq,List.mapM_toArray,mapM_typeOf_ints i1]
 simp only [map_pure,pure_bind]
 cases fs with
 | nil=>simp at l1;omega
 | cons f fs =>
  have hall:((List.map (fun _=>Value.type "int") (f::fs)).toArray.all fun x=>x == Value.type "int")=true:=by
   simp only [List.all_toArray,List.all_map,List.all_eq_true]
   intro _ _
   rfl
  have g0:(List.map (fun _=>Value.type "int") (f::fs)).toArray[0]?=some (Value.type "int"):=by simp
  rw [g0]
  simp only [hall,if_true,pure_bind]
  exact wpAny_pure q
end
end SQ
namespace L2
open PySem PySem.Spec PyProof.Rows SQ
def ipD(p:Int×Str):D:=.tuple [.int p.1,.str p.2]
def deP:D->Int×Str
 | .tuple [.int i,.str x]=>(i,x)
 | _=>(0,Str.empty)
theorem deP_ip(p:Int×Str):deP (ipD p)=p:=rfl
section
variable {X:Cx}
theorem refsP_of{pins:List (Addr×Obj)}{σ:St}{H:Hp}{s:Shared}(I:Inv X pins σ H s):∀{ps:List (Int×Str)} {vs:List V} {us:List Value},Reps X.K H (ps.map ipD) vs->Vals vs us->All2 (RefP s.heap) us ps
 | [],_,_,.nil,.nil=>.nil
 | p::ps,_,_,.cons r rs,.cons q qs=>by
  refine .cons ?_ (refsP_of I rs qs)
  cases r with
  | tup h r =>
   cases q
   cases r with
   | cons r1 t=>cases t with
    | cons r2 t =>
     cases t
     cases r1
     cases r2
     obtain⟨its,rv,ht,_⟩:=I.tuple h
     cases rv with
     | cons a t=>cases t with
      | cons b t =>
       cases t
       obtain⟨t1,rfl⟩:=a
       obtain⟨t2,rfl⟩:=b
       exact⟨_,t1,t2,rfl,ht⟩
def gSortP:List D->(List D->Prop)->Prop
 | [.tuple xs],Q=>xs.length<64/\∃ ps:List (Int×Str),xs=ps.map ipD/\∀ qs:List (Int×Str),qs.Perm ps->qs.Pairwise (fun a b=>¬ ipK b<ipK a)->Q (qs.map ipD)
 | _,_=>False
theorem c_sortP:CallF X (.builtin "sorted") gSortP:=⟨fun pins s σ H vs us ds Q I rv rd q=>by
 match ds,q,rd with
 | [.tuple xs],q,rd =>
  obtain⟨v,rfl,r⟩:=rd.one
  obtain⟨a,vs,rfl,h,r⟩:=r.tuple
  obtain⟨u,rfl,r1⟩:=rv.one
  cases r1
  obtain⟨us,rv,⟨o,ho,hc,n,hd⟩,hz⟩:=I.tuple h
  obtain⟨h64,ps,rfl,q⟩:=q
  have h64:us.length<64:=by rw [<-rv.length,<-r.length];exact h64
  have zu:us.length<=sizeLine:=by rw [<-rv.length];exact hz
  have rf:=refsP_of I r rv
  have hk:∀ v∈us,∃ k,(pairK s.heap).keyOf v=some k:=fun v hv=>by
   obtain⟨t,_,h⟩:=rf.mem hv
   exact⟨_,refKeyP_of h⟩
  refine q_sortedS (κ:=pairK s.heap) (kd:=tuples' true) (.inr rfl) ho hc hd zu h64 (fun A' h' _ k=>pairK_lt k) (keysOf_pairs hk) (fun h2 A' E' h' Q' k q=>kind_pairs (rf.imp fun _ _ h=>h.keep k) h2 q) fun out h' p e p1 p2 hp g k=>?_
  obtain⟨pm,ks,a2,pw⟩:=out_facts p1 p2 hk
  obtain⟨vs',ds',rv',r',pd⟩:=perm_vals pm rv r
  obtain⟨ss,rfl,pms⟩:=perm_map deP deP_ip pd
  have rf':=refsP_of I r' rv'
  have ek:ks=ss.map ipK:=by
   clear pm pms pw r' rv' pd
   generalize (out.map (·.2)).toList=l at rf' a2
   induction a2 generalizing ss with
   | nil=>cases rf';rfl
   | cons h t ih =>
    cases rf' with
    | cons h1 t1 =>
     have:=refKeyP_of h1
     rw [show(pairK s.heap).keyOf _=refKeyP s.heap _ from rfl,this] at h
     cases h
     rw [ih _ t1]
     rfl
  subst ek
  have pw2:ss.Pairwise (fun a b=>¬ ipK b<ipK a):=by
   have:=List.pairwise_map.mp pw
   exact this.imp fun h=>by simpa [pairK,KeyOrd.kle] using h
  have hn:=I.hok.fresh hp
  have lv:vs'.length<=sizeLine:=by rw [rv'.length,pm.length_eq];exact zu
  exact⟨p,_,vs',_,rfl,I.laid (t':=s.toks) (o:=.lst vs') k hp ⟨lv,(out.map (·.2)).toList,e,rv',g⟩,same_new hn _,hn,upd_same,r'.same (same_new hn _),q ss pms pw2⟩⟩
end
end L2
namespace L2
open PySem PySem.Spec PyProof.Rows
theorem vals_keys{P:Program}{w:World}:∀{ws:List (Key×Value)} {acc:List Value},acc.length=ws.length->(∀(j:Nat) v,acc[j]?=some v->∃ k x,ws[j]?=some (k,x)/\(mixKind P w).is k v=true)->Vals (ws.map fun p=>kV p.1) acc
 | [],[],_,_=>.nil
 | [],_::_,h,_=>by cases h
 | _::_,[],h,_=>by cases h
 | p::ws,v::acc,h,hk=>by
  obtain⟨k,x,e,i⟩:=hk 0 v rfl
  cases e
  exact .cons (is_kV i) (vals_keys (by simpa using h) fun j v e=>hk (j+1) v e)
theorem KV.fsts{vs:List (Key×V)}{ws:List (Key×Value)}(h:KV vs ws):vs.map (fun p=>kV p.1)=ws.map fun p=>kV p.1:=by
 induction h with
 | nil=>rfl
 | cons r _ ih=>rw [List.map_cons,List.map_cons,ih,r.1]
theorem reps_keys{K:PySem.W.Frag}{H:Hp}:∀ ks:List Key,Reps K H (ks.map kD) (ks.map kV)
 | []=>.nil
 | k::ks=>.cons (rep_key k) (reps_keys ks)
section
variable {X:Cx}{o:Expr}{td:TE}{p pos:Pos}
def tLK(td:TE):TE:=fun σ H Q=>td σ H fun x H1=>∃ a vs,x=.ref a/\Rd H1 a (.dK vs)/\∀ d,H1 d=none->Q (.ref d) (upd H1 d (.lst (vs.map fun p=>kV p.1)))
theorem pe_listK(hgl:Gl X "list")(hml:X.mg "list" = none)(hc:X.calm=true)(ho:PE X o td)(hs2:starEach [o] X.env = [(false,eval o X.env)]:=by rfl):PE X (.Call (.Name "list" p) [o] [] pos) (tLK td):=by
 intro pins s σ H Q I h
 refine Call_ (ld_blt I hgl hml PyProof.Rows.boot_list (PyProof.Rows.callWith_type1 ?_ hs2 rfl))
 rw [hs2]
 show wpAny _ _ (spliced ((false,eval o X.env)::backTo pos [])) _ _ s
 refine Calls.spliced_cons (thn (ho pins s σ H _ I h) fun u s1 ⟨x,H1,I1,rx,a,vs,ex,e,q1⟩=>?_)
 subst ex
 obtain rfl:u=Value.ref a:=rx
 obtain⟨z,hd,ws,rel,dd⟩:=dk_rd I1.hok e
 refine Calls.spliced_nil ?_
 obtain⟨ep,da⟩:=dd.dictAt
 have hl:=rel.length
 refine PySem.W.kdl_call (PySem.W.kdl_dict (knd:=mixKind X.prog X.w) (d:=a) (kvs:=ws) (ep:=ep) hd) (I.ok.hd hc) da (by rw [<-hl];exact z) fun h' tk acc' c' hk hS hacc=>?_
 have hf:H1 s1.heap.objs.size=none:=I1.hok.fresh (Nat.le_refl _)
 refine⟨.ref _,upd H1 _ (.lst (vs.map fun p=>kV p.1)),I1.laid (t':=tk) (fun b u e=>hk _ _ e) (Nat.le_refl _) ?_,rfl,q1 _ hf⟩
 refine⟨by rw [List.length_map];exact z,acc'.toList,c',?_,by simpa using hS⟩
 rw [rel.fsts]
 exact vals_keys (P:=X.prog) (w:=X.w) (by rw [Array.length_toList];exact hacc.1) fun j v ej=>hacc.2 j v (by rw [<-Array.getElem?_toList];exact ej)
def dLKeys(i:Nat):DTF:=fun σ Q=>match σ[i]? with
 | some (some (.own (.dct ks)))=>Q (ks.map fun p=>kD p.1)
 | _=>False
theorem df_listK(i:Nat){x:Str}{p1:Pos}(hgl:Gl X "list")(hml:X.mg "list" = none)(hc:X.calm=true)(hN:X.N[i]?=some x:=by rfl)(hvis:Vis X.env.scope x:=by first | exact Or.inl rfl | exact Or.inr (Or.inl rfl) | exact Or.inr (Or.inr rfl))(hd:(x == ("__debug__" : Str))=false:=by decide)(hcd:(x == ("__classdict__" : Str))=false:=by decide)
  (hs2:starEach [.Name x p1] X.env = [(false,eval (.Name x p1) X.env)]:=by rfl) :
  DF X (.Call (.Name "list" p) [.Name x p1] [] pos) (dLKeys i) :=
 DF.of (pe_listK hgl hml hc (pe_var (i:=i) hN hvis hd hcd) hs2) fun σ H H₀ σD QD ok q=>by
  unfold dLKeys at q
  split at q
  ·next ks eo =>
   obtain⟨a,vs,e1,e2,r,n⟩:=ok.ownD eo
   refine⟨.ref a,e1,a,vs,rfl,.inl e2,fun d hd=>⟨d,_,_,rfl,same_new hd _,hd,upd_same,?_,q⟩⟩
   have e:vs.map (fun p=>kV p.1)=(vs.map (·.1)).map kV:=by rw [List.map_map];rfl
   have e2:ks.map (fun p=>kD p.1)=(ks.map (·.1)).map kD:=by rw [List.map_map];rfl
   rw [e,e2,r.1]
   exact reps_keys _
  ·exact q.elim
end
section
variable {X:Cx}
def rRepS2(K:PySem.W.Frag):R2:=fun x y H Q=>∃ l k xs,x=.ref l/\y=.int k/\SqT K H l xs/\-100<=k/\k<=100/\xs.length<=100/\∀ p H',Same H H'->SqT K H' p (List.replicate k.toNat xs).flatten->Q (.ref p) H'
theorem op_repS2:OpR X (binaryOp .Mult) (rRepS2 X.K):=by
 intro pins s σ H x y v u Q I rx ry h
 obtain⟨l,k,xs,rfl,rfl,hH,k1,k2,hx,q⟩:=h
 cases rx
 obtain⟨t,rfl⟩:=ry
 obtain⟨its,r,p,hz⟩:=I.tuple hH
 have hl:=r.length
 obtain⟨⟨cls,dd,data,sl⟩,ho,hc,n,hd⟩:=id p
 simp only at hc hd
 subst hc hd
 have h0:¬ ((decide (k < -(2 ^ 63)) || decide (k ≥ 2 ^ 63))=true):=by
  rw [decide_eq_false (by omega),decide_eq_false (by omega)]
  exact Bool.false_ne_true
 refine wpAny_binaryOp_repeat_ref (T := "tuple") (U := "int") (by decide) ⟨_,ho,rfl⟩ (fun s'=>typeIs_int s' k t) noFill_tuple_times F.fills_int_mul F.slot_int_rmul repeat_tup F.slot_int_index.lookup
  (call_meets F.slot_int_rmul (typeIs_int s k t) F.entry_int_rmul (F.args_int_rmul_2 _ _) (rmul_int_tup k t l its.toArray n dd sl) ⟨ho,rfl,⟨_,ho,rfl⟩,?_⟩)
 by_cases h1:(its.toArray.isEmpty || k == 1)=true
 ·refine call_meets PySem.F.slot_tuple_mul ⟨_,ho,rfl⟩ PySem.F.entry_tuple_mul (PySem.F.args_tuple_mul_2 _ _) (tup_mul_same l its.toArray n k t dd sl h0 h1) ⟨ho,⟨.ref l,H,I,rfl,q l H (Same.refl H) ?_⟩⟩
  rcases Bool.or_eq_true .. |>.mp h1 with z | z
  ·have:its = []:=by simpa using z
   have hx0:xs = []:=r.nil_iff.mp this
   rw [hx0] at hH ⊢
   simpa using hH
  ·have:k=1:=by simpa using z
   rw [this]
   simpa using hH
 ·by_cases h2:(decide (k<=0) || its.toArray.isEmpty)=true
  ·refine call_meets PySem.F.slot_tuple_mul ⟨_,ho,rfl⟩ PySem.F.entry_tuple_mul (PySem.F.args_tuple_mul_2 _ _) (tup_mul_none l its.toArray n k t dd sl h0 h1 h2) ⟨ho,?_⟩
   have hk:k<=0:=by
    rcases Bool.or_eq_true .. |>.mp h2 with z | z
    ·exact of_decide_eq_true z
    ·exact absurd (by rw [z];rfl) h1
   refine⟨.ref s.heap.objs.size,_,I.laid (t':=s.toks) (o:=.tup []) (fun b ob q=>Heap.get?_push_of_some _ q) (Nat.le_refl _) ⟨Nat.zero_le _,[],.nil,TupD.new _ _⟩,rfl,q _ _ (same_new (I.hok.fresh (Nat.le_refl _)) _) ?_⟩
   rw [show k.toNat=0 by omega]
   exact SqT.of upd_same
  ·have hk:0<k:=by
    refine Classical.byContradiction fun z=>h2 ?_
    rw [decide_eq_true (show k<=0 by omega)]
    rfl
   have hf:List.foldl (fun x1 x2=>x1++x2) #[] (List.replicate k.toNat its.toArray)=(List.replicate k.toNat its).flatten.toArray:=by
    have:=foldl_rep its k.toNat []
    rw [List.nil_append] at this
    exact this
   have hlen:(List.replicate k.toNat its).flatten.length<=10000:=by
    rw [len_rep,<-hl]
    exact Nat.le_trans (Nat.mul_le_mul (show k.toNat<=100 by omega) hx) (by decide)
   have hm:(its.toArray.size:Int) * k<=10000:=by
    have h1:(its.toArray.size:Int)<=100:=by rw [List.size_toArray,<-hl];omega
    have:=Int.mul_le_mul h1 k2 (by omega) (by omega)
    omega
   refine call_meets PySem.F.slot_tuple_mul ⟨_,ho,rfl⟩ PySem.F.entry_tuple_mul (PySem.F.args_tuple_mul_2 _ _) (tup_mul_new l its.toArray n k t dd sl h0 h1 h2 (by omega) (by
    unfold Builtin.Tuple.tupleTooMany
    rw [decide_eq_true_eq,sizeLine_eq]
    omega) (by rw [hf,List.size_toArray];exact small' hlen)) ⟨ho,?_⟩
   rw [hf]
   have hlen2:(List.replicate k.toNat xs).flatten.length<=10000:=by
    rw [len_rep]
    exact Nat.le_trans (Nat.mul_le_mul (show k.toNat<=100 by omega) hx) (by decide)
   exact⟨.ref s.heap.objs.size,_,I.laid (t':=s.toks) (o:=.tup (List.replicate k.toNat xs).flatten) (fun b ob q=>Heap.get?_push_of_some _ q) (Nat.le_refl _) ⟨small' hlen2,_,r.rep k.toNat,TupD.new _ _⟩,rfl,q _ _ (same_new (I.hok.fresh (Nat.le_refl _)) _) (SqT.of upd_same)⟩
def gMulT2:DOp
 | .tuple xs,.int k,Q=>-100<=k/\k<=100/\xs.length<=100/\Q (.tuple (List.replicate k.toNat xs).flatten)
 | _,_,_=>False
theorem o_mulT2:OpD X (binaryOp .Mult) gMulT2:=OpD.of op_repS2 fun x y H a b Q ra rb q=>by
 cases a with
 | tuple xs =>
  cases b with
  | int k =>
   obtain⟨l,vs,rfl,hl,r1⟩:=ra.tuple
   cases rb.rep (fun _=>by simp)
   exact⟨l,k,vs,rfl,rfl,hl,q.1,q.2.1,by rw [<-r1.length];exact q.2.2.1,fun p H' sm e=>⟨_,sm,.tup e ((r1.rep k.toNat).same sm),q.2.2.2⟩⟩
  | _=>exact q.elim
 | _=>exact q.elim
end
end L2
namespace My
open PySem L2 PyProof.Rows
def top(i:Nat):Stmt:=PySem.Challenge.pw_knockpurse_k16_looks_at_a_house.main.body.getD i (.Pass ⟨0,0,0,0⟩)
abbrev s_is_whole:Stmt:=top 11
theorem sc_is_whole:FnScope ["thing"] ["thing"] (defScope s_is_whole):=⟨rfl,rfl,rfl,by decide +kernel,rfl,by decide +kernel,by decide +kernel⟩
abbrev s_whole_in:Stmt:=top 12
theorem sc_whole_in:FnScope ["thing", "least", "most"] ["thing", "least", "most"] (defScope s_whole_in):=⟨rfl,rfl,rfl,by decide +kernel,rfl,by decide +kernel,by decide +kernel⟩
abbrev s_stretch_good:Stmt:=top 18
theorem sc_stretch_good:FnScope ["thing"] ["thing"] (defScope s_stretch_good):=⟨rfl,rfl,rfl,by decide +kernel,rfl,by decide +kernel,by decide +kernel⟩
abbrev s_story_good:Stmt:=top 19
theorem sc_story_good:FnScope ["thing", "ahead", "stretch"] ["thing"] (defScope s_story_good):=⟨rfl,rfl,rfl,by decide +kernel,rfl,by decide +kernel,by decide +kernel⟩
abbrev s_silent_at:Stmt:=top 20
theorem sc_silent_at:FnScope ["story", "beat"] ["story", "beat"] (defScope s_silent_at):=⟨rfl,rfl,rfl,by decide +kernel,rfl,by decide +kernel,by decide +kernel⟩
abbrev s_look_good:Stmt:=top 21
theorem sc_look_good:FnScope ["thing"] ["thing"] (defScope s_look_good):=⟨rfl,rfl,rfl,by decide +kernel,rfl,by decide +kernel,by decide +kernel⟩
abbrev s_looks_good:Stmt:=top 22
theorem sc_looks_good:FnScope ["thing"] ["thing"] (defScope s_looks_good):=⟨rfl,rfl,rfl,by decide +kernel,rfl,by decide +kernel,by decide +kernel⟩
abbrev s_holds:Stmt:=top 23
theorem sc_holds:FnScope ["story", "thing"] ["story", "thing"] (defScope s_holds):=⟨rfl,rfl,rfl,by decide +kernel,rfl,by decide +kernel,by decide +kernel⟩
abbrev s_story_for:Stmt:=top 24
theorem sc_story_for:FnScope ["looks", "stretches", "parted", "beat", "word", "story"] ["looks"] (defScope s_story_for):=⟨rfl,rfl,rfl,by decide +kernel,rfl,by decide +kernel,by decide +kernel⟩
abbrev s__law_cell_at:Stmt:=top 26
theorem sc__law_cell_at:FnScope ["_law_script", "_law_k"] ["_law_script", "_law_k"] (defScope s__law_cell_at):=⟨rfl,rfl,rfl,by decide +kernel,rfl,by decide +kernel,by decide +kernel⟩
abbrev s__law_next:Stmt:=top 27
theorem sc__law_next:FnScope ["_law_seed"] ["_law_seed"] (defScope s__law_next):=⟨rfl,rfl,rfl,by decide +kernel,rfl,by decide +kernel,by decide +kernel⟩
abbrev s__law_pen_of:Stmt:=top 28
theorem sc__law_pen_of:FnScope ["_law_cell", "_law_left"] ["_law_cell"] (defScope s__law_pen_of):=⟨rfl,rfl,rfl,by decide +kernel,rfl,by decide +kernel,by decide +kernel⟩
abbrev s__law_draw:Stmt:=top 29
theorem sc__law_draw:FnScope ["_law_pen", "_law_many", "_law_found"] ["_law_pen", "_law_many"] (defScope s__law_draw):=⟨rfl,rfl,rfl,by decide +kernel,rfl,by decide +kernel,by decide +kernel⟩
abbrev s__law_odd:Stmt:=top 30
theorem sc__law_odd:FnScope ["_law_pen", "_law_some"] ["_law_pen"] (defScope s__law_odd):=⟨rfl,rfl,rfl,by decide +kernel,rfl,by decide +kernel,by decide +kernel⟩
abbrev s__law_refusal:Stmt:=top 31
theorem sc__law_refusal:FnScope ["_law_e", "_law_marks", "_law_word"] ["_law_e"] (defScope s__law_refusal):=⟨rfl,rfl,rfl,by decide +kernel,rfl,by decide +kernel,by decide +kernel⟩
abbrev s__law_whole:Stmt:=top 32
theorem sc__law_whole:FnScope ["_law_found"] ["_law_found"] (defScope s__law_whole):=⟨rfl,rfl,rfl,by decide +kernel,rfl,by decide +kernel,by decide +kernel⟩
abbrev s__law_small:Stmt:=top 33
theorem sc__law_small:FnScope ["_law_pen", "_law_base", "_law_here", "_law_found", "_law_turn", "_law_begin"] ["_law_pen"] (defScope s__law_small):=⟨rfl,rfl,rfl,by decide +kernel,rfl,by decide +kernel,by decide +kernel⟩
abbrev s__law_is_silent:Stmt:=top 34
theorem sc__law_is_silent:FnScope ["_law_story", "_law_beat"] ["_law_story", "_law_beat"] (defScope s__law_is_silent):=⟨rfl,rfl,rfl,by decide +kernel,rfl,by decide +kernel,by decide +kernel⟩
abbrev s__law_looks:Stmt:=top 35
theorem sc__law_looks:FnScope ["_law_pen", "_law_base", "_law_story", "_law_found", "_law_turn", "_law_beat", "_law_at", "_law_other"] ["_law_pen", "_law_base", "_law_story"] (defScope s__law_looks):=⟨rfl,rfl,rfl,by decide +kernel,rfl,by decide +kernel,by decide +kernel⟩
abbrev s__law_bent:Stmt:=top 36
theorem sc__law_bent:FnScope ["_law_pen", "_law_looks_here", "_law_way", "_law_odd_here", "_law_at", "_law_beat", "_law_word", "_law_some"] ["_law_pen", "_law_looks_here"] (defScope s__law_bent):=⟨rfl,rfl,rfl,by decide +kernel,rfl,by decide +kernel,by decide +kernel⟩
abbrev s__law_good:Stmt:=top 37
theorem sc__law_good:FnScope ["_law_thing", "_law_one"] ["_law_thing"] (defScope s__law_good):=⟨rfl,rfl,rfl,by decide +kernel,rfl,by decide +kernel,by decide +kernel⟩
abbrev s__law_due:Stmt:=top 38
theorem sc__law_due:FnScope ["_law_looks_here", "_law_marks", "_law_beat", "_law_word", "_law_found", "_law_going"] ["_law_looks_here"] (defScope s__law_due):=⟨rfl,rfl,rfl,by decide +kernel,rfl,by decide +kernel,by decide +kernel⟩
abbrev s__law_told:Stmt:=top 39
theorem sc__law_told:FnScope ["_law_looks_here", "_law_e"] ["_law_looks_here"] (defScope s__law_told):=⟨rfl,rfl,rfl,by decide +kernel,rfl,by decide +kernel,by decide +kernel⟩
abbrev s__law_right:Stmt:=top 40
theorem sc__law_right:FnScope ["_law_story", "_law_looks_here", "_law_good_here", "_law_kept", "_law_beat", "_law_word", "_law_found", "_law_due_here"] ["_law_story", "_law_looks_here"] (defScope s__law_right):=⟨rfl,rfl,rfl,by decide +kernel,rfl,by decide +kernel,by decide +kernel⟩
abbrev s_law:Stmt:=top 41
theorem sc_law:FnScope ["_law_script", "_law_cell", "_law_pen", "_law_base", "_law_story", "_law_looks_here", "_law_bent_here", "_law_thing"] ["_law_script"] (defScope s_law):=⟨rfl,rfl,rfl,by decide +kernel,rfl,by decide +kernel,by decide +kernel⟩
structure Blt(mg:Str->Option Value):Prop where
 len:mg "len" = none
 range:mg "range" = none
 max:mg "max" = none
 repr:mg "repr" = none
 isinstance:mg "isinstance" = none
 any:mg "any" = none
 all:mg "all" = none
 sorted:mg "sorted" = none
 tupleT:mg "tuple" = none
 intT:mg "int" = none
 listT:mg "list" = none
 strT:mg "str" = none
 boolT:mg "bool" = none
 ValueError:mg "ValueError" = none
 LookupError:mg "LookupError" = none
 TypeError:mg "TypeError" = none
 ArithmeticError:mg "ArithmeticError" = none
 RuntimeError:mg "RuntimeError" = none
structure Xf(K:PySem.W.Frag)(mg:Str->Option Value):Prop where
 r_NoStep:∃ C,mg "NoStep" = some (.ref C)/\PySem.W.nsIn K mainGlobals "NoStep" = some (some (.ref C))/\PySem.W.excIn K C [.type "ValueError",.type "Exception",.type "BaseException",.type "object"] "ValueError.__new__" = true
 kn:∃ CK,mg "KnockError" = some (.ref CK)/\∀ y∈(["NoStep"]:List Str),∀ D,PySem.W.nsIn K mainGlobals y=some (some (.ref D))->XCls K CK D
 i_NoBeat:∃ D,mg "NoBeat" = some (.ref D)/\∀ nm b,tabX (["NoStep"]:List Str) "NoBeat" nm=some b->∀ C,PySem.W.nsIn K mainGlobals nm=some (some (.ref C))->XIs K C/\PySem.W.kitOne K (.ref C) (.ref D)=some b
 i_NoStep:∃ D,mg "NoStep" = some (.ref D)/\∀ nm b,tabX (["NoStep"]:List Str) "NoStep" nm=some b->∀ C,PySem.W.nsIn K mainGlobals nm=some (some (.ref C))->XIs K C/\PySem.W.kitOne K (.ref C) (.ref D)=some b
 i_NoNumber:∃ D,mg "NoNumber" = some (.ref D)/\∀ nm b,tabX (["NoStep"]:List Str) "NoNumber" nm=some b->∀ C,PySem.W.nsIn K mainGlobals nm=some (some (.ref C))->XIs K C/\PySem.W.kitOne K (.ref C) (.ref D)=some b
 i_NoLine:∃ D,mg "NoLine" = some (.ref D)/\∀ nm b,tabX (["NoStep"]:List Str) "NoLine" nm=some b->∀ C,PySem.W.nsIn K mainGlobals nm=some (some (.ref C))->XIs K C/\PySem.W.kitOne K (.ref C) (.ref D)=some b
 i_NoStory:∃ D,mg "NoStory" = some (.ref D)/\∀ nm b,tabX (["NoStep"]:List Str) "NoStory" nm=some b->∀ C,PySem.W.nsIn K mainGlobals nm=some (some (.ref C))->XIs K C/\PySem.W.kitOne K (.ref C) (.ref D)=some b
 i_NoText:∃ D,mg "NoText" = some (.ref D)/\∀ nm b,tabX (["NoStep"]:List Str) "NoText" nm=some b->∀ C,PySem.W.nsIn K mainGlobals nm=some (some (.ref C))->XIs K C/\PySem.W.kitOne K (.ref C) (.ref D)=some b
 i_TooGreat:∃ D,mg "TooGreat" = some (.ref D)/\∀ nm b,tabX (["NoStep"]:List Str) "TooGreat" nm=some b->∀ C,PySem.W.nsIn K mainGlobals nm=some (some (.ref C))->XIs K C/\PySem.W.kitOne K (.ref C) (.ref D)=some b
 b_ValueError:∀ nm b,tabB (["NoStep"]:List Str) true nm=some b->∀ C,PySem.W.nsIn K mainGlobals nm=some (some (.ref C))->XIs K C/\PySem.W.kitOne K (.ref C) (.type "ValueError")=some b
 t_0:∀ nm b,tabB (["NoStep"]:List Str) false nm=some b->∀ C,PySem.W.nsIn K mainGlobals nm=some (some (.ref C))->XIs K C/\PySem.W.kitAny K (.ref C) [.type "LookupError",.type "TypeError",.type "ArithmeticError",.type "RuntimeError"]=some b
def FnAt(K:PySem.W.Frag)(x:Str)(st:Stmt):Prop:=∃ f fd,PySem.W.nsIn K mainGlobals x=some (some (.ref f))/\Fun K x x st f fd
theorem fn_at{K:PySem.W.Frag}{x:Str}{st:Stmt}{f:Addr}{od an:Option Addr}{sl:Array (Option Value)}{oc kV dc pm cd ct:Value}(a:PySem.W.nsIn K mainGlobals x=some (some (.ref f)))(l:K.lookup f=some ⟨oc,od,.func (PySem.W.fnOf x x (defArgs st) (defBody st) (defScope st) .none kV dc pm an cd ct),sl⟩)(c:PySem.W.codeIn K cd x=true)(k:PySem.W.keepIn K (.ref f)=true):FnAt K x st:=⟨f,_,a,fun_mk l c k⟩
theorem law_binds{K:PySem.W.Frag}{x:Str}{st:Stmt}{f:Addr}{fd:FuncData}{s:Shared}{v:Value}{ps:List (Str×Value)}(F:Fun K x x st f fd)(h:∀(kV doc pm:Value) (an:Option Addr) (cdv ct:Value),bindArgs (PySem.W.fnOf x x (defArgs st) (defBody st) (defScope st) .none kV doc pm an cdv ct) ⟨[v],[]⟩=pure ps):BindsTo s fd ⟨[v],[]⟩ ps:=by
 obtain⟨oc,od,kV,doc,pm,an,cdv,ct,osl,rfl,lk,hcd⟩:=F.ex
 exact .of_eq (h kV doc pm an cdv ct)
abbrev Cal(P:Program)(w:World)(K:PySem.W.Frag)(mg:Str->Option Value)(base:Heap):=Callee P w K mg base
local macro_rules | `(tactic| walk_at "dr")=>`(tactic| dsimp only [↓gIsB,↓dTry,↓dSlT,↓dPutW,↓O.bare,↓O.with,↓dRaise,↓dIsX,↓dNeverE,↓dCntX,↓dIdxX,↓dSeq,↓dNext,↓dSet,↓dSetO,↓dSetP,↓dAsg,↓dPar,↓dIns,↓dChain3,↓dGet2,↓dLKeys,↓gSortP,↓dIf,↓dFor,↓dRet,↓dRetF,↓dApp,↓dPutI,↓dVar,↓dOwn,↓dNowV,↓dLay,↓dC,↓dCons,↓dNil,↓dpNil,↓dpVal,↓dpVw,↓dTup,↓dLst,↓dFz,↓dTB,↓onB,↓dAnd,↓dOr,↓dNot,↓dTru,↓truD,↓dAndV,↓dOrV,↓dIfE,↓dOp,↓dChain,↓dUn,↓gNeg,↓gNot,↓gII,↓gII0,↓gCat,↓gRep,↓gAdd,↓gMul,↓gMulT2,↓gEq,↓gNe,↓gIsN,↓isNone,↓gIn,↓dCB,↓dCF,↓gLen,↓gMax,↓gInt,↓gList,↓gTuple,↓gIx,↓dPart,↓dNoPart,↓dSl,↓dScrSl,↓dScrLen,↓dScrIx,↓dSeqI,↓dRange1,↓dgName,↓dgNil,↓dgCons,↓dgTup,↓dgSeq,↓dLC,↓lcF,↓dTrue,↓dCall,↓dCallF,↓Ret.d,↓startF,↓startD,↓seenW,↓clr,↓clrS,↓dIs,↓isD,↓dReprA,↓gAll,↓gAny,↓gSortS,↓dRevA,↓dSetD,↓dGetD,List.map_cons,List.map_nil,List.length_cons,List.length_nil,List.replicate_succ,List.replicate_zero,List.cons_append,List.nil_append,List.append_nil,List.set_cons_zero,List.set_cons_succ,List.getElem?_cons_zero,List.getElem?_cons_succ,Option.join_some,Nat.reduceAdd,Nat.reduceSub,Nat.zero_add,Bool.not_true,Bool.not_false])
local macro_rules | `(tactic| walk_at "ds")=>`(tactic| first | simp only [↓gIsB,↓dTry,↓dSlT,↓dPutW,↓O.bare,↓O.with,↓dRaise,↓dIsX,↓dNeverE,↓dCntX,↓dIdxX,↓dSeq,↓dNext,↓dSet,↓dSetO,↓dSetP,↓dAsg,↓dPar,↓dIns,↓dChain3,↓dGet2,↓dLKeys,↓gSortP,↓dIf,↓dFor,↓dRet,↓dRetF,↓dApp,↓dPutI,↓dVar,↓dOwn,↓dNowV,↓dLay,↓dC,↓dCons,↓dNil,↓dpNil,↓dpVal,↓dpVw,↓dTup,↓dLst,↓dFz,↓dTB,↓onB,↓dAnd,↓dOr,↓dNot,↓dTru,↓truD,↓dAndV,↓dOrV,↓dIfE,↓dOp,↓dChain,↓dUn,↓gNeg,↓gNot,↓gII,↓gII0,↓gCat,↓gRep,↓gAdd,↓gMul,↓gMulT2,↓gEq,↓gNe,↓gIsN,↓isNone,↓gIn,↓dCB,↓dCF,↓gLen,↓gMax,↓gInt,↓gList,↓gTuple,↓gIx,↓dPart,↓dNoPart,↓dSl,↓dScrSl,↓dScrLen,↓dScrIx,↓dSeqI,↓dRange1,↓dgName,↓dgNil,↓dgCons,↓dgTup,↓dgSeq,↓dLC,↓lcF,↓dTrue,↓dCall,↓dCallF,↓Ret.d,↓startF,↓startD,↓seenW,↓clr,↓clrS,↓dIs,↓isD,↓dReprA,↓gAll,↓gAny,↓gSortS,↓dRevA,↓dSetD,↓dGetD,List.map_cons,List.map_nil,List.length_cons,List.length_nil,List.replicate_succ,List.replicate_zero,List.cons_append,List.nil_append,List.append_nil,List.set_cons_zero,List.set_cons_succ,List.getElem?_cons_zero,List.getElem?_cons_succ,Option.join_some,Nat.reduceAdd,Nat.reduceSub,Nat.zero_add,Bool.not_true,Bool.not_false,if_true,if_false,reduceIte,decide_eq_true_eq,Bool.not_eq_true',decide_eq_false_iff_not,true_and,and_true,Bool.false_eq_true,Bool.not_eq_eq_eq_not,eq_self,and_self,List.isEmpty_nil,List.isEmpty_cons,reduceCtorEq,sizeLine_eq,Nat.reduceLeDiff,Nat.zero_le] | skip)
section
variable {P:Program}{w:World}{K:PySem.W.Frag}{mg:Str->Option Value}{base:Heap}{f:Addr}{fd:FuncData}
def sp__law_cell_at:DSp:=fun ws Q=>∃(ns:List Int) (k:Int),ws = [.scr ns,.val (.int k)]/\0<=k/\∀ v:Int,Q (.val (.int v))
theorem ok__law_cell_at(B:Blt mg)(F:Fun K "_law_cell_at" "_law_cell_at" s__law_cell_at f fd):FnOk P w K mg base CX0 1 f fd ["_law_script", "_law_k"] (cnSp K sp__law_cell_at):=by
 refine F.dok sc__law_cell_at (fun ws Q h=>?_) (fun cdv A outer s H ws Q E hr h=>?_)
 ·obtain⟨ns,k,rfl,_⟩:=h
  rfl
 obtain⟨ns,k,rfl,h0,q⟩:=h
 refine⟨_,(dss_cons (ds_if (dt_cmp o_lt (dv_own 1) (DE.dv (de_scrLen 0 rfl B.len)) (nomark _)) (dss_one (ds_ret (de_scrIx 0 (de_var 1) (fun _ _=>rfl)))) dss_nil) (dss_one (ds_ret de_int))),?_⟩
 walk_at "ds"
 split
 ·next c =>
  obtain⟨v,e,_⟩:=atI_ex (xs:=ns) h0 c
  exact⟨v,e,q v⟩
 ·exact q 0
def sp__law_next:DSp:=fun ws Q=>∃ k:Int,ws = [.val (.int k)]/\∀ v:Int,Q (.val (.int v))
theorem ok__law_next(B:Blt mg)(F:Fun K "_law_next" "_law_next" s__law_next f fd):FnOk P w K mg base CX0 1 f fd ["_law_seed"] (cnSp K sp__law_next):=by
 refine F.dok sc__law_next (fun ws Q h=>?_) (fun cdv A outer s H ws Q E hr h=>?_)
 ·obtain⟨k,rfl,_⟩:=h
  rfl
 obtain⟨k,rfl,q⟩:=h
 refine⟨_,(dss_cons (ds_set (i:=0) sc__law_next.nd rfl (Or.inl rfl) (de_op o_mod (DE.dv (de_op o_add (dv_own 0) (DE.dv de_int))) (DE.dv de_int))) (dss_one (ds_ret (de_op o_mod (DE.dv (de_op o_add (DE.dv (de_op o_add (DE.dv (de_op o_mul (dv_own 0) (dv_own 0))) (DE.dv (de_op o_mul (DE.dv de_int) (dv_own 0))))) (DE.dv de_int))) (DE.dv de_int))))),?_⟩
 walk_at "ds"
 have h1:0<=(k+7919) % 2147483647:=Int.emod_nonneg _ (by decide)
 have h2:(k+7919) % 2147483647<2147483647:=Int.emod_lt_of_pos _ (by decide)
 exact⟨by decide,.inl ⟨by omega,by omega⟩,.inl ⟨by omega,by omega⟩,by decide,q _⟩
def sp__law_pen_of:DSp:=fun ws Q=>∃ k:Int,ws = [.val (.int k)]/\∀ a b c:Int,Q (.new [.int a,.int b,.int c])
theorem ok__law_pen_of(B:Blt mg)(F:Fun K "_law_pen_of" "_law_pen_of" s__law_pen_of f fd):FnOk P w K mg base CX0 1 f fd ["_law_cell"] (cnSp K sp__law_pen_of):=by
 refine F.dok sc__law_pen_of (fun ws Q h=>?_) (fun cdv A outer s H ws Q E hr h=>?_)
 ·obtain⟨k,rfl,_⟩:=h
  rfl
 obtain⟨k,rfl,q⟩:=h
 refine⟨_,(dss_cons (ds_set (i:=1) sc__law_pen_of.nd rfl (Or.inl rfl) (de_callB (c_max rfl) rfl B.max boot_max (dav_cons (dv_own 0) (dav_cons (DE.dv (de_op o_sub (DE.dv de_int) (dv_own 0))) dav_nil)))) (dss_one (ds_retF (df_lst (da_cons (de_var 1) (da_cons (de_callTy c_int rfl B.intT boot_int (dav_cons (DE.dv (de_cmp o_ge (dv_own 1) (DE.dv (de_op o_pow (DE.dv de_int) (DE.dv de_int))) (nomark _))) dav_nil)) (da_cons (de_op o_mod (dv_own 1) (DE.dv de_int)) da_nil))))))),?_⟩
 walk_at "ds"
 exact⟨⟨by decide,by decide,by decide⟩,by decide,q _ _ _⟩
def sp_nextH:Sp:=fun vs H Q _=>∃ k:Int,vs = [.int k]/\∀(v:Int) H',Same H H'->Q (.int v) H'
theorem next_H{k:Nat}{x:Str}{ps:List Str}(C:Cal P w K mg base k x ps (cnSp K sp__law_next)):Cal P w K mg base k x ps sp_nextH:=by
 obtain⟨f,fd,F,r⟩:=C
 refine⟨f,fd,F.imp fun vs H Q E h=>?_,r⟩
 obtain⟨k,rfl,q⟩:=h
 exact⟨[.val (.int k)],fun r=>∃ i:Int,r=.val (.int i),.cons (show Rep K H (.int k) _ from .int) .nil,⟨k,rfl,fun v=>⟨v,rfl⟩⟩,fun v H' r sm rp ⟨i,e⟩=>by subst e;cases (show Rep K H' (.int i) v from rp);exact q i H' sm⟩
theorem ok__law_draw(B:Blt mg)(F:Fun K "_law_draw" "_law_draw" s__law_draw f fd)(Cd:Cal P w K mg base 1 "_law_next" ["_law_seed"] (cnSp K sp__law_next)):FnOk P w K mg base CX0 2 f fd ["_law_pen", "_law_many"] (cnSp K sp__law_draw):=by
 have C__law_next:=next_H Cd
 refine pen_fn (F.ok sc__law_draw (fun vs H Q E h=>?_) (fun cdv A outer s H vs Q E hr h=>?_))
 ·obtain⟨p,m,rfl,_⟩:=h
  rfl
 obtain⟨p,m,rfl,hm,hM,⟨a,b,c,hp⟩,q⟩:=h
 refine⟨_,(pss_cons (ps_if (pw_pt (pw_and (pt_cmpR op_eq (pe_ix ix_list (pv 0) pe_int (fun _ _=>rfl)) pe_int (nomark _)) (pw_and1 (pt_cmpR op_gt (pe_ix ix_list (pv 0) pe_int (fun _ _=>rfl)) pe_int (nomark _))))) (pss_cons (ps_set (i:=2) sc__law_draw.nd rfl (Or.inl rfl) (pe_op op_mod (pe_ix ix_list (pv 0) pe_int (fun _ _=>rfl)) (pv 1))) (pss_cons (ps_asg (pe_op op_fdivW (pe_ix ix_list (pv 0) pe_int (fun _ _=>rfl)) (pv 1)) (pg_sub (pv 0) pe_int set_list)) (pss_one (ps_ret (pv 2))))) pss_nil) (pss_cons (ps_asg (pe_callC C__law_next hr rfl (pa_cons (pe_op op_add (pe_callC C__law_next hr rfl (pa_cons (pe_ix ix_list (pv 0) pe_int (fun _ _=>rfl)) pa_nil)) pe_int) pa_nil)) (pg_sub (pv 0) pe_int set_list)) (pss_one (ps_ret (pe_op op_mod (pe_op op_fdivW (pe_ix ix_list (pv 0) pe_int (fun _ _=>rfl)) pe_int) (pv 1)))))),?_⟩
 have hS:SqL K H p [.int a,.int b,.int c]:=SqL.of hp
 refine⟨_,rfl,p,_,_,_,rfl,rfl,hS,rfl,rfl,_,rfl,?_⟩
 refine ite2 (fun c1=>?_) (fun c1=>?_)
 ·refine⟨_,rfl,p,_,_,_,rfl,rfl,hS,rfl,_,_,rfl,rfl,_,rfl,?_⟩
  refine ite2 (fun c2=>?_) (fun c2=>?_)
  ·refine⟨_,rfl,p,_,_,_,rfl,rfl,hS,rfl,_,rfl,_,_,rfl,rfl,hm,?_⟩
   refine⟨_,rfl,p,_,_,_,rfl,rfl,hS,rfl,_,rfl,_,_,rfl,rfl,⟨hm,hM⟩,?_⟩
   refine⟨_,rfl,p,_,_,_,rfl,rfl,hp,rfl,?_⟩
   exact⟨_,rfl,q _ _ (Int.emod_nonneg _ (by omega)) (Int.emod_lt_of_pos _ hm) ⟨a / m,b,c,upd_same⟩ But.write⟩
  ·refine⟨_,rfl,p,_,_,_,rfl,rfl,hS,rfl,_,rfl,fun v1 H1 s1=>⟨_,_,rfl,rfl,_,rfl,fun v2 H2 s2=>⟨_,rfl,p,_,_,_,rfl,rfl,s2 _ _ (s1 _ _ hp),rfl,?_⟩⟩⟩
   refine⟨_,rfl,p,_,_,_,rfl,rfl,SqL.of upd_same,rfl,_,_,rfl,rfl,⟨by decide,by decide⟩,_,rfl,_,_,rfl,rfl,hm,?_⟩
   exact q _ _ (Int.emod_nonneg _ (by omega)) (Int.emod_lt_of_pos _ hm) ⟨a,b,v2,upd_same⟩ ((But.of_same (s1.trans s2)).trans But.write)
 ·refine iteF ?_
  refine⟨_,rfl,p,_,_,_,rfl,rfl,hS,rfl,_,rfl,fun v1 H1 s1=>⟨_,_,rfl,rfl,_,rfl,fun v2 H2 s2=>⟨_,rfl,p,_,_,_,rfl,rfl,s2 _ _ (s1 _ _ hp),rfl,?_⟩⟩⟩
  refine⟨_,rfl,p,_,_,_,rfl,rfl,SqL.of upd_same,rfl,_,_,rfl,rfl,⟨by decide,by decide⟩,_,rfl,_,_,rfl,rfl,hm,?_⟩
  exact q _ _ (Int.emod_nonneg _ (by omega)) (Int.emod_lt_of_pos _ hm) ⟨a,b,v2,upd_same⟩ ((But.of_same (s1.trans s2)).trans But.write)
def sp_law:DSp:=fun ws Q=>∃ ns:List Int,ws = [.scr ns]/\ns.length<=63/\Q (.val (.bool true))
theorem atI_end{α:Type}(xs:List α)(x:α):atI (xs ++ [x]) (-1)=some x:=atI_last xs x
def silL(s:List (Int×Int))(b:Int):Bool:=s.any fun r=>decide (r.1<=b/\b<r.2)
def pD(r:Int×Int):D:=.tuple [.int r.1,.int r.2]
def sp_silent_at:DSp:=fun ws Q=>∃(s:List (Int×Int)) (b:Int),ws = [.val (.tuple (s.map pD)),.val (.int b)]/\s.length<=10000/\Q (.val (.bool (silL s b)))
theorem ok_silent_at(B:Blt mg)(F:Fun K "silent_at" "silent_at" s_silent_at f fd):FnOk P w K mg base CX0 1 f fd ["story", "beat"] (cnSp K sp_silent_at):=by
 refine F.dok sc_silent_at (fun ws Q h=>?_) (fun cdv A outer s H ws Q E hr h=>?_)
 ·obtain⟨s,b,rfl,_⟩:=h
  rfl
 obtain⟨s,b,rfl,hl,q⟩:=h
 refine⟨_,(dss_one (ds_ret (de_callB (c_any rfl) rfl B.any boot_any (dav_cons (DE.dv (DF.de (df_lc rfl (N':=["first", "last", "beat"]) (capt:=["beat"]) (k:=2) (js:=[1]) ⟨rfl,by decide,rfl,by decide,(.cons rfl .nil),rfl,(.cons rfl (Or.inl rfl) rfl (Or.inl rfl) .nil),rfl,by decide⟩ (diw_seq (dv_own 0)) (fun _ _ _ _=>(dg_seq (n:=2) rfl (dgs_cons (dg_name (i:=0) (show List.Nodup (["first", "last", "beat"]:List Str) by decide +kernel) rfl (Or.inl rfl) (Or.inr rfl)) (dgs_cons (dg_name (i:=1) (show List.Nodup (["first", "last", "beat"]:List Str) by decide +kernel) rfl (Or.inl rfl) (Or.inr rfl)) dgs_nil)))) (fun _ _ _ _=>dts_nil) (fun _ _ _ _=>(de_chain o_le o_lt (dv_own 0) (dv_own 2) (dv_own 1)))))) dav_nil)))),?_⟩
 walk_at "ds"
 rw [List.length_map]
 refine⟨by omega,lcD_mapT pD (fun r=>.bool (decide (r.1<=b/\b<r.2))) (fun r hr k hk=>?_) ⟨s.map fun r=>decide (r.1<=b/\b<r.2),?_,?_⟩⟩
 ·simp only [pD]
  walk_at "ds"
  split
  ·next c=>simpa [c] using hk
  ·next c=>simpa [c] using hk
 ·have:=boolsD_map (s.map fun r=>decide (r.1<=b/\b<r.2))
  rw [List.map_map] at this
  exact this
 ·rw [List.any_map]
  exact q
def sp__law_whole:DSp:=fun ws Q=>∃ d:D,ws = [.val d]/\Q (.val (.bool (match d with | .int _=>true | _=>false)))
theorem ok__law_whole(B:Blt mg)(F:Fun K "_law_whole" "_law_whole" s__law_whole f fd):FnOk P w K mg base CX0 1 f fd ["_law_found"] (cnSp K sp__law_whole):=by
 refine F.dok sc__law_whole (fun ws Q h=>?_) (fun cdv A outer s H ws Q E hr h=>?_)
 ·obtain⟨d,rfl,_⟩:=h
  rfl
 obtain⟨d,rfl,q⟩:=h
 refine⟨_,(dss_one (ds_ret (de_and (de_isT (n := "int") k_int rfl B.isinstance boot_isinstance (dv_own 0) rfl B.intT boot_int) (de_one (de_not (de_isT (n := "bool") k_bool rfl B.isinstance boot_isinstance (dv_own 0) rfl B.boolT boot_bool)))))),?_⟩
 walk_at "ds"
 cases d <;> exact q
def whB:D->Bool
 | .int _=>true
 | _=>false
def inB(lo hi:Int):D->Bool
 | .int i=>decide (lo<=i/\i<=hi)
 | _=>false
def sp_is_whole:DSp:=fun ws Q=>∃ d:D,ws = [.val d]/\Q (.val (.bool (whB d)))
theorem ok_is_whole(B:Blt mg)(F:Fun K "is_whole" "is_whole" s_is_whole f fd):FnOk P w K mg base CX0 1 f fd ["thing"] (cnSp K sp_is_whole):=by
 refine F.dok sc_is_whole (fun ws Q h=>?_) (fun cdv A outer s H ws Q E hr h=>?_)
 ·obtain⟨d,rfl,_⟩:=h
  rfl
 obtain⟨d,rfl,q⟩:=h
 refine⟨_,(dss_one (ds_ret (de_and (de_isT (n := "int") k_int rfl B.isinstance boot_isinstance (dv_own 0) rfl B.intT boot_int) (de_one (de_not (de_isT (n := "bool") k_bool rfl B.isinstance boot_isinstance (dv_own 0) rfl B.boolT boot_bool)))))),?_⟩
 walk_at "ds"
 cases d <;> exact q
def sp_whole_in:DSp:=fun ws Q=>∃(d:D) (lo hi:Int),ws = [.val d,.val (.int lo),.val (.int hi)]/\Q (.val (.bool (inB lo hi d)))
theorem ok_whole_in(B:Blt mg)(F:Fun K "whole_in" "whole_in" s_whole_in f fd)(C_is_whole:Cal P w K mg base 1 "is_whole" ["thing"] (cnSp K sp_is_whole)):FnOk P w K mg base CX0 2 f fd ["thing", "least", "most"] (cnSp K sp_whole_in):=by
 refine F.dok sc_whole_in (fun ws Q h=>?_) (fun cdv A outer s H ws Q E hr h=>?_)
 ·obtain⟨d,lo,hi,rfl,_⟩:=h
  rfl
 obtain⟨d,lo,hi,rfl,q⟩:=h
 refine⟨_,(dss_one (ds_ret (de_and (de_call C_is_whole hr rfl (dp_vw 0 dp_nil)) (de_one (de_chain o_le o_le (dv_own 1) (dv_own 0) (dv_own 2)))))),?_⟩
 walk_at "ds"
 refine⟨d,rfl,?_⟩
 cases d with
 | int i =>
  simp only [whB]
  walk_at "ds"
  split
  ·next c=>simpa [inB,c] using q
  ·next c=>simpa [inB,c] using q
 | _=>simp only [whB];walk_at "ds";exact q
end
section
variable {P:Program}{w:World}{K:PySem.W.Frag}{mg:Str->Option Value}{base:Heap}{f:Addr}{fd:FuncData}
def goodP:List Int->Bool
 | [a,b]=>decide (0<=a) && decide (a<b) && decide (b<=1000000)
 | _=>false
def sp_stretch_good:DSp:=fun ws Q=>∃ t:List Int,ws = [.val (tD t)]/\Q (.val (.bool (goodP t)))
theorem ok_stretch_good(B:Blt mg)(F:Fun K "stretch_good" "stretch_good" s_stretch_good f fd){t_LAST_BEAT:Tok}(G_LAST_BEAT:mg "LAST_BEAT" = some (.int 1000000 t_LAST_BEAT))(C_is_whole:Cal P w K mg base 1 "is_whole" ["thing"] (cnSp K sp_is_whole)):FnOk P w K mg base CX0 2 f fd ["thing"] (cnSp K sp_stretch_good):=by
 refine F.dok sc_stretch_good (fun ws Q h=>?_) (fun cdv A outer s H ws Q E hr h=>?_)
 ·obtain⟨t,rfl,_⟩:=h
  rfl
 obtain⟨t,rfl,q⟩:=h
 refine⟨_,(dss_cons (ds_if (DWt.dt (dw_or (dt_not (dt_tru (DE.dv (de_isT (n := "tuple") k_tuple rfl B.isinstance boot_isinstance (dv_own 0) rfl B.tupleT boot_tuple)))) (dw_or1 (dt_cmp (o_ne hr) (DE.dv (de_callB c_len rfl B.len PySem.boot_len (dav_cons (dv_own 0) dav_nil))) (DE.dv de_int) (nomark _))))) (dss_one (ds_ret de_bl)) dss_nil) (dss_cons (ds_if (DWt.dt (dw_or (dt_not (dt_tru (DE.dv (de_call C_is_whole hr rfl (dp_val (de_ix (dv_own 0) de_int (fun _ _=>rfl)) dp_nil))))) (dw_or1 (dt_not (dt_tru (DE.dv (de_call C_is_whole hr rfl (dp_val (de_ix (dv_own 0) de_int (fun _ _=>rfl)) dp_nil)))))))) (dss_one (ds_ret de_bl)) dss_nil) (dss_one (ds_ret (de_chain3 o_le o_lt o_le (DE.dv de_int) (DE.dv (de_ix (dv_own 0) de_int (fun _ _=>rfl))) (DE.dv (de_ix (dv_own 0) de_int (fun _ _=>rfl))) (DE.dv (de_glob (d:=.int 1000000) (v:=.int 1000000) rfl G_LAST_BEAT ⟨_,rfl⟩ (fun _=>.int)))))))),?_⟩
 unfold tD
 match t,q with
 | [],q=>walk_at "ds";exact q
 | [a],q=>walk_at "ds";exact q
 | a::b::c::r,q =>
  walk_at "ds"
  rw [if_pos (by intro z;rw [List.length_map] at z;omega)]
  exact q
 | [a,b],q =>
  walk_at "ds"
  refine⟨_,atI_zero _ _,?_⟩
  refine⟨.int a,rfl,?_⟩
  simp only [whB]
  walk_at "ds"
  refine⟨_,atI_one _ _ _,.int b,rfl,?_⟩
  simp only [whB]
  walk_at "ds"
  refine⟨_,atI_zero _ _,?_⟩
  replace q:Q (Ret.val (PyData.bool (decide (0<=a) && decide (a<b) && decide (b<=1000000)))):=q
  walk_at "ds"
  by_cases c1:0<=a
  ·rw [if_pos c1]
   refine⟨_,atI_one _ _ _,?_⟩
   walk_at "ds"
   rw [decide_eq_true c1] at q
   by_cases c2:a<b
   ·rw [if_pos c2]
    rw [decide_eq_true c2] at q
    exact q
   ·rw [if_neg c2]
    rw [decide_eq_false c2] at q
    exact q
  ·rw [if_neg c1]
   rw [decide_eq_false c1] at q
   exact q
def goodS:Int->List (List Int)->Bool
 | _,[]=>true
 | h,t::ts=>goodP t && !decide (t.getD 0 0<=h) && goodS (t.getD 1 0) ts
theorem goodP_two{t:List Int}(h:goodP t=true):∃ a b,t = [a,b]/\0<=a/\a<b/\b<=1000000:=by
 match t,h with
 | [a,b],h =>
  simp only [goodP,Bool.and_eq_true,decide_eq_true_eq] at h
  exact⟨a,b,rfl,h.1.1,h.1.2,h.2⟩
def sp_story_good:DSp:=fun ws Q=>∃ ts:List (List Int),ws = [.val (.tuple (ts.map tD))]/\Q (.val (.bool (decide (ts.length<=200) && goodS (-1) ts)))
theorem ok_story_good(B:Blt mg)(F:Fun K "story_good" "story_good" s_story_good f fd){t_MOST_STRETCHES:Tok}(G_MOST_STRETCHES:mg "MOST_STRETCHES" = some (.int 200 t_MOST_STRETCHES))(C_stretch_good:Cal P w K mg base 2 "stretch_good" ["thing"] (cnSp K sp_stretch_good)):FnOk P w K mg base CX0 3 f fd ["thing"] (cnSp K sp_story_good):=by
 refine F.dok sc_story_good (fun ws Q h=>?_) (fun cdv A outer s H ws Q E hr h=>?_)
 ·obtain⟨t,rfl,_⟩:=h
  rfl
 obtain⟨ts,rfl,q⟩:=h
 refine⟨_,(dss_cons (ds_if (DWt.dt (dw_or (dt_not (dt_tru (DE.dv (de_isT (n := "tuple") k_tuple rfl B.isinstance boot_isinstance (dv_own 0) rfl B.tupleT boot_tuple)))) (dw_or1 (dt_cmp o_gt (DE.dv (de_callB c_len rfl B.len PySem.boot_len (dav_cons (dv_own 0) dav_nil))) (DE.dv (de_glob (d:=.int 200) (v:=.int 200) rfl G_MOST_STRETCHES ⟨_,rfl⟩ (fun _=>.int))) (nomark _))))) (dss_one (ds_ret de_bl)) dss_nil) (dss_cons (ds_set (i:=1) sc_story_good.nd rfl (Or.inl rfl) (de_neg de_int)) (dss_cons (ds_for PassesOwn.never rfl (di_seq (de_var 0)) (dg_name (i:=2) sc_story_good.nd rfl (Or.inl rfl)) (dss_cons (ds_if (DWt.dt (dw_or (dt_not (dt_tru (DE.dv (de_call C_stretch_good hr rfl (dp_vw 2 dp_nil))))) (dw_or1 (dt_cmp o_le (DE.dv (de_ix (dv_own 2) de_int (fun _ _=>rfl))) (dv_own 1) (nomark _))))) (dss_one (ds_ret de_bl)) dss_nil) (dss_one (ds_set (i:=1) sc_story_good.nd rfl (Or.inl rfl) (de_ix (dv_own 2) de_int (fun _ _=>rfl)))))) (dss_one (ds_ret de_bl))))),?_⟩
 walk_at "ds"
 rw [List.length_map]
 by_cases c:(200:Int)<ts.length
 ·rw [if_pos c]
  rw [decide_eq_false (by omega)] at q
  exact q
 rw [if_neg c]
 rw [decide_eq_true (by omega),Bool.true_and] at q
 refine forD_suf (fun ds σ=>∃(us:List (List Int)) (h:Int) (u:Option W),ds=us.map tD/\goodS (-1) ts=goodS h us/\σ = [some (.val (.tuple (ts.map tD))),some (.val (.int h)),u]) ?_ ?_ ⟨ts,-1,none,rfl,rfl,rfl⟩
 ·rintro d ds σ N ⟨us,h,u,e,h2,rfl⟩ k
  cases us with
  | nil=>cases e
  | cons t us =>
   cases e
   rw [goodS] at h2
   walk_at "ds"
   refine⟨t,rfl,?_⟩
   cases c1:goodP t with
   | false =>
    rw [h2,c1] at q
    exact q
   | true =>
    obtain⟨a,b,rfl,_⟩:=goodP_two c1
    rw [c1] at h2
    replace h2:goodS (-1) ts=(true && !decide (a<=h) && goodS b us):=h2
    simp only [tD,List.map_cons,List.map_nil]
    walk_at "ds"
    refine⟨_,atI_zero _ _,?_⟩
    walk_at "ds"
    by_cases c2:a<=h
    ·rw [if_pos c2]
     rw [h2,decide_eq_true c2] at q
     exact q
    ·rw [if_neg c2]
     refine⟨_,atI_one _ _ _,k _ ⟨us,b,_,rfl,?_,rfl⟩⟩
     rw [h2,decide_eq_false c2]
     rfl
 ·rintro σ ⟨us,h,u,e,h2,rfl⟩
  cases us with
  | cons t us=>cases e
  | nil =>
   walk_at "ds"
   rw [h2] at q
   exact q
end
section
variable {P:Program}{w:World}{K:PySem.W.Frag}{mg:Str->Option Value}{base:Heap}{f:Addr}{fd:FuncData}
abbrev SI:Str:=Str.ofString "silent"
abbrev SO:Str:=Str.ofString "sound"
def wdB:D->Bool
 | .str x=>decide (x=SI) || decide (x=SO)
 | _=>false
def lkB:D->Bool
 | .tuple [a,b]=>inB 0 999999 a && wdB b
 | _=>false
def LkOk(d:D):Prop:=∀(a:Int) (b:D),d=.tuple [.int a,b]->(∃ x:Str,b=.str x/\(x.cps.all (· < 128))=true)\/b=.none\/∃ j:Int,b=.int j/\Lay (.int j)
theorem lay_non:Lay PyData.none:=Sh.none.lay (by decide)
theorem lay_tx{x:Str}(h:(x.cps.all (· < 128))=true):Lay (.str x):=by
 unfold Lay SeqAt.shaped
 have:PyData.strOk x=true:=by
  unfold PyData.strOk
  rw [Array.all_eq_true'] at h ⊢
  intro c hc
  have:=h c hc
  simp at this ⊢
  omega
 simp [PyData.canLay0,PyData.depth,this]
theorem lay_ws:Lay (PyData.tuple [PyData.str (Str.ofString "silent"),PyData.str (Str.ofString "sound")]):=by unfold Lay;decide +kernel
theorem inD_str(x:Str):inD (.str x) [PyData.str (Str.ofString "silent"),PyData.str (Str.ofString "sound")]=wdB (.str x):=by
 simp only [inD,PyData.eqv,wdB,List.any_cons,List.any_nil,Bool.or_false]
 rw [Bool.eq_iff_iff]
 simp only [Bool.or_eq_true,beq_iff_eq,decide_eq_true_eq]
 exact⟨fun h=>h.imp Eq.symm Eq.symm,fun h=>h.imp Eq.symm Eq.symm⟩
theorem inD_int(j:Int):inD (.int j) [PyData.str (Str.ofString "silent"),PyData.str (Str.ofString "sound")]=false:=by
 simp [inD,PyData.eqv]
theorem inD_non:inD .none [PyData.str (Str.ofString "silent"),PyData.str (Str.ofString "sound")]=false:=by
 simp [inD,PyData.eqv]
def sp_look_good:DSp:=fun ws Q=>∃ d:D,ws = [.val d]/\LkOk d/\Q (.val (.bool (lkB d)))
theorem ok_look_good(B:Blt mg)(F:Fun K "look_good" "look_good" s_look_good f fd){t_LAST_BEAT:Tok}(G_LAST_BEAT:mg "LAST_BEAT" = some (.int 1000000 t_LAST_BEAT)){t_SILENT:Tok}(G_SILENT:mg "SILENT" = some (.str "silent" t_SILENT)){t_SOUND:Tok}(G_SOUND:mg "SOUND" = some (.str "sound" t_SOUND))(C_whole_in:Cal P w K mg base 2 "whole_in" ["thing", "least", "most"] (cnSp K sp_whole_in)):FnOk P w K mg base CX0 3 f fd ["thing"] (cnSp K sp_look_good):=by
 refine F.dok sc_look_good (fun ws Q h=>?_) (fun cdv A outer s H ws Q E hr h=>?_)
 ·obtain⟨d,rfl,_⟩:=h
  rfl
 obtain⟨d,rfl,ok,q⟩:=h
 refine⟨_,(dss_cons (ds_if (DWt.dt (dw_or (dt_not (dt_tru (DE.dv (de_isT (n := "tuple") k_tuple rfl B.isinstance boot_isinstance (dv_own 0) rfl B.tupleT boot_tuple)))) (dw_or1 (dt_cmp (o_ne hr) (DE.dv (de_callB c_len rfl B.len PySem.boot_len (dav_cons (dv_own 0) dav_nil))) (DE.dv de_int) (nomark _))))) (dss_one (ds_ret de_bl)) dss_nil) (dss_one (ds_ret (de_and (de_call C_whole_in hr rfl (dp_val (de_ix (dv_own 0) de_int (fun _ _=>rfl)) (dp_val de_int (dp_val (de_op o_sub (DE.dv (de_glob (d:=.int 1000000) (v:=.int 1000000) rfl G_LAST_BEAT ⟨_,rfl⟩ (fun _=>.int))) (DE.dv de_int)) dp_nil) sE_C))) (de_one (de_cmp (o_in hr) (DE.dv (de_ix (dv_own 0) de_int (fun _ _=>rfl))) (DE.dv (de_tup (da_cons (de_glob (d:=.str "silent") (v:=.str "silent") rfl G_SILENT ⟨_,rfl⟩ (fun _=>.str)) (da_cons (de_glob (d:=.str "sound") (v:=.str "sound") rfl G_SOUND ⟨_,rfl⟩ (fun _=>.str)) da_nil)))) rfl)))))),?_⟩
 cases d with
 | tuple xs =>
  match xs,ok,q with
  | [],ok,q=>walk_at "ds";exact q
  | [a],ok,q =>
   walk_at "ds"
   rw [if_pos (by decide)]
   exact q
  | a::b::c::r,ok,q =>
   walk_at "ds"
   rw [if_pos (by omega)]
   exact q
  | [a,b],ok,q =>
   walk_at "ds"
   refine⟨_,atI_zero _ _,?_⟩
   walk_at "ds"
   refine⟨_,_,_,rfl,?_⟩
   show if inB 0 999999 a=true then _ else _
   replace q:Q (Ret.val (PyData.bool (inB 0 999999 a && wdB b))):=q
   cases c:inB 0 999999 a with
   | false =>
    rw [c] at q
    exact q
   | true =>
    rw [c,Bool.true_and] at q
    rw [if_pos rfl]
    have:∃ i,a=.int i:=by
     cases a with
     | int i=>exact⟨i,rfl⟩
     | _=>cases c
    obtain⟨i,rfl⟩:=this
    refine⟨_,atI_one _ _ _,?_⟩
    rcases ok i b rfl with⟨x,rfl,hx⟩ | rfl | ⟨j,rfl,hj⟩
    ·exact⟨lay_tx hx,lay_ws,by rw [inD_str];exact q⟩
    ·exact⟨lay_non,lay_ws,by rw [inD_non];exact q⟩
    ·exact⟨hj,lay_ws,by rw [inD_int];exact q⟩
 | _=>walk_at "ds";exact q
end
section
variable {P:Program}{w:World}{K:PySem.W.Frag}{mg:Str->Option Value}{base:Heap}{f:Addr}{fd:FuncData}
def lksB:D->Bool
 | .tuple xs=>decide (xs.length<=12) && xs.all lkB
 | _=>false
def LksOk(d:D):Prop:=∀ xs,d=.tuple xs->xs.length<=12->∀ x∈xs,LkOk x
def sp_looks_good:DSp:=fun ws Q=>∃ d:D,ws = [.val d]/\LksOk d/\Q (.val (.bool (lksB d)))
theorem ok_looks_good(B:Blt mg)(F:Fun K "looks_good" "looks_good" s_looks_good f fd){t_MOST_LOOKS:Tok}(G_MOST_LOOKS:mg "MOST_LOOKS" = some (.int 12 t_MOST_LOOKS))(C_look_good:Cal P w K mg base 3 "look_good" ["thing"] (cnSp K sp_look_good)):FnOk P w K mg base CX0 4 f fd ["thing"] (cnSp K sp_looks_good):=by
 refine F.dok sc_looks_good (fun ws Q h=>?_) (fun cdv A outer s H ws Q E hr h=>?_)
 ·obtain⟨d,rfl,_⟩:=h
  rfl
 obtain⟨d,rfl,ok,q⟩:=h
 refine⟨_,(dss_cons (ds_if (DWt.dt (dw_or (dt_not (dt_tru (DE.dv (de_isT (n := "tuple") k_tuple rfl B.isinstance boot_isinstance (dv_own 0) rfl B.tupleT boot_tuple)))) (dw_or1 (dt_cmp o_gt (DE.dv (de_callB c_len rfl B.len PySem.boot_len (dav_cons (dv_own 0) dav_nil))) (DE.dv (de_glob (d:=.int 12) (v:=.int 12) rfl G_MOST_LOOKS ⟨_,rfl⟩ (fun _=>.int))) (nomark _))))) (dss_one (ds_ret de_bl)) dss_nil) (dss_one (ds_ret (de_callB (c_all rfl) rfl B.all boot_all (dav_cons (DE.dv (DF.de (df_lc rfl (N':=["look"]) (capt:=[]) (k:=1) (js:=[]) ⟨rfl,by decide,rfl,by decide,.nil,rfl,.nil,rfl,by decide⟩ (diw_seq (dv_own 0)) (fun _ _ _ _=>(dg_name (i:=0) (show List.Nodup (["look"]:List Str) by decide +kernel) rfl (Or.inl rfl) (Or.inr rfl))) (fun _ _ _ _=>dts_nil) (fun _ _ _ _=>(de_call C_look_good hr rfl (dp_vw 0 dp_nil)))))) dav_nil))))),?_⟩
 cases d with
 | tuple xs =>
  walk_at "ds"
  replace q:Q (Ret.val (PyData.bool (decide (xs.length<=12) && xs.all lkB))):=q
  split
  ·next c =>
   rw [decide_eq_false (by omega)] at q
   exact q
  ·next c =>
   rw [decide_eq_true (by omega),Bool.true_and] at q
   have hx:=ok xs rfl (by omega)
   refine⟨by omega,?_⟩
   have e:xs=xs.map id:=by simp
   rw [e]
   refine lcD_mapT id (fun x=>.bool (lkB x)) (fun x hm k hk=>?_) ⟨xs.map lkB,?_,?_⟩
   ·walk_at "ds"
    exact⟨x,rfl,hx x hm,hk⟩
   ·have:=boolsD_map (xs.map lkB)
    rw [List.map_map] at this
    exact this
   ·rw [List.all_map]
    exact q
 | _=>walk_at "ds";exact q
abbrev wS:Bool->Str
 | true=>SI
 | false=>SO
def lkD(p:Int×Bool):D:=.tuple [.int p.1,.str (wS p.2)]
structure Gk(ls:List (Int×Bool)):Prop where
 ln:ls.length<=12
 bd:∀ p∈ls,0<=p.1/\p.1<=999999
theorem wd_dec{d:D}(h:wdB d=true):∃ z,d=.str (wS z):=by
 cases d with
 | str x =>
  simp only [wdB,Bool.or_eq_true,decide_eq_true_eq] at h
  rcases h with rfl | rfl
  ·exact⟨true,rfl⟩
  ·exact⟨false,rfl⟩
 | _=>cases h
theorem lk_dec{d:D}(h:lkB d=true):∃ p:Int×Bool,d=lkD p/\0<=p.1/\p.1<=999999:=by
 unfold lkB at h
 split at h
 ·next a b =>
  rw [Bool.and_eq_true] at h
  obtain⟨z,rfl⟩:=wd_dec h.2
  cases a with
  | int i =>
   have h1:=h.1
   simp only [inB,decide_eq_true_eq] at h1
   exact⟨(i,z),rfl,h1.1,h1.2⟩
  | _=>cases h.1
 ·cases h
theorem lks_dec{d:D}(h:lksB d=true):∃ ls:List (Int×Bool),d=.tuple (ls.map lkD)/\Gk ls:=by
 cases d with
 | tuple xs =>
  replace h:(decide (xs.length<=12) && xs.all lkB)=true:=h
  rw [Bool.and_eq_true,decide_eq_true_eq,List.all_eq_true] at h
  obtain⟨hl,h⟩:=h
  have:∃ ls:List (Int×Bool),xs=ls.map lkD/\∀ p∈ls,0<=p.1/\p.1<=999999:=by
   clear hl
   induction xs with
   | nil=>exact⟨[],rfl,fun _ h=>by cases h⟩
   | cons x xs ih =>
    obtain⟨ls,rfl,hb⟩:=ih fun y hy=>h y (List.mem_cons_of_mem _ hy)
    obtain⟨p,rfl,h1,h2⟩:=lk_dec (h x List.mem_cons_self)
    exact⟨p::ls,rfl,mem_two ⟨h1,h2⟩ hb⟩
  obtain⟨ls,rfl,hb⟩:=this
  exact⟨ls,rfl,by rw [List.length_map] at hl;exact hl,hb⟩
 | _=>cases h
theorem wd_ok(z:Bool):wdB (.str (wS z))=true:=by cases z <;> simp [wdB]
theorem lks_good{ls:List (Int×Bool)}(g:Gk ls):lksB (.tuple (ls.map lkD))=true:=by
 show(decide ((ls.map lkD).length<=12) && (ls.map lkD).all lkB)=true
 rw [List.length_map,decide_eq_true g.ln,Bool.true_and,List.all_map,List.all_eq_true]
 intro p hp
 have:=g.bd p hp
 show(inB 0 999999 (.int p.1) && wdB (.str (wS p.2)))=true
 rw [wd_ok,Bool.and_true]
 simp only [inB,decide_eq_true_eq]
 exact this
theorem as_w(z:Bool):((wS z).cps.all (· < 128))=true:=by cases z <;> decide +kernel
theorem lks_ok(ls:List (Int×Bool)):LksOk (.tuple (ls.map lkD)):=fun xs e _ x hx a b e2=>by
 cases e
 obtain⟨p,_,rfl⟩:=List.mem_map.mp hx
 cases e2
 exact .inl ⟨_,rfl,as_w _⟩
theorem w_si(z:Bool):decide (wS z=SI)=z:=by cases z <;> decide +kernel
def sp_holds:DSp:=fun ws Q=>∃(s:List (Int×Int)) (d:D),ws = [.val (.tuple (s.map pD)),.val d]/\s.length<=1000/\LksOk d/\(lksB d=false->Q (.val (.bool false)))/\∀ ls,d=.tuple (ls.map lkD)->Gk ls->Q (.val (.bool (ls.all fun p=>silL s p.1 == p.2)))
theorem ok_holds(B:Blt mg)(F:Fun K "holds" "holds" s_holds f fd){t_SILENT:Tok}(G_SILENT:mg "SILENT" = some (.str "silent" t_SILENT))(C_silent_at:Cal P w K mg base 1 "silent_at" ["story", "beat"] (cnSp K sp_silent_at))(C_looks_good:Cal P w K mg base 4 "looks_good" ["thing"] (cnSp K sp_looks_good)):FnOk P w K mg base CX0 5 f fd ["story", "thing"] (cnSp K sp_holds):=by
 refine F.dok sc_holds (fun ws Q h=>?_) (fun cdv A outer s H ws Q E hr h=>?_)
 ·obtain⟨s,d,rfl,_⟩:=h
  rfl
 obtain⟨s,d,rfl,hs,ok,q0,q1⟩:=h
 refine⟨_,(dss_cons (ds_if (dt_not (dt_tru (DE.dv (de_call C_looks_good hr rfl (dp_vw 1 dp_nil))))) (dss_one (ds_ret de_bl)) dss_nil) (dss_one (ds_ret (de_callB (c_all rfl) rfl B.all boot_all (dav_cons (DE.dv (DF.de (df_lc rfl (N':=["beat", "word", "story"]) (capt:=["story"]) (k:=2) (js:=[0]) ⟨rfl,by decide,rfl,by decide,(.cons rfl .nil),rfl,(.cons rfl (Or.inl rfl) rfl (Or.inl rfl) .nil),rfl,by decide⟩ (diw_seq (dv_own 1)) (fun _ _ _ _=>(dg_seq (n:=2) rfl (dgs_cons (dg_name (i:=0) (show List.Nodup (["beat", "word", "story"]:List Str) by decide +kernel) rfl (Or.inl rfl) (Or.inr rfl)) (dgs_cons (dg_name (i:=1) (show List.Nodup (["beat", "word", "story"]:List Str) by decide +kernel) rfl (Or.inl rfl) (Or.inr rfl)) dgs_nil)))) (fun _ _ _ _=>dts_nil) (fun _ _ _ _=>(de_cmp (o_eq hr) (DE.dv (de_call C_silent_at hr rfl (dp_vw 2 (dp_vw 0 dp_nil)))) (DE.dv (de_cmp (o_eq hr) (dv_own 1) (DE.dv (de_glob (d:=.str "silent") (v:=.str "silent") rfl G_SILENT ⟨_,rfl⟩ (fun _=>.str))) (nomark _))) (nomark _)))))) dav_nil))))),?_⟩
 walk_at "ds"
 refine⟨d,rfl,ok,?_⟩
 cases c:lksB d with
 | false =>
  walk_at "ds"
  exact q0 c
 | true =>
  obtain⟨ls,rfl,g⟩:=lks_dec c
  have ln:=g.ln
  walk_at "ds"
  rw [List.length_map]
  refine⟨by omega,lcD_mapT lkD (fun p=>.bool (silL s p.1 == p.2)) (fun p hp k hk=>?_) ⟨ls.map fun p=>silL s p.1 == p.2,?_,?_⟩⟩
  ·simp only [lkD]
   walk_at "ds"
   refine⟨s,p.1,rfl,by omega,?_⟩
   show k (some (.bool (decide (silL s p.1=decide (wS p.2=SI)))))
   rw [w_si]
   exact hk
  ·have:=boolsD_map (ls.map fun p=>silL s p.1 == p.2)
   rw [List.map_map] at this
   exact this
  ·rw [List.all_map]
   exact q1 ls rfl g
end
section
variable {P:Program}{w:World}{K:PySem.W.Frag}{mg:Str->Option Value}{base:Heap}{f:Addr}{fd:FuncData}
def stepK(st:List (Int×Int)×Bool)(p:Int×Bool):List (Int×Int)×Bool :=
 if p.2=false then (st.1,true) else if st.2=true then (st.1 ++ [(p.1,p.1+1)],false) else (st.1.dropLast ++ [((st.1.getLastD (0,0)).1,p.1+1)],false)
def foldK(rs:List (Int×Bool)):List (Int×Int)×Bool:=rs.foldl stepK ([],true)
structure InK(rs:List (Int×Bool))(st:List (Int×Int)×Bool)(m:Int):Prop where
 ne:st.2=false->∃ u r,st.1=u ++ [r]/\r.2=m+1
 r:∀ r∈st.1,0<=r.1/\r.1<r.2/\r.2<=m+1
 pt:st.2=true->∀ r∈st.1,r.2<=m
 up:st.1.Pairwise fun a b=>a.2<b.1
 ln:st.1.length<=rs.length
 sl:∀ p∈rs,p.1<=m
 ok:∀ p∈rs,silL st.1 p.1=p.2
theorem sil_app(s t:List (Int×Int))(b:Int):silL (s++t) b=(silL s b || silL t b):=by simp [silL]
theorem sil_one(r:Int×Int)(b:Int):silL [r] b=decide (r.1<=b/\b<r.2):=by simp [silL]
theorem sil_no{s:List (Int×Int)}{b:Int}(h:∀ r∈s,¬ (r.1<=b/\b<r.2)):silL s b=false:=by
 unfold silL
 rw [List.any_eq_false]
 intro r hr
 simpa using h r hr
theorem InK.step{rs:List (Int×Bool)}{st:List (Int×Int)×Bool}{m:Int}(h:InK rs st m){p:Int×Bool}(h0:0<=p.1)(hp:m<p.1):InK (rs ++ [p]) (stepK st p) p.1:=by
 obtain⟨b,z⟩:=p
 obtain⟨s,t⟩:=st
 replace hp:m<b:=hp
 replace h0:0<=b:=h0
 have hr:∀ r∈s,0<=r.1/\r.1<r.2/\r.2<=m+1:=h.r
 have slo:∀ x∈rs ++ [(b,z)],x.1<=b:=fun x hx=>by
  rcases List.mem_append.mp hx with hx | hx
  ·have:=h.sl x hx;omega
  ·cases List.mem_singleton.mp hx;exact Int.le_refl _
 have hl:s.length<=rs.length:=h.ln
 have lo:s.length<=(rs ++ [(b,z)]).length:=by rw [List.length_append];omega
 cases z with
 | false =>
  show InK _ (s,true) b
  refine⟨(fun e=>by cases e),(fun r hr'=>by have:=hr r hr';omega),(fun _ r hr'=>by have:=hr r hr';show r.2<=b;omega),h.up,lo,slo,fun x hx=>?_⟩
  rcases List.mem_append.mp hx with hx | hx
  ·exact h.ok x hx
  ·cases List.mem_singleton.mp hx
   exact sil_no fun r hr'=>by have:=hr r hr';show ¬ (r.1<=b/\b<r.2);omega
 | true =>
  cases t with
  | true =>
   show InK _ (s ++ [(b,b+1)],false) b
   have hm:∀ r∈s,r.2<=m:=h.pt rfl
   refine⟨fun _=>⟨s,(b,b+1),rfl,rfl⟩,fun r hr'=>?_,(fun e=>by cases e),?_,?_,slo,fun x hx=>?_⟩
   ·rcases List.mem_append.mp hr' with hr' | hr'
    ·have:=hr r hr';omega
    ·cases List.mem_singleton.mp hr';show 0<=b/\b<b+1/\b+1<=b+1;omega
   ·refine List.pairwise_append.mpr ⟨h.up,List.pairwise_singleton _ _,fun a ha c hc=>?_⟩
    cases List.mem_singleton.mp hc
    have:=hm a ha
    show a.2<b
    omega
   ·show(s ++ [(b,b+1)]).length<=(rs ++ [(b,true)]).length
    rw [List.length_append,List.length_append]
    simp only [List.length_cons,List.length_nil]
    omega
   ·show silL (s ++ [(b,b+1)]) x.1=x.2
    rw [sil_app,sil_one]
    rcases List.mem_append.mp hx with hx | hx
    ·have h1:silL s x.1=x.2:=h.ok x hx
     have:=h.sl x hx
     rw [h1,decide_eq_false (by show ¬ (b<=x.1/\x.1<b+1);omega),Bool.or_false]
    ·cases List.mem_singleton.mp hx
     rw [decide_eq_true (by show b<=b/\b<b+1;omega),Bool.or_true]
  | false =>
   obtain⟨u,r,es,e2⟩:∃ u r,s=u ++ [r]/\r.2=m+1:=h.ne rfl
   subst es
   have e1:stepK (u ++ [r],false) (b,true)=(u ++ [(r.1,b+1)],false):=by
    simp [stepK]
   rw [e1]
   have rr:=hr r (by simp)
   have up:=List.pairwise_append.mp h.up
   refine⟨fun _=>⟨u,(r.1,b+1),rfl,rfl⟩,fun x hx=>?_,(fun e=>by cases e),?_,?_,slo,fun x hx=>?_⟩
   ·rcases List.mem_append.mp hx with hx | hx
    ·have:=hr x (by simp [hx]);show 0<=x.1/\x.1<x.2/\x.2<=b+1;omega
    ·cases List.mem_singleton.mp hx;show 0<=r.1/\r.1<b+1/\b+1<=b+1;omega
   ·refine List.pairwise_append.mpr ⟨up.1,List.pairwise_singleton _ _,fun a ha c hc=>?_⟩
    cases List.mem_singleton.mp hc
    exact up.2.2 a ha r (by simp)
   ·show(u ++ [(r.1,b+1)]).length<=(rs ++ [(b,true)]).length
    rw [List.length_append] at hl lo ⊢
    exact lo
   ·show silL (u ++ [(r.1,b+1)]) x.1=x.2
    rw [sil_app,sil_one]
    rcases List.mem_append.mp hx with hx | hx
    ·have h1:silL (u ++ [r]) x.1=x.2:=h.ok x hx
     rw [sil_app,sil_one] at h1
     have:=h.sl x hx
     rw [<-h1]
     congr 1
     exact decide_eq_decide.mpr (by show(r.1<=x.1/\x.1<b+1)↔(r.1<=x.1/\x.1<r.2);omega)
    ·cases List.mem_singleton.mp hx
     rw [decide_eq_true (by show r.1<=b/\b<b+1;omega),Bool.or_true]
theorem foldK_snoc(rs:List (Int×Bool))(p:Int×Bool):foldK (rs ++ [p])=stepK (foldK rs) p:=by
 unfold foldK
 rw [List.foldl_append]
 rfl
theorem snoc_ind{α:Type}{P:List α->Prop}(nil:P [])(snoc:∀ xs x,P xs->P (xs ++ [x]))(xs:List α):P xs:=by
 have:∀ n (xs:List α),xs.length=n->P xs:=by
  intro n
  induction n with
  | zero=>intro xs h;rw [List.eq_nil_of_length_eq_zero h];exact nil
  | succ n ih =>
   intro xs h
   rcases List.eq_nil_or_concat xs with e | ⟨ys,y,e⟩
   ·subst e;exact nil
   ·rw [e,List.concat_eq_append] at h ⊢
    rw [List.length_append,List.length_singleton] at h
    exact snoc ys y (ih ys (by omega))
 exact this _ xs rfl
theorem foldK_ok:∀{rs:List (Int×Bool)},rs.Pairwise (fun a b=>a.1<b.1)->(∀ p∈rs,0<=p.1)->InK rs (foldK rs) ((rs.getLastD (-1,true)).1):=by
 intro rs
 induction rs using snoc_ind with
 | nil =>
  intro _ _
  exact⟨(fun e=>by cases e),(fun r h=>by cases h),(fun _ r h=>by cases h),List.Pairwise.nil,Nat.le_refl _,(fun p h=>by cases h),fun p h=>by cases h⟩
 | snoc rs p ih =>
  intro up h0
  have up2:=List.pairwise_append.mp up
  have:=ih up2.1 fun x hx=>h0 x (by simp [hx])
  rw [foldK_snoc]
  have e:((rs ++ [p]).getLastD (-1,true)).1=p.1:=by simp [List.getLastD_eq_getLast?]
  rw [e]
  refine this.step (h0 p (by simp)) ?_
  cases hl:rs.getLast? with
  | none =>
   have:rs = []:=List.getLast?_eq_none_iff.mp hl
   subst this
   have:=h0 p (by simp)
   show(-1:Int)<p.1
   omega
  | some x =>
   rw [List.getLastD_eq_getLast?,hl]
   exact up2.2.2 x (List.mem_of_getLast? hl) p (by simp)
end
section
variable {P:Program}{w:World}{K:PySem.W.Frag}{mg:Str->Option Value}{base:Heap}{f:Addr}{fd:FuncData}
theorem stepK_idem(st:List (Int×Int)×Bool)(p:Int×Bool):stepK (stepK st p) p=stepK st p:=by
 obtain⟨s,t⟩:=st
 obtain⟨b,z⟩:=p
 cases z with
 | false=>rfl
 | true =>
  cases t with
  | true=>simp [stepK]
  | false=>simp [stepK]
def Cons(ls:List (Int×Bool)):Prop:=∀ a∈ls,∀ b∈ls,a.1=b.1->a=b
theorem dd_ex:∀{rs:List (Int×Bool)},rs.Pairwise (fun a b=>a.1<=b.1)->Cons rs->∃ ds:List (Int×Bool),ds.Pairwise (fun a b=>a.1<b.1)/\(∀ p,p∈ds↔p∈rs)/\foldK ds=foldK rs:=by
 intro rs
 induction rs using snoc_ind with
 | nil=>intro _ _;exact⟨[],List.Pairwise.nil,fun p=>Iff.rfl,rfl⟩
 | snoc rs p ih =>
  intro up co
  have up2:=List.pairwise_append.mp up
  obtain⟨ds,d1,d2,d3⟩:=ih up2.1 fun a ha b hb=>co a (by simp [ha]) b (by simp [hb])
  cases hl:rs.getLast? with
  | none =>
   have:rs = []:=List.getLast?_eq_none_iff.mp hl
   subst this
   exact⟨[p],List.pairwise_singleton _ _,fun x=>by simp,rfl⟩
  | some x =>
   have mx:=List.mem_of_getLast? hl
   have le:=up2.2.2 x mx p (by simp)
   by_cases e:x.1=p.1
   ·have:x=p:=co x (by simp [mx]) p (by simp) e
    subst this
    refine⟨ds,d1,fun y=>?_,?_⟩
    ·rw [d2,List.mem_append,List.mem_singleton]
     exact⟨.inl,fun h=>h.elim id fun e=>by subst e;exact mx⟩
    ·rw [foldK_snoc,d3]
     obtain⟨ys,rfl⟩:=List.getLast?_eq_some_iff.mp hl
     rw [foldK_snoc,stepK_idem]
   ·refine⟨ds ++ [p],List.pairwise_append.mpr ⟨d1,List.pairwise_singleton _ _,fun a ha c hc=>?_⟩,fun y=>by simp [d2],by rw [foldK_snoc,foldK_snoc,d3]⟩
    cases List.mem_singleton.mp hc
    have ma:=(d2 a).mp ha
    obtain⟨ys,rfl⟩:=List.getLast?_eq_some_iff.mp hl
    have:a.1<=x.1:=by
     rcases List.mem_append.mp ma with m | m
     ·exact(List.pairwise_append.mp up2.1).2.2 a m x (by simp)
     ·cases List.mem_singleton.mp m;exact Int.le_refl _
    omega
theorem up_uniq:∀{xs ys:List Int},xs.Pairwise (· < ·)->ys.Pairwise (· < ·)->(∀ x,x∈xs↔x∈ys)->xs=ys
 | [],[],_,_,_=>rfl
 | [],y::ys,_,_,h=>by have:=(h y).mpr List.mem_cons_self;cases this
 | x::xs,[],_,_,h=>by have:=(h x).mp List.mem_cons_self;cases this
 | x::xs,y::ys,p,q,h=>by
  have p':=List.pairwise_cons.mp p
  have q':=List.pairwise_cons.mp q
  have e:x=y:=by
   rcases List.mem_cons.mp ((h x).mp List.mem_cons_self) with e | m
   ·exact e
   ·rcases List.mem_cons.mp ((h y).mpr List.mem_cons_self) with e | m2
    ·exact e.symm
    ·have:=q'.1 x m
     have:=p'.1 y m2
     omega
  subst e
  rw [up_uniq p'.2 q'.2 fun z=>?_]
  constructor
  ·intro m
   rcases List.mem_cons.mp ((h z).mp (List.mem_cons_of_mem _ m)) with e | m2
   ·subst e;have:=p'.1 z m;omega
   ·exact m2
  ·intro m
   rcases List.mem_cons.mp ((h z).mpr (List.mem_cons_of_mem _ m)) with e | m2
   ·subst e;have:=q'.1 z m;omega
   ·exact m2
theorem fold_keys{rs ms:List (Int×Bool)}{ks:List Int}(up:rs.Pairwise (fun a b=>a.1<=b.1))(co:Cons rs)(hm:∀ p,p∈ms↔p∈rs)(uk:ks.Pairwise (· < ·))(hk:∀ b,b∈ks↔∃ z,(b,z)∈ms)(f:Int->Bool)(hf:∀ p∈ms,f p.1=p.2):
  foldK (ks.map fun b=>(b,f b))=foldK rs/\((ks.map fun b=>(b,f b)).Pairwise fun a b=>a.1<b.1)/\∀ p,p∈(ks.map fun b=>(b,f b))↔p∈rs:=by
 obtain⟨ds,d1,d2,d3⟩:=dd_ex up co
 have e1:ds.map (·.1)=ks:=up_uniq (List.pairwise_map.mpr d1) uk fun b=>by
  rw [hk,List.mem_map]
  constructor
  ·rintro ⟨p,hp,rfl⟩
   exact⟨p.2,(hm _).mpr ((d2 p).mp hp)⟩
  ·rintro ⟨z,hz⟩
   exact⟨(b,z),(d2 _).mpr ((hm _).mp hz),rfl⟩
 have e2:ks.map (fun b=>(b,f b))=ds:=by
  rw [<-e1,List.map_map]
  conv=>rhs;rw [<-List.map_id ds]
  refine List.map_congr_left fun p hp=>?_
  have:=hf p ((hm p).mpr ((d2 p).mp hp))
  show(p.1,f p.1)=p
  rw [this]
 rw [e2]
 exact⟨d3,d1,d2⟩
theorem le_key{a b:Int×Bool}(h:¬ SQ.ipK (b.1,wS b.2)<SQ.ipK (a.1,wS a.2)):a.1<=b.1:=by
 unfold SQ.ipK at h
 rw [List.cons_lt_cons_iff] at h
 simp only [not_or] at h
 have:=h.1
 show a.1<=b.1
 have h2:¬ b.1<a.1:=this
 omega
end
section
variable {P:Program}{w:World}{K:PySem.W.Frag}{mg:Str->Option Value}{base:Heap}{f:Addr}{fd:FuncData}
theorem ixN_last{α:Type}(xs:List α)(x:α):ixN (xs ++ [x]).length (-1)=some xs.length:=by
 unfold ixN
 rw [List.length_append,List.length_singleton,if_neg (by decide),if_pos (by omega)]
 congr 1
 omega
theorem set_end{α:Type}(xs:List α)(x y:α):(xs ++ [x]).set xs.length y=xs ++ [y]:=by simp
theorem map_inj{α β:Type}{f:α->β}(h:∀ a b,f a=f b->a=b):∀{xs ys:List α},xs.map f=ys.map f->xs=ys
 | [],[],_=>rfl
 | [],_::_,e=>by cases e
 | _::_,[],e=>by cases e
 | x::xs,y::ys,e=>by
  simp only [List.map_cons,List.cons.injEq] at e
  rw [h _ _ e.1,map_inj h e.2]
theorem lkD_inj(a b:Int×Bool)(h:lkD a=lkD b):a=b:=by
 obtain⟨i,x⟩:=a
 obtain⟨j,y⟩:=b
 simp only [lkD,PyData.tuple.injEq,List.cons.injEq,PyData.int.injEq,PyData.str.injEq,and_true] at h
 have:decide (wS x=SI)=decide (wS y=SI):=by rw [h.2]
 rw [w_si,w_si] at this
 rw [h.1,this]
def sp_story_for:DSpX:=fun ws Q ex=>∃ d:D,ws = [.val d]/\LksOk d/\(lksB d=false->ex ("NoStep",[]))/\∀ ls,d=.tuple (ls.map lkD)->Gk ls->∀ rs:List (Int×Bool),rs.Perm ls->rs.Pairwise (fun a b=>a.1<=b.1)->Q (.val (if (ls.all fun p=>silL (foldK rs).1 p.1 == p.2)=true then .tuple ((foldK rs).1.map pD) else .none))
theorem foldK_len(rs:List (Int×Bool)):(foldK rs).1.length<=rs.length/\((foldK rs).2=false->(foldK rs).1 ≠ []):=by
 induction rs using snoc_ind with
 | nil=>exact⟨Nat.le_refl _,fun e=>by cases e⟩
 | snoc rs p ih =>
  rw [foldK_snoc,List.length_append,List.length_singleton]
  unfold stepK
  obtain⟨h1,h2⟩:=ih
  split
  ·exact⟨Nat.le_succ_of_le h1,fun e=>by cases e⟩
  ·split
   ·exact⟨by simp;omega,fun _=>by simp⟩
   ·next z =>
    refine⟨?_,fun _=>by simp⟩
    have:(foldK rs).1 ≠ []:=h2 (by simpa using z)
    have:=List.length_pos_iff.mpr this
    simp
    omega
theorem ok_story_for(B:Blt mg)(F:Fun K "story_for" "story_for" s_story_for f fd){t_SOUND:Tok}(G_SOUND:mg "SOUND" = some (.str "sound" t_SOUND))(XF:Xf K mg)(C_looks_good:Cal P w K mg base 4 "looks_good" ["thing"] (cnSp K sp_looks_good))(C_holds:Cal P w K mg base 5 "holds" ["story", "thing"] (cnSp K sp_holds)):FnOk P w K mg base (CXk P w) 6 f fd ["looks"] (cnSpX K sp_story_for):=by
 refine F.dokX sc_story_for (fun ws Q ex h=>?_) (fun cdv A outer s H ws Q ex E hr h hE=>?_)
 ·obtain⟨d,rfl,_⟩:=h
  rfl
 obtain⟨d,rfl,ok,q0,q1⟩:=h
 obtain⟨cx_NoStep,mx_NoStep,nx_NoStep,qx_NoStep⟩:=XF.r_NoStep;refine⟨_,(dsxs_cons (dsx_if (dt_not (dt_tru (DE.dv (de_call C_looks_good hr rfl (dp_vw 0 dp_nil))))) (dsxs_one (dsx_raise hE hr.hd rfl mx_NoStep nx_NoStep qx_NoStep)) dsxs_nil) (dsxs_cons (dsx_of (ds_setO (i:=1) sc_story_for.nd rfl (Or.inl rfl) (df_lst da_nil))) (dsxs_cons (dsx_of (ds_set (i:=2) sc_story_for.nd rfl (Or.inl rfl) de_bl)) (dsxs_cons (dsx_of (ds_for PassesOwn.never rfl (di_seq (DF.de (df_callB c_sortP rfl B.sorted boot_sorted (dav_cons (dv_own 0) dav_nil)))) (dg_seq (n:=2) rfl (dgs_cons (dg_name (i:=3) sc_story_for.nd rfl (Or.inl rfl)) (dgs_cons (dg_name (i:=4) sc_story_for.nd rfl (Or.inl rfl)) dgs_nil))) (dss_one (ds_if (dt_cmp (o_eq hr) (dv_own 4) (DE.dv (de_glob (d:=.str "sound") (v:=.str "sound") rfl G_SOUND ⟨_,rfl⟩ (fun _=>.str))) (nomark _)) (dss_one (ds_set (i:=2) sc_story_for.nd rfl (Or.inl rfl) de_bl)) (dss_one (ds_if (dt_tru (dv_own 2)) (dss_cons (ds_append 1 (de_tup (da_cons (de_var 3) (da_cons (de_op o_add (dv_own 3) (DE.dv de_int)) da_nil)))) (dss_one (ds_set (i:=2) sc_story_for.nd rfl (Or.inl rfl) de_bl))) (dss_one (ds_putI 1 (de_tup (da_cons (de_ix (DE.dv (de_ix (dv_own 1) (de_neg de_int) (fun _ _=>rfl))) de_int (fun _ _=>rfl)) (da_cons (de_op o_add (dv_own 3) (DE.dv de_int)) da_nil))) (de_neg de_int))))))))) (dsxs_cons (dsx_of (ds_set (i:=5) sc_story_for.nd rfl (Or.inl rfl) (de_callTy c_tuple rfl B.tupleT boot_tuple (dav_cons (dv_own 1) dav_nil)))) (dsxs_cons (dsx_of (ds_if (dt_not (dt_tru (DE.dv (de_call C_holds hr rfl (dp_vw 5 (dp_vw 0 dp_nil)))))) (dss_one (ds_ret de_non)) dss_nil)) (dsxs_one (dsx_of (ds_ret (de_var 5)))))))))),?_⟩
 walk_at "ds"
 refine⟨d,rfl,ok,?_⟩
 cases c:lksB d with
 | false =>
  walk_at "ds"
  exact q0 c
 | true =>
  obtain⟨ls,rfl,g⟩:=lks_dec c
  have ln:=g.ln
  walk_at "ds"
  rw [List.length_map]
  refine⟨by omega,ls.map fun p=>(p.1,wS p.2),by rw [List.map_map];rfl,fun qs pm pw=>?_⟩
  obtain⟨rs,rfl,prm⟩:∃ rs:List (Int×Bool),qs=rs.map (fun p=>(p.1,wS p.2))/\rs.Perm ls:=by
   have:∃ rs:List (Int×Bool),qs=rs.map (fun p=>(p.1,wS p.2))/\(rs.map (fun p=>(p.1,wS p.2))).Perm (ls.map fun p=>(p.1,wS p.2)):=by
    have hm:∀ x∈qs,∃ p:Int×Bool,x=(p.1,wS p.2):=fun x hx=>by
     obtain⟨p,_,rfl⟩:=List.mem_map.mp (pm.mem_iff.mp hx)
     exact⟨p,rfl⟩
    obtain⟨rs,e⟩:∃ rs:List (Int×Bool),qs=rs.map (fun p=>(p.1,wS p.2)):=by
     clear pm pw
     induction qs with
     | nil=>exact⟨[],rfl⟩
     | cons x qs ih =>
      obtain⟨rs,rfl⟩:=ih fun y hy=>hm y (List.mem_cons_of_mem _ hy)
      obtain⟨p,rfl⟩:=hm x List.mem_cons_self
      exact⟨p::rs,rfl⟩
    exact⟨rs,e,by rw [<-e];exact pm⟩
   obtain⟨rs,e,pp⟩:=this
   refine⟨rs,e,?_⟩
   have:=pp.map fun x:Int×Str=>(x.1,decide (x.2=SI))
   rw [List.map_map,List.map_map] at this
   have ee:∀ l:List (Int×Bool),l.map ((fun x:Int×Str=>(x.1,decide (x.2=SI))) ∘ fun p:Int×Bool=>(p.1,wS p.2))=l:=fun l=>by
    conv=>rhs;rw [<-List.map_id l]
    refine List.map_congr_left fun p _=>?_
    show(p.1,decide (wS p.2=SI))=p
    rw [w_si]
   rw [ee,ee] at this
   exact this
  have up:rs.Pairwise fun a b=>a.1<=b.1:=(List.pairwise_map.mp pw).imp fun h=>le_key h
  have lr:rs.length<=12:=by rw [prm.length_eq];exact ln
  have lf:=(foldK_len rs).1
  have qq:=q1 ls rfl g rs prm up
  rw [List.map_map]
  refine forD_suf (fun ds σ=>∃(pre post:List (Int×Bool)) (u3 u4:Option W),rs=pre++post/\ds=post.map (ipD ∘ fun p=>(p.1,wS p.2))/\σ = [some (.val (.tuple (ls.map lkD))),some (.own (.lst ((foldK pre).1.map pD))),some (.val (.bool (foldK pre).2)),u3,u4,none]) ?_ ?_ ⟨[],rs,none,none,rfl,rfl,rfl⟩
  ·rintro d ds σ N ⟨pre,post,u3,u4,er,e,rfl⟩ k
   cases post with
   | nil=>cases e
   | cons p post =>
    cases e
    have fin:=fun u3 u4=>k [some (.val (.tuple (ls.map lkD))),some (.own (.lst ((foldK (pre ++ [p])).1.map pD))),some (.val (.bool (foldK (pre ++ [p])).2)),u3,u4,none] ⟨pre ++ [p],post,u3,u4,by rw [er,List.append_assoc];rfl,rfl,rfl⟩
    have lp:(foldK pre).1.length<=12:=by
     have:=(foldK_len pre).1
     rw [er,List.length_append] at lr
     omega
    have hne:=(foldK_len pre).2
    simp only [foldK_snoc] at fin
    simp only [Function.comp,ipD]
    walk_at "ds"
    obtain⟨b,z⟩:=p
    generalize foldK pre=st at fin lp hne
    obtain⟨s,t⟩:=st
    cases z with
    | false =>
     rw [if_pos rfl]
     exact fin _ _
    | true =>
     rw [if_neg (show ¬ wS true=Str.ofString "sound" by decide +kernel)]
     cases t with
     | true =>
      have:=fin (some (.val (.int b))) (some (.val (.str SI)))
      simp only [stepK] at this
      walk_at "ds"
      rw [List.length_map]
      refine⟨by show s.length<_;have:s.length<=12:=lp;omega,?_⟩
      simpa [pD] using this
     | false =>
      obtain⟨u,r,es⟩:∃ u r,s=u ++ [r]:=by
       rcases List.eq_nil_or_concat s with e | ⟨u,r,e⟩
       ·exact absurd e (hne rfl)
       ·exact⟨u,r,by rw [e,List.concat_eq_append]⟩
      subst es
      have:=fin (some (.val (.int b))) (some (.val (.str SI)))
      simp only [stepK] at this
      walk_at "ds"
      rw [List.map_append,List.map_cons,List.map_nil]
      refine⟨_,atI_end _ _,?_⟩
      simp only [pD]
      walk_at "ds"
      refine⟨_,atI_zero _ _,_,ixN_last _ _,?_⟩
      rw [set_end]
      simpa [pD] using this
  ·rintro σ ⟨pre,post,u3,u4,er,e,rfl⟩
   cases post with
   | cons p post=>cases e
   | nil =>
    rw [List.append_nil] at er
    subst er
    walk_at "ds"
    refine⟨(foldK rs).1,_,rfl,by omega,ok,fun z=>absurd z (by rw [c];decide),fun ls' e' g'=>?_⟩
    have el:ls'=ls:=by
     have e':ls.map lkD=ls'.map lkD:=by simpa using e'
     exact(map_inj lkD_inj e').symm
    subst el
    walk_at "ds"
    cases z:ls'.all fun p=>silL (foldK rs).1 p.1 == p.2 with
    | true =>
     rw [z] at qq
     simpa using qq
    | false =>
     rw [z] at qq
     simpa using qq
end
section
variable {P:Program}{w:World}{K:PySem.W.Frag}{mg:Str->Option Value}{base:Heap}{f:Addr}{fd:FuncData}
def encM(mk:List (Int×Bool)):List (Key×D):=mk.map fun p=>(Sum.inl p.1,PyData.str (wS p.2))
structure MkOk(mk pre:List (Int×Bool)):Prop where
 nd:(mk.map (·.1)).Nodup
 mm:∀ p,p∈mk↔p∈pre
 ln:mk.length<=pre.length
theorem getK_enc(b:Int):∀ mk:List (Int×Bool),getK (encM mk) (.inl b)=(mk.find? fun p=>decide (p.1=b)).map fun p=>PyData.str (wS p.2)
 | []=>rfl
 | p::mk=>by
  have ih:=getK_enc b mk
  unfold getK encM at ih ⊢
  rw [List.map_cons,List.find?_cons,List.find?_cons]
  by_cases e:p.1=b
  ·subst e
   simp
  ·have:¬ (Sum.inl p.1:Key)=Sum.inl b:=fun h=>e (by cases h;rfl)
   simp only [this,e,decide_false]
   exact ih
theorem find_none{b:Int}{mk:List (Int×Bool)}(h:∀ z,(b,z)∉mk):mk.find? (fun p=>decide (p.1=b))=none:=by
 rw [List.find?_eq_none]
 intro p hp e
 have e:=of_decide_eq_true e
 subst e
 exact h p.2 hp
theorem find_some{b:Int}{z:Bool}:∀{mk:List (Int×Bool)},(mk.map (·.1)).Nodup->(b,z)∈mk->mk.find? (fun p=>decide (p.1=b))=some (b,z)
 | [],_,h=>by cases h
 | p::mk,nd,h=>by
  rw [List.map_cons,List.nodup_cons] at nd
  rw [List.find?_cons]
  by_cases e:p.1=b
  ·rcases List.mem_cons.mp h with h | h
   ·subst h;simp
   ·exact absurd (List.mem_map.mpr ⟨(b,z),h,e.symm⟩) nd.1
  ·rw [decide_eq_false e]
   rcases List.mem_cons.mp h with h | h
   ·subst h;exact absurd rfl e
   ·exact find_some nd.2 h
theorem setK_new{b:Int}{z:Bool}{mk:List (Int×Bool)}(h:∀ z,(b,z)∉mk):setK (encM mk) (.inl b) (.str (wS z))=encM (mk ++ [(b,z)]):=by
 unfold setK
 rw [if_neg]
 ·unfold encM;rw [List.map_append];rfl
 ·intro hh
  rw [List.any_eq_true] at hh
  obtain⟨kv,hk,e⟩:=hh
  obtain⟨p,hp,rfl⟩:=List.mem_map.mp hk
  have e:=of_decide_eq_true e
  have:p.1=b:=by cases e;rfl
  subst this
  exact h p.2 hp
theorem setK_old{b:Int}{z:Bool}{mk:List (Int×Bool)}(nd:(mk.map (·.1)).Nodup)(h:(b,z)∈mk):setK (encM mk) (.inl b) (.str (wS z))=encM mk:=by
 unfold setK
 rw [if_pos]
 ·conv=>rhs;rw [<-List.map_id (encM mk)]
  refine List.map_congr_left fun kv hk=>?_
  obtain⟨p,hp,rfl⟩:=List.mem_map.mp hk
  split
  ·next e =>
   have:p.1=b:=by cases e;rfl
   have h1:=find_some (b:=p.1) (z:=p.2) nd hp
   rw [this] at h1
   rw [find_some nd h] at h1
   have:z=p.2:=by cases h1;rfl
   rw [this]
   rfl
  ·rfl
 ·rw [List.any_eq_true]
  exact⟨(Sum.inl b,.str (wS z)),List.mem_map.mpr ⟨(b,z),h,rfl⟩,by simp⟩
theorem fold_uniq{ls rs rs':List (Int×Bool)}(co:Cons ls)(p:rs.Perm ls)(p':rs'.Perm ls)(u:rs.Pairwise fun a b=>a.1<=b.1)(u':rs'.Pairwise fun a b=>a.1<=b.1):foldK rs=foldK rs':=by
 have c1:Cons rs:=fun a ha b hb=>co a (p.mem_iff.mp ha) b (p.mem_iff.mp hb)
 have c2:Cons rs':=fun a ha b hb=>co a (p'.mem_iff.mp ha) b (p'.mem_iff.mp hb)
 obtain⟨ds,d1,d2,d3⟩:=dd_ex u c1
 obtain⟨es,e1,e2,e3⟩:=dd_ex u' c2
 have hm:∀ q,q∈ds↔q∈es:=fun q=>by rw [d2,e2,p.mem_iff,p'.mem_iff]
 have h1:ds.map (·.1)=es.map (·.1):=up_uniq (List.pairwise_map.mpr d1) (List.pairwise_map.mpr e1) fun b=>by
  rw [List.mem_map,List.mem_map]
  exact⟨fun⟨q,h,e⟩=>⟨q,(hm q).mp h,e⟩,fun⟨q,h,e⟩=>⟨q,(hm q).mpr h,e⟩⟩
 have:ds=es:=by
  refine List.ext_getElem (by have:=congrArg List.length h1;simpa using this) fun i i1 i2=>?_
  have e:ds[i].1=es[i].1:=by
   have:=List.getElem_of_eq h1 (by simpa using i1)
   simpa using this
  have m1:ds[i]∈rs:=(d2 _).mp (List.getElem_mem i1)
  have m2:es[i]∈rs:=(d2 _).mp ((hm _).mpr (List.getElem_mem i2))
  exact c1 _ m1 _ m2 e
 rw [<-d3,<-e3,this]
def sp__law_due:DSp:=fun ws Q=>∃ ls rs:List (Int×Bool),ws = [.val (.tuple (ls.map lkD))]/\Gk ls/\rs.Perm ls/\rs.Pairwise (fun a b=>a.1<=b.1)/\(¬ Cons ls->Q (.val .none))/\(Cons ls->Q (.val (.tuple ((foldK rs).1.map pD))))
theorem ok__law_due(B:Blt mg)(F:Fun K "_law_due" "_law_due" s__law_due f fd):FnOk P w K mg base CX0 1 f fd ["_law_looks_here"] (cnSp K sp__law_due):=by
 refine F.dok sc__law_due (fun ws Q h=>?_) (fun cdv A outer s H ws Q E hr h=>?_)
 ·obtain⟨ls,rs,rfl,_⟩:=h
  rfl
 obtain⟨ls,rs,rfl,g,prm,up,q0,q1⟩:=h
 have ln:=g.ln
 refine⟨_,(dss_cons (ds_setD (i:=1) sc__law_due.nd rfl (Or.inl rfl)) (dss_cons (ds_for PassesOwn.never rfl (di_seq (de_var 0)) (dg_seq (n:=2) rfl (dgs_cons (dg_name (i:=2) sc__law_due.nd rfl (Or.inl rfl)) (dgs_cons (dg_name (i:=3) sc__law_due.nd rfl (Or.inl rfl)) dgs_nil))) (dss_cons (ds_if (dt_cmp (o_ne hr) (DE.dv (de_get2 1 hr (de_var 2) (de_var 3))) (dv_own 3) (nomark _)) (dss_one (ds_ret de_non)) dss_nil) (dss_one (ds_putW 1 hr (de_var 2) (de_var 3))))) (dss_cons (ds_setO (i:=4) sc__law_due.nd rfl (Or.inl rfl) (df_lst da_nil)) (dss_cons (ds_set (i:=5) sc__law_due.nd rfl (Or.inl rfl) de_bl) (dss_cons (ds_for PassesOwn.never rfl (di_seq (DF.de (df_callB c_sortS rfl B.sorted boot_sorted (dav_cons (DE.dv (DF.de (df_listK 1 rfl B.listT rfl))) dav_nil)))) (dg_name (i:=2) sc__law_due.nd rfl (Or.inl rfl)) (dss_cons (ds_if (DWt.dt (dw_and (dt_cmp (o_eq hr) (DE.dv (de_getD 1 hr (de_var 2))) (DE.dv de_str) (nomark _)) (dw_and1 (dt_tru (dv_own 5))))) (dss_one (ds_putI 4 (de_tup (da_cons (de_ix (DE.dv (de_ix (dv_own 4) (de_neg de_int) (fun _ _=>rfl))) de_int (fun _ _=>rfl)) (da_cons (de_op o_add (dv_own 2) (DE.dv de_int)) da_nil))) (de_neg de_int))) (dss_one (ds_if (dt_cmp (o_eq hr) (DE.dv (de_getD 1 hr (de_var 2))) (DE.dv de_str) (nomark _)) (dss_one (ds_append 4 (de_tup (da_cons (de_var 2) (da_cons (de_op o_add (dv_own 2) (DE.dv de_int)) da_nil))))) dss_nil))) (dss_one (ds_set (i:=5) sc__law_due.nd rfl (Or.inl rfl) (de_cmp (o_eq hr) (DE.dv (de_getD 1 hr (de_var 2))) (DE.dv de_str) (nomark _)))))) (dss_one (ds_ret (de_callTy c_tuple rfl B.tupleT boot_tuple (dav_cons (dv_own 4) dav_nil))))))))),?_⟩
 refine dseq_by (fun σ=>σ = [some (.val (.tuple (ls.map lkD))),some (.own (.dct [])),none,none,none,none]) (fun N hN=>?_) ?_
 ·walk_at "ds"
  exact hN _ rfl
 rintro σ rfl
 refine dseq_by (fun σ=>∃(mk:List (Int×Bool)) (u2 u3:Option W),MkOk mk ls/\σ = [some (.val (.tuple (ls.map lkD))),some (.own (.dct (encM mk))),u2,u3,none,none]) (fun N hN=>?_) ?_
 ·walk_at "ds"
  refine forD_suf (fun ds σ=>∃(pre post mk:List (Int×Bool)) (u2 u3:Option W),ls=pre++post/\ds=post.map lkD/\MkOk mk pre/\σ = [some (.val (.tuple (ls.map lkD))),some (.own (.dct (encM mk))),u2,u3,none,none]) ?_ ?_ ⟨[],ls,[],none,none,rfl,rfl,⟨List.nodup_nil,fun p=>Iff.rfl,Nat.le_refl _⟩,rfl⟩
  ·rintro d ds σ N2 ⟨pre,post,mk,u2,u3,el,e,ok,rfl⟩ k
   cases post with
   | nil=>cases e
   | cons p post =>
    cases e
    obtain⟨b,z⟩:=p
    simp only [lkD]
    walk_at "ds"
    have lm:mk.length<=12:=by
     have h2:=ok.ln
     rw [el,List.length_append] at ln
     omega
    have fin:=fun mk' u2 u3 (ok':MkOk mk' (pre ++ [(b,z)]))=>k [some (.val (.tuple (ls.map lkD))),some (.own (.dct (encM mk'))),u2,u3,none,none] ⟨pre ++ [(b,z)],post,mk',u2,u3,by rw [el,List.append_assoc];rfl,rfl,ok',rfl⟩
    rw [getK_enc]
    by_cases h1:(b,z)∈mk
    ·rw [find_some ok.nd h1]
     simp only [Option.map_some,Option.getD_some,onB,decide_true,Bool.not_true]
     rw [if_neg (by decide),setK_old ok.nd h1]
     refine⟨by unfold encM;rw [List.length_map];omega,fin _ _ _ ⟨ok.nd,fun p=>?_,by have:=ok.ln;rw [List.length_append];omega⟩⟩
     rw [ok.mm,List.mem_append,List.mem_singleton]
     exact⟨.inl,fun h=>h.elim id fun e=>by subst e;exact(ok.mm _).mp h1⟩
    ·by_cases h2:(b,!z)∈mk
     ·rw [find_some ok.nd h2]
      have:decide (wS (!z)=wS z)=false:=by cases z <;> decide +kernel
      simp only [Option.map_some,Option.getD_some,onB,this,Bool.not_false]
      rw [if_pos trivial]
      refine q0 fun co=>?_
      have m1:(b,!z)∈ls:=by rw [el];exact List.mem_append_left _ ((ok.mm _).mp h2)
      have m2:(b,z)∈ls:=by rw [el];simp
      have:=co _ m1 _ m2 rfl
      cases z <;> simp at this
     ·have h3:∀ y,(b,y)∉mk:=fun y=>by
       by_cases e:y=z
       ·rw [e];exact h1
       ·have:y = !z:=by cases y <;> cases z <;> simp_all
        rw [this];exact h2
      rw [find_none h3]
      simp only [Option.map_none,Option.getD_none,onB,decide_true,Bool.not_true]
      rw [if_neg (by decide),setK_new h3]
      refine⟨by unfold encM;rw [List.length_map];omega,fin _ _ _ ⟨?_,fun p=>?_,by have:=ok.ln;rw [List.length_append,List.length_append];simp only [List.length_cons,List.length_nil];omega⟩⟩
      ·rw [List.map_append,List.nodup_append]
       refine⟨ok.nd,by simp,fun a ha c hc=>?_⟩
       obtain⟨p,hp,rfl⟩:=List.mem_map.mp ha
       have:c=b:=by simpa using hc
       subst this
       intro e
       exact h3 p.2 (by rw [<-e];exact hp)
      ·rw [List.mem_append,List.mem_append,ok.mm]
  ·rintro σ ⟨pre,post,mk,u2,u3,el,e,ok,rfl⟩
   cases post with
   | cons p post=>cases e
   | nil =>
    rw [List.append_nil] at el
    subst el
    exact hN _ ⟨mk,u2,u3,ok,rfl⟩
 rintro σ ⟨mk,u2,u3,ok,rfl⟩
 have co:Cons ls:=fun a ha b hb e=>by
  have ma:=(ok.mm a).mpr ha
  have mb:=(ok.mm b).mpr hb
  have h1:=find_some (b:=a.1) (z:=a.2) ok.nd ma
  have h2:=find_some (b:=b.1) (z:=b.2) ok.nd mb
  rw [<-e,h1] at h2
  have:=Option.some.inj h2
  have h3:=(Prod.mk.inj this).2
  obtain⟨a1,a2⟩:=a
  obtain⟨b1,b2⟩:=b
  simp only at e h3
  rw [e,h3]
 have lm:mk.length<=12:=by
  have h2:=ok.ln
  omega
 have cr:Cons rs:=fun a ha b hb=>co a (prm.mem_iff.mp ha) b (prm.mem_iff.mp hb)
 obtain⟨ks,eks⟩:∃ ks,ks=sortZ (mk.map (·.1)):=⟨_,rfl⟩
 have pk:ks.Perm (mk.map (·.1)):=by rw [eks];exact sortZ_perm _
 have uk:ks.Pairwise (· < ·):=by
  have h1:ks.Pairwise (· <= ·):=by rw [eks];exact sortZ_le _
  have h2:ks.Nodup:=pk.nodup_iff.mpr ok.nd
  exact(h1.and h2).imp fun⟨a,b⟩=>by omega
 have lk:ks.length<=12:=by rw [pk.length_eq,List.length_map];exact lm
 obtain⟨f,ef⟩:∃ f:Int->Bool,f=fun b=>((mk.find? fun p=>decide (p.1=b)).map (·.2)).getD false:=⟨_,rfl⟩
 have hf:∀ p∈mk,f p.1=p.2:=fun p hp=>by
  rw [ef]
  simp only [find_some (b:=p.1) (z:=p.2) ok.nd hp]
  rfl
 obtain⟨fk,_,_⟩:=fold_keys up cr (fun p=>by rw [ok.mm,prm.mem_iff]) uk (fun b=>by
  rw [pk.mem_iff,List.mem_map]
  exact⟨fun⟨p,h,e⟩=>⟨p.2,by rw [<-e];exact h⟩,fun⟨z,h⟩=>⟨_,h,rfl⟩⟩) f hf
 have qq:=q1 co
 rw [<-fk] at qq
 have gk:∀ b∈ks,getK (encM mk) (.inl b)=some (.str (wS (f b))):=fun b hb=>by
  obtain⟨p,hp,rfl⟩:=List.mem_map.mp (pk.mem_iff.mp hb)
  rw [getK_enc,find_some (b:=p.1) (z:=p.2) ok.nd hp,hf p hp]
  rfl
 walk_at "ds"
 have ek:(encM mk).map (fun p=>kD p.1)=(mk.map (·.1)).map PyData.int:=by
  unfold encM
  rw [List.map_map,List.map_map]
  rfl
 rw [ek,List.length_map,List.length_map]
 refine⟨by omega,.inl ⟨_,rfl,?_⟩⟩
 rw [<-eks]
 refine forD_suf (fun ds σ=>∃(pre post:List Int) (u2 u3:Option W),ks=pre++post/\ds=post.map PyData.int/\σ = [some (.val (.tuple (ls.map lkD))),some (.own (.dct (encM mk))),u2,u3,some (.own (.lst ((foldK (pre.map fun b=>(b,f b))).1.map pD))),some (.val (.bool (!(foldK (pre.map fun b=>(b,f b))).2)))]) ?_ ?_ ⟨[],ks,u2,u3,rfl,rfl,rfl⟩
 ·rintro d ds σ N2 ⟨pre,post,u2,u3,el,e,rfl⟩ k
  cases post with
  | nil=>cases e
  | cons b post =>
   cases e
   have fin:=fun u2 u3=>k [some (.val (.tuple (ls.map lkD))),some (.own (.dct (encM mk))),u2,u3,some (.own (.lst ((foldK ((pre ++ [b]).map fun b=>(b,f b))).1.map pD))),some (.val (.bool (!(foldK ((pre ++ [b]).map fun b=>(b,f b))).2)))] ⟨pre ++ [b],post,u2,u3,by rw [el,List.append_assoc];rfl,rfl,rfl⟩
   have gb:=gk b (by rw [el];simp)
   have lp:(foldK (pre.map fun b=>(b,f b))).1.length<=12:=by
    have:=(foldK_len (pre.map fun b=>(b,f b))).1
    rw [List.length_map] at this
    rw [el,List.length_append] at lk
    omega
   have hne:=(foldK_len (pre.map fun b=>(b,f b))).2
   simp only [List.map_append,List.map_cons,List.map_nil,foldK_snoc] at fin
   generalize foldK (pre.map fun b=>(b,f b))=st at fin lp hne
   obtain⟨s,t⟩:=st
   generalize f b=z at fin gb
   walk_at "ds"
   refine⟨_,gb,?_⟩
   cases z with
   | false =>
    have e0:decide (wS false=Str.ofString "silent")=false:=by decide +kernel
    simp only [onB,e0]
    walk_at "ds"
    refine⟨_,gb,?_⟩
    simp only [onB,e0]
    walk_at "ds"
    refine⟨_,gb,?_⟩
    simp only [e0]
    exact fin _ _
   | true =>
    have e0:decide (wS true=Str.ofString "silent")=true:=by decide +kernel
    simp only [onB,e0]
    walk_at "ds"
    cases t with
    | true =>
     have:=fun u3=>fin (some (.val (.int b))) u3
     simp only [stepK] at this
     walk_at "ds"
     refine⟨_,gb,?_⟩
     simp only [onB,e0]
     walk_at "ds"
     rw [List.length_map]
     refine⟨by show s.length<_;have:s.length<=12:=lp;omega,_,gb,?_⟩
     simp only [e0]
     simpa [pD] using this _
    | false =>
     obtain⟨u,r,es⟩:∃ u r,s=u ++ [r]:=by
      rcases List.eq_nil_or_concat s with e | ⟨u,r,e⟩
      ·exact absurd e (hne rfl)
      ·exact⟨u,r,by rw [e,List.concat_eq_append]⟩
     subst es
     have:=fun u3=>fin (some (.val (.int b))) u3
     simp only [stepK] at this
     walk_at "ds"
     rw [List.map_append,List.map_cons,List.map_nil]
     refine⟨_,atI_end _ _,?_⟩
     simp only [pD]
     walk_at "ds"
     refine⟨_,atI_zero _ _,_,ixN_last _ _,_,gb,?_⟩
     simp only [e0]
     rw [set_end]
     simpa [pD] using this _
 ·rintro σ ⟨pre,post,u2,u3,el,e,rfl⟩
  cases post with
  | cons p post=>cases e
  | nil =>
   rw [List.append_nil] at el
   subst el
   walk_at "ds"
   exact qq
end
section
variable {P:Program}{w:World}{K:PySem.W.Frag}{mg:Str->Option Value}{base:Heap}{f:Addr}{fd:FuncData}
theorem eqv_cons{x:D}{xs:List D}:PyData.eqv (.list (x::xs)) (.list [])=false:=by simp [PyData.eqv,PyData.eqvAll]
def wordX:Str->Str:=fun c=>if c = "NoBeat" then "beat" else if c = "NoStep" then "step" else if c = "NoNumber" then "number" else if c = "NoLine" then "line" else if c = "NoStory" then "story" else if c = "NoText" then "text" else if c = "TooGreat" then "great" else ""
def sp__law_refusal:DSp:=fun ws Q=>∃ c:Str,ws = [.exc (c,[])]/\c∈(["NoStep"]:List Str)/\Q (.val (.tuple [.str (wordX c)]))
theorem ones_of(b:Int):∀ s:List (Int×Int),∃ ns:List Int,s.filterMap (fun r=>if r.1<=b/\b<r.2 then some (PyData.int 1) else none)=ns.map PyData.int/\silL s b = !ns.isEmpty
 | []=>⟨[],rfl,rfl⟩
 | r::s=>by
  obtain⟨ns,e1,e2⟩:=ones_of b s
  rw [List.filterMap_cons]
  unfold silL at *
  rw [List.any_cons]
  by_cases c:r.1<=b/\b<r.2
  ·rw [if_pos c,decide_eq_true c]
   exact⟨1::ns,by simp [e1],rfl⟩
  ·rw [if_neg c,decide_eq_false c]
   exact⟨ns,by simpa using e1,by simpa using e2⟩
def sp__law_is_silent:DSp:=fun ws Q=>∃(s:List (Int×Int)) (b:Int),ws = [.val (.tuple (s.map pD)),.val (.int b)]/\s.length<=200/\Q (.val (.bool (silL s b)))
theorem ok__law_is_silent(B:Blt mg)(F:Fun K "_law_is_silent" "_law_is_silent" s__law_is_silent f fd):FnOk P w K mg base CX0 1 f fd ["_law_story", "_law_beat"] (cnSp K sp__law_is_silent):=by
 refine F.dok sc__law_is_silent (fun ws Q h=>?_) (fun cdv A outer s H ws Q E hr h=>?_)
 ·obtain⟨s,b,rfl,_⟩:=h
  rfl
 obtain⟨s,b,rfl,hl,q⟩:=h
 refine⟨_,(dss_one (ds_ret (de_cmp (o_ne hr) (DE.dv (DF.de (df_lc rfl (N':=["_law_begin", "_law_end", "_law_beat"]) (capt:=["_law_beat"]) (k:=2) (js:=[1]) ⟨rfl,by decide,rfl,by decide,(.cons rfl .nil),rfl,(.cons rfl (Or.inl rfl) rfl (Or.inl rfl) .nil),rfl,by decide⟩ (diw_seq (dv_own 0)) (fun _ _ _ _=>(dg_seq (n:=2) rfl (dgs_cons (dg_name (i:=0) (show List.Nodup (["_law_begin", "_law_end", "_law_beat"]:List Str) by decide +kernel) rfl (Or.inl rfl) (Or.inr rfl)) (dgs_cons (dg_name (i:=1) (show List.Nodup (["_law_begin", "_law_end", "_law_beat"]:List Str) by decide +kernel) rfl (Or.inl rfl) (Or.inr rfl)) dgs_nil)))) (fun _ _ _ _=>(dts_one (DWt.dt (dw_and (dt_cmp o_le (dv_own 0) (dv_own 2) (nomark _)) (dw_and1 (dt_cmp o_lt (dv_own 2) (dv_own 1) (nomark _))))))) (fun _ _ _ _=>de_int)))) (DE.dv (DF.de (df_lst da_nil))) (nomark _)))),?_⟩
 walk_at "ds"
 rw [List.length_map]
 refine⟨by omega,lcD_fmT pD (fun r=>if r.1<=b/\b<r.2 then some (.int 1) else none) (fun r hr k hk=>?_) ?_⟩
 ·simp only [pD]
  walk_at "ds"
  by_cases c1:r.1<=b
  ·rw [if_pos c1]
   by_cases c2:b<r.2
   ·rw [if_pos c2];rw [if_pos ⟨c1,c2⟩] at hk;exact hk
   ·rw [if_neg c2];rw [if_neg (by omega)] at hk;exact hk
  ·rw [if_neg c1];rw [if_neg (by omega)] at hk;exact hk
 ·obtain⟨ns,e1,e2⟩:=ones_of b s
  rw [e1]
  refine⟨lay_ints ns,lay_ints [],?_⟩
  rw [e2] at q
  cases ns with
  | nil=>exact q
  | cons n ns=>rw [List.map_cons,eqv_cons];exact q
def sp__law_told:DSp:=fun ws Q=>∃ d:D,ws = [.val d]/\LksOk d/\(lksB d=false->Q (.val (.tuple [.str "step"])))/\∀ ls,d=.tuple (ls.map lkD)->Gk ls->∀ rs:List (Int×Bool),rs.Perm ls->rs.Pairwise (fun a b=>a.1<=b.1)->Q (.val (if (ls.all fun p=>silL (foldK rs).1 p.1 == p.2)=true then .tuple ((foldK rs).1.map pD) else .none))
theorem ok__law_told(B:Blt mg)(F:Fun K "_law_told" "_law_told" s__law_told f fd)(XF:Xf K mg)(C_story_for:CalleeX P w K mg base 6 "story_for" ["looks"] (cnSpX K sp_story_for))(C__law_refusal:CalleeH P w K mg base 1 "_law_refusal" ["_law_e"] (cnSp K sp__law_refusal)):FnOk P w K mg base CX0 7 f fd ["_law_looks_here"] (cnSp K sp__law_told):=by
 refine F.dok sc__law_told (fun ws Q h=>?_) (fun cdv A outer s H ws Q E hr h=>?_)
 ·obtain⟨d,rfl,_⟩:=h
  rfl
 obtain⟨d,rfl,ok,q0,q1⟩:=h
 obtain⟨ck,mk,kk⟩:=XF.kn;refine⟨_,(dss_one (ds_try (i:=1) (kn := "KnockError") C_story_for C__law_refusal hr mk kk sc__law_told.nd rfl rfl rfl rfl rfl rfl rfl (dp_vw 0 dp_nil))),?_⟩
 walk_at "ds"
 refine⟨d,rfl,ok,fun z=>?_,q1⟩
 exact⟨List.mem_cons_self,_,rfl,List.mem_cons_self,q0 z⟩
def sp__law_good:DSp:=fun ws Q=>∃ d:D,ws = [.val d]/\LksOk d/\Q (.val (.bool (lksB d)))
theorem ok__law_good(B:Blt mg)(F:Fun K "_law_good" "_law_good" s__law_good f fd)(C__law_whole:Cal P w K mg base 1 "_law_whole" ["_law_found"] (cnSp K sp__law_whole)):FnOk P w K mg base CX0 2 f fd ["_law_thing"] (cnSp K sp__law_good):=by
 refine F.dok sc__law_good (fun ws Q h=>?_) (fun cdv A outer s H ws Q E hr h=>?_)
 ·obtain⟨d,rfl,_⟩:=h
  rfl
 obtain⟨d,rfl,ok,q⟩:=h
 refine⟨_,(dss_cons (ds_if (DWt.dt (dw_or (dt_not (dt_tru (DE.dv (de_isT (n := "tuple") k_tuple rfl B.isinstance boot_isinstance (dv_own 0) rfl B.tupleT boot_tuple)))) (dw_or1 (dt_cmp o_gt (DE.dv (de_callB c_len rfl B.len PySem.boot_len (dav_cons (dv_own 0) dav_nil))) (DE.dv de_int) (nomark _))))) (dss_one (ds_ret de_bl)) dss_nil) (dss_cons (ds_for PassesOwn.never rfl (di_seq (de_var 0)) (dg_name (i:=1) sc__law_good.nd rfl (Or.inl rfl)) (dss_cons (ds_if (DWt.dt (dw_or (dt_not (dt_tru (DE.dv (de_isT (n := "tuple") k_tuple rfl B.isinstance boot_isinstance (dv_own 1) rfl B.tupleT boot_tuple)))) (dw_or (dt_cmp (o_ne hr) (DE.dv (de_callB c_len rfl B.len PySem.boot_len (dav_cons (dv_own 1) dav_nil))) (DE.dv de_int) (nomark _)) (dw_or (dt_not (dt_tru (DE.dv (de_call C__law_whole hr rfl (dp_val (de_ix (dv_own 1) de_int (fun _ _=>rfl)) dp_nil))))) (dw_or1 (dt_not (dt_chain o_le o_lt (DE.dv de_int) (DE.dv (de_ix (dv_own 1) de_int (fun _ _=>rfl))) (DE.dv de_int)))))))) (dss_one (ds_ret de_bl)) dss_nil) (dss_one (ds_if (DWt.dt (dw_or (dt_not (dt_tru (DE.dv (de_isT (n := "str") k_str rfl B.isinstance boot_isinstance (DE.dv (de_ix (dv_own 1) de_int (fun _ _=>rfl))) rfl B.strT boot_str)))) (dw_or1 (dt_cmp (o_notIn hr) (DE.dv (de_ix (dv_own 1) de_int (fun _ _=>rfl))) (DE.dv (de_tup (da_cons de_str (da_cons de_str da_nil sE_C) sE_C))) rfl)))) (dss_one (ds_ret de_bl)) dss_nil)))) (dss_one (ds_ret de_bl)))),?_⟩
 cases d with
 | tuple xs =>
  walk_at "ds"
  replace q:Q (Ret.val (PyData.bool (decide (xs.length<=12) && xs.all lkB))):=q
  split
  ·next c =>
   rw [decide_eq_false (by omega)] at q
   exact q
  ·next c =>
   rw [decide_eq_true (by omega),Bool.true_and] at q
   have hx:=ok xs rfl (by omega)
   refine forD_suf (fun ds σ=>∃ u:Option W,(∀ x∈ds,LkOk x)/\xs.all lkB=ds.all lkB/\σ = [some (.val (.tuple xs)),u]) ?_ ?_ ⟨none,hx,rfl,rfl⟩
   ·rintro d ds σ N ⟨u,hd,e,rfl⟩ k
    rw [List.all_cons] at e
    have ho:=hd d List.mem_cons_self
    walk_at "ds"
    have no:lkB d=false->Q (Ret.val (PyData.bool false)):=fun z=>by
     rw [e,z] at q
     exact q
    have go:lkB d=true->N [some (.val (.tuple xs)),some (.val d)]:=fun z=>k _ ⟨_,fun x hx=>hd x (List.mem_cons_of_mem _ hx),by rw [e,z];rfl,rfl⟩
    cases d with
    | tuple ys =>
     match ys,ho,no,go with
     | [],ho,no,go=>walk_at "ds";exact no rfl
     | [a],ho,no,go =>
      walk_at "ds"
      rw [if_pos (by decide)]
      exact no rfl
     | a::b::c::r,ho,no,go =>
      walk_at "ds"
      rw [if_pos (by omega)]
      exact no rfl
     | [a,b],ho,no,go =>
      walk_at "ds"
      rw [if_neg (by decide)]
      refine⟨_,atI_zero _ _,a,rfl,?_⟩
      cases a with
      | int i =>
       walk_at "ds"
       refine⟨_,atI_zero _ _,?_⟩
       walk_at "ds"
       have nn:¬ (0<=i/\i<=999999)->Q (Ret.val (PyData.bool false)):=fun z=>no (by
        show(inB 0 999999 (.int i) && wdB b)=false
        have:inB 0 999999 (.int i)=false:=by simp only [inB];exact decide_eq_false z
        rw [this];rfl)
       by_cases c1:0<=i
       ·rw [if_pos c1]
        by_cases c2:i<1000000
        ·have go':wdB b=true->_:=fun z=>go (by
          show(inB 0 999999 (.int i) && wdB b)=true
          rw [z,Bool.and_true]
          simp only [inB,decide_eq_true_eq]
          omega)
         have no':wdB b=false->_:=fun z=>no (by
          show(inB 0 999999 (.int i) && wdB b)=false
          rw [z,Bool.and_false])
         rw [if_neg (by omega)]
         walk_at "ds"
         refine⟨_,atI_one _ _ _,?_⟩
         rcases ho i b rfl with⟨x,rfl,hx⟩ | rfl | ⟨j,rfl,hj⟩
         ·walk_at "ds"
          refine⟨_,atI_one _ _ _,lay_tx hx,lay_ws,?_⟩
          rw [inD_str]
          cases z:wdB (.str x) with
          | true=>simpa using go' z
          | false=>simpa using no' z
         ·walk_at "ds"
          exact no' rfl
         ·walk_at "ds"
          exact no' rfl
        ·rw [if_pos (by omega)]
         walk_at "ds"
         exact nn (by omega)
       ·rw [if_neg c1]
        exact nn (by omega)
      | _=>walk_at "ds";exact no rfl
    | _=>walk_at "ds";exact no rfl
   ·rintro σ ⟨u,hd,e,rfl⟩
    walk_at "ds"
    rw [e] at q
    exact q
 | _=>walk_at "ds";exact q
end
section
variable {P:Program}{w:World}{K:PySem.W.Frag}{mg:Str->Option Value}{base:Heap}{f:Addr}{fd:FuncData}
def sp__law_small:DSp:=fun ws Q=>ws = [.pen]/\∀(base:Int) (s:List (Int×Int)),0<=base->base<=999900->s.length<=8->Q (.val (.tuple [.int base,.tuple (s.map pD)]))
theorem ok__law_small(B:Blt mg)(F:Fun K "_law_small" "_law_small" s__law_small f fd)(C__law_draw:Cal P w K mg base 2 "_law_draw" ["_law_pen", "_law_many"] (cnSp K sp__law_draw)):FnOk P w K mg base CX0 3 f fd ["_law_pen"] (cnSp K sp__law_small):=by
 refine F.dok sc__law_small (fun ws Q h=>?_) (fun cdv A outer s H ws Q E hr h=>?_)
 ·obtain⟨rfl,_⟩:=h
  rfl
 obtain⟨rfl,q⟩:=h
 refine⟨_,(dss_cons (ds_par (i:=1) (j:=2) rfl sc__law_small.nd rfl rfl (by decide) rfl rfl (da_cons (de_ix (DE.dv (DF.de (df_lst (da_cons de_int (da_cons de_int (da_cons de_int (da_cons de_int da_nil sE_C) sE_C) sE_C) sE_C)))) (de_call C__law_draw hr rfl (dp_vw 0 (dp_val de_int dp_nil sE_C))) (fun _ _=>rfl)) (da_cons de_int da_nil sE_C)) rfl) (dss_cons (ds_setO (i:=3) sc__law_small.nd rfl (Or.inl rfl) (df_lst da_nil)) (dss_cons (ds_for PassesOwn.never rfl (di_range1 rfl B.range (da_cons (de_call C__law_draw hr rfl (dp_vw 0 (dp_val de_int dp_nil sE_C))) da_nil)) (dg_name (i:=4) sc__law_small.nd rfl (Or.inl rfl)) (dss_cons (ds_set (i:=5) sc__law_small.nd rfl (Or.inl rfl) (de_op o_add (dv_own 2) (DE.dv (de_call C__law_draw hr rfl (dp_vw 0 (dp_val de_int dp_nil sE_C)))))) (dss_cons (ds_set (i:=2) sc__law_small.nd rfl (Or.inl rfl) (de_op o_add (DE.dv (de_op o_add (dv_own 5) (DE.dv de_int))) (DE.dv (de_call C__law_draw hr rfl (dp_vw 0 (dp_val de_int dp_nil sE_C)))))) (dss_one (ds_append 3 (de_tup (da_cons (de_op o_add (dv_own 1) (dv_own 5)) (da_cons (de_op o_sub (DE.dv (de_op o_add (dv_own 1) (dv_own 2))) (DE.dv de_int)) da_nil)))))))) (dss_one (ds_ret (de_tup (da_cons (de_var 1) (da_cons (de_callTy c_tuple rfl B.tupleT boot_tuple (dav_cons (dv_own 3) dav_nil)) da_nil)))))))),?_⟩
 refine dseq_by (fun σ=>∃ base:Int,0<=base/\base<=999900/\σ = [some .pen,some (.val (.int base)),some (.val (.int 0)),none,none,none]) (fun N hN=>?_) ?_
 ·walk_at "ds"
  refine drawI (by first | decide | omega) (by first | decide | omega) fun a la ha=>?_
  walk_at "ds"
  refine pickD la (by simp only [List.length_cons,List.length_nil];omega) fun d hd=>?_
  simp only [List.mem_cons,List.not_mem_nil,or_false] at hd
  rcases hd with rfl | rfl | rfl | rfl <;> exact hN _ ⟨_,by decide,by decide,rfl⟩
 rintro σ ⟨base,b0,b1,rfl⟩
 walk_at "ds"
 refine drawI (by first | decide | omega) (by first | decide | omega) fun m lm hm=>?_
 walk_at "ds"
 refine⟨by omega,?_⟩
 refine forD_suf (fun ds σ=>∃(s:List (Int×Int)) (h:Int) (u4 u5:Option W),s.length+ds.length<=8/\σ = [some .pen,some (.val (.int base)),some (.val (.int h)),some (.own (.lst (s.map pD))),u4,u5]) ?_ ?_ ⟨[],0,none,none,by rw [rangeD_len];simp only [List.length_nil];omega,rfl⟩
 ·rintro d ds σ N ⟨s,h,u4,u5,hl,rfl⟩ k
  rw [List.length_cons] at hl
  walk_at "ds"
  refine drawI (by first | decide | omega) (by first | decide | omega) fun x lx hx=>?_
  walk_at "ds"
  refine drawI (by first | decide | omega) (by first | decide | omega) fun y ly hy=>?_
  walk_at "ds"
  rw [List.length_map]
  refine⟨by omega,k _ ⟨s ++ [(base+(h+x),base+(h+x+2+y)-1)],h+x+2+y,_,_,by rw [List.length_append,List.length_singleton];omega,(by rw [List.map_append];rfl)⟩⟩
 ·rintro σ ⟨s,h,u4,u5,hl,rfl⟩
  walk_at "ds"
  exact q base s b0 b1 (by simpa using hl)
def Lw(ls:List (Int×Bool)):Prop:=ls.length<=12/\∀ p∈ls,0<=p.1/\p.1<=2000000
theorem sh_lk{p:Int×Bool}(h:0<=p.1/\p.1<=2000000):Sh (lkD p) 200 1:=(Sh.tup (n:=41) (k:=0) (m:=2) (mem_two (Sh.intB (by omega) (by omega)) (mem_two (by cases p.2 <;> exact⟨by decide +kernel,by decide +kernel,by decide +kernel,by decide +kernel⟩) mem_no)) (Nat.le_refl 2)).mono (by decide) (by decide)
theorem lay_lks{ls:List (Int×Bool)}(h:Lw ls):Lay (.list (ls.map lkD))/\Lay (.tuple (ls.map lkD)):=by
 have:∀ d∈ls.map lkD,Sh d 200 1:=fun d hd=>by
  obtain⟨p,hp,rfl⟩:=List.mem_map.mp hd
  exact sh_lk (h.2 p hp)
 exact⟨(Sh.lst (n:=200) (k:=1) (m:=12) this (by rw [List.length_map];exact h.1)).lay (by decide),(Sh.tup (n:=200) (k:=1) (m:=12) this (by rw [List.length_map];exact h.1)).lay (by decide)⟩
theorem lay_no:Lay (.list []):=(Sh.lst (n:=1) (k:=0) (m:=1) mem_no (Nat.zero_le 1)).lay (by decide)
theorem lay_noT:Lay (.tuple []):=(Sh.tup (n:=1) (k:=0) (m:=1) mem_no (Nat.zero_le 1)).lay (by decide)
def sp__law_looks:DSp:=fun ws Q=>∃(base:Int) (s:List (Int×Int)),ws = [.pen,.val (.int base),.val (.tuple (s.map pD))]/\0<=base/\base<=999900/\s.length<=8/\∀ ls,Lw ls->Q (.val (.tuple (ls.map lkD)))
theorem ok__law_looks(B:Blt mg)(F:Fun K "_law_looks" "_law_looks" s__law_looks f fd)(C__law_draw:Cal P w K mg base 2 "_law_draw" ["_law_pen", "_law_many"] (cnSp K sp__law_draw))(C__law_is_silent:Cal P w K mg base 1 "_law_is_silent" ["_law_story", "_law_beat"] (cnSp K sp__law_is_silent)):FnOk P w K mg base CX0 3 f fd ["_law_pen", "_law_base", "_law_story"] (cnSp K sp__law_looks):=by
 refine F.dok sc__law_looks (fun ws Q h=>?_) (fun cdv A outer s H ws Q E hr h=>?_)
 ·obtain⟨base,s,rfl,_⟩:=h
  rfl
 obtain⟨base,s,rfl,b0,b1,hs,q⟩:=h
 refine⟨_,(dss_cons (ds_setO (i:=3) sc__law_looks.nd rfl (Or.inl rfl) (df_lst da_nil)) (dss_cons (ds_for PassesOwn.never rfl (di_range1 rfl B.range (da_cons (de_call C__law_draw hr rfl (dp_vw 0 (dp_val de_int dp_nil sE_C))) da_nil)) (dg_name (i:=4) sc__law_looks.nd rfl (Or.inl rfl)) (dss_cons (ds_set (i:=5) sc__law_looks.nd rfl (Or.inl rfl) (de_op o_add (dv_own 1) (DE.dv (de_call C__law_draw hr rfl (dp_vw 0 (dp_val de_int dp_nil sE_C)))))) (dss_one (ds_append 3 (de_tup (da_cons (de_var 5) (da_cons (de_ifExp (dt_tru (DE.dv (de_call C__law_is_silent hr rfl (dp_vw 2 (dp_vw 5 dp_nil))))) de_str de_str) da_nil))))))) (dss_cons (ds_if (DWt.dt (dw_and (dt_cmp (o_ne hr) (dv_own 3) (DE.dv (DF.de (df_lst da_nil))) (nomark _)) (dw_and1 (dt_cmp (o_eq hr) (DE.dv (de_call C__law_draw hr rfl (dp_vw 0 (dp_val de_int dp_nil sE_C)))) (DE.dv de_int) (nomark _))))) (dss_cons (ds_set (i:=6) sc__law_looks.nd rfl (Or.inl rfl) (de_call C__law_draw hr rfl (dp_vw 0 (dp_val (de_callB c_len rfl B.len PySem.boot_len (dav_cons (dv_own 3) dav_nil)) dp_nil)))) (dss_cons (ds_set (i:=7) sc__law_looks.nd rfl (Or.inl rfl) (de_ifExp (dt_cmp (o_eq hr) (DE.dv (de_ix (DE.dv (de_ix (dv_own 3) (de_var 6) (fun _ _=>rfl))) de_int (fun _ _=>rfl))) (DE.dv de_str) (nomark _)) de_str de_str)) (dss_one (ds_putI 3 (de_tup (da_cons (de_ix (DE.dv (de_ix (dv_own 3) (de_var 6) (fun _ _=>rfl))) de_int (fun _ _=>rfl)) (da_cons (de_var 7) da_nil))) (de_var 6))))) dss_nil) (dss_cons (ds_if (DWt.dt (dw_and (dt_cmp (o_ne hr) (dv_own 3) (DE.dv (DF.de (df_lst da_nil))) (nomark _)) (dw_and (dt_cmp o_lt (DE.dv (de_callB c_len rfl B.len PySem.boot_len (dav_cons (dv_own 3) dav_nil))) (DE.dv de_int) (nomark _)) (dw_and1 (dt_cmp (o_eq hr) (DE.dv (de_call C__law_draw hr rfl (dp_vw 0 (dp_val de_int dp_nil sE_C)))) (DE.dv de_int) (nomark _)))))) (dss_one (ds_insert 3 (de_call C__law_draw hr rfl (dp_vw 0 (dp_val (de_op o_add (DE.dv (de_callB c_len rfl B.len PySem.boot_len (dav_cons (dv_own 3) dav_nil))) (DE.dv de_int)) dp_nil))) (de_ix (dv_own 3) (de_call C__law_draw hr rfl (dp_vw 0 (dp_val (de_callB c_len rfl B.len PySem.boot_len (dav_cons (dv_own 3) dav_nil)) dp_nil))) (fun _ _=>rfl)))) dss_nil) (dss_one (ds_ret (de_callTy c_tuple rfl B.tupleT boot_tuple (dav_cons (dv_own 3) dav_nil)))))))),?_⟩
 refine dseq_by (fun σ=>σ = [some .pen,some (.val (.int base)),some (.val (.tuple (s.map pD))),some (.own (.lst [])),none,none,none,none]) (fun N hN=>?_) ?_
 ·walk_at "ds"
  exact hN _ rfl
 rintro σ rfl
 refine dseq_by (fun σ=>∃(ls:List (Int×Bool)) (u4 u5:Option W),Lw ls/\σ = [some .pen,some (.val (.int base)),some (.val (.tuple (s.map pD))),some (.own (.lst (ls.map lkD))),u4,u5,none,none]) (fun N hN=>?_) ?_
 ·walk_at "ds"
  refine drawI (by first | decide | omega) (by first | decide | omega) fun m lm hm=>?_
  walk_at "ds"
  refine⟨by omega,?_⟩
  refine forD_suf (fun ds σ=>∃(ls:List (Int×Bool)) (u4 u5:Option W),Lw ls/\ls.length+ds.length<=12/\σ = [some .pen,some (.val (.int base)),some (.val (.tuple (s.map pD))),some (.own (.lst (ls.map lkD))),u4,u5,none,none]) ?_ ?_ ⟨[],none,none,⟨by decide,mem_no⟩,by rw [rangeD_len];simp only [List.length_nil];omega,rfl⟩
  ·rintro d ds σ N2 ⟨ls,u4,u5,lw,hl,rfl⟩ k
   rw [List.length_cons] at hl
   walk_at "ds"
   refine drawI (by first | decide | omega) (by first | decide | omega) fun x lx hx=>?_
   walk_at "ds"
   refine⟨s,_,rfl,by omega,?_⟩
   have fin:∀ z,N2 [some .pen,some (.val (.int base)),some (.val (.tuple (s.map pD))),some (.own (.lst ((ls ++ [(base+x,z)]).map lkD))),some (.val d),some (.val (.int (base+x))),none,none]:=fun z=>k _ ⟨_,_,_,⟨by rw [List.length_append,List.length_singleton];omega,fun p hp=>by
    rcases List.mem_append.mp hp with hp | hp
    ·exact lw.2 p hp
    ·cases List.mem_singleton.mp hp
     show 0<=base+x/\base+x<=2000000
     omega⟩,by rw [List.length_append,List.length_singleton];omega,rfl⟩
   walk_at "ds"
   rw [List.length_map]
   cases c:silL s (base+x) with
   | true =>
    have:=fin true
    rw [List.map_append] at this
    exact⟨by omega,this⟩
   | false =>
    have:=fin false
    rw [List.map_append] at this
    exact⟨by omega,this⟩
  ·rintro σ ⟨ls,u4,u5,lw,hl,rfl⟩
   exact hN _ ⟨ls,u4,u5,lw,rfl⟩
 rintro σ ⟨ls,u4,u5,lw,rfl⟩
 refine dseq_by (fun σ=>∃(ls:List (Int×Bool)) (u4 u5 u6 u7:Option W),Lw ls/\σ = [some .pen,some (.val (.int base)),some (.val (.tuple (s.map pD))),some (.own (.lst (ls.map lkD))),u4,u5,u6,u7]) (fun N hN=>?_) ?_
 ·walk_at "ds"
  refine⟨(lay_lks lw).1,lay_no,?_⟩
  by_cases hne:ls = []
  ·subst hne
   rw [if_neg (by simp [PyData.eqv,PyData.eqvAll])]
   exact hN _ ⟨[],_,_,_,_,lw,rfl⟩
  have hpos:0<ls.length:=List.length_pos_iff.mpr hne
  have lw1:=lw.1
  rw [if_pos (by cases ls with | nil=>exact absurd rfl hne | cons p r=>exact eqv_cons)]
  refine drawI (by first | decide | omega) (by first | decide | omega) fun t lt ht=>?_
  walk_at "ds"
  walk_at "ds"
  split
  ·rw [List.length_map]
   refine drawI (by first | decide | omega) (by first | decide | omega) fun a la ha=>?_
   walk_at "ds"
   obtain⟨d,ed,md⟩:=atI_ex (xs:=ls.map lkD) la (by rw [List.length_map];omega)
   obtain⟨p,hp,rfl⟩:=List.mem_map.mp md
   have ix:ixN ls.length a=some a.toNat:=by
    unfold ixN
    rw [if_pos (by omega),if_pos (by omega)]
   have fin:∀ z u4 u5 u6 u7,N [some .pen,some (.val (.int base)),some (.val (.tuple (s.map pD))),some (.own (.lst ((ls.set a.toNat (p.1,z)).map lkD))),u4,u5,u6,u7]:=fun z u4 u5 u6 u7=>hN _ ⟨_,_,_,_,_,⟨by rw [List.length_set];exact lw.1,fun y hy=>by
    rcases List.mem_or_eq_of_mem_set hy with e | e
    ·exact lw.2 y e
    ·rw [e];exact lw.2 p hp⟩,rfl⟩
   refine⟨_,ed,?_⟩
   simp only [lkD]
   walk_at "ds"
   refine⟨_,atI_one _ _ _,?_⟩
   cases hz:p.2 with
   | true =>
    have e0:decide (wS true=Str.ofString "silent")=true:=by decide +kernel
    simp only [onB,e0]
    walk_at "ds"
    refine⟨_,ed,?_⟩
    simp only [lkD]
    walk_at "ds"
    refine⟨_,atI_zero _ _,_,ix,?_⟩
    have:=fun u4 u5 u6 u7=>fin false u4 u5 u6 u7
    rw [List.map_set] at this
    exact this _ _ _ _
   | false =>
    have e0:decide (wS false=Str.ofString "silent")=false:=by decide +kernel
    simp only [onB,e0]
    walk_at "ds"
    refine⟨_,ed,?_⟩
    simp only [lkD]
    walk_at "ds"
    refine⟨_,atI_zero _ _,_,ix,?_⟩
    have:=fun u4 u5 u6 u7=>fin true u4 u5 u6 u7
    rw [List.map_set] at this
    exact this _ _ _ _
  ·exact hN _ ⟨ls,_,_,_,_,lw,rfl⟩
 clear lw
 clear ls u4 u5
 rintro σ ⟨ls,u4,u5,u6,u7,lw,rfl⟩
 refine dseq_by (fun σ=>∃(ls:List (Int×Bool)) (u4 u5 u6 u7:Option W),Lw ls/\σ = [some .pen,some (.val (.int base)),some (.val (.tuple (s.map pD))),some (.own (.lst (ls.map lkD))),u4,u5,u6,u7]) (fun N hN=>?_) ?_
 ·walk_at "ds"
  refine⟨(lay_lks lw).1,lay_no,?_⟩
  by_cases hne:ls = []
  ·subst hne
   rw [if_neg (by simp [PyData.eqv,PyData.eqvAll])]
   exact hN _ ⟨[],_,_,_,_,lw,rfl⟩
  have hpos:0<ls.length:=List.length_pos_iff.mpr hne
  have lw1:=lw.1
  rw [if_pos (by cases ls with | nil=>exact absurd rfl hne | cons p r=>exact eqv_cons),List.length_map]
  split
  ·skip
   refine drawI (by first | decide | omega) (by first | decide | omega) fun t lt ht=>?_
   walk_at "ds"
   walk_at "ds"
   split
   ·skip
    refine drawI (by first | decide | omega) (by first | decide | omega) fun a la ha=>?_
    walk_at "ds"
    walk_at "ds"
    refine drawI (by first | decide | omega) (by first | decide | omega) fun b lb hb=>?_
    walk_at "ds"
    obtain⟨d,ed,md⟩:=atI_ex (xs:=ls.map lkD) lb (by rw [List.length_map];omega)
    obtain⟨p,hp,rfl⟩:=List.mem_map.mp md
    refine⟨_,ed,by omega,la,by omega,hN _ ⟨insL a p ls,_,_,_,_,⟨?_,fun y hy=>?_⟩,(by unfold insL;rw [List.map_append,List.map_cons,List.map_take,List.map_drop])⟩⟩
    ·unfold insL
     rw [List.length_append,List.length_cons,List.length_take,List.length_drop]
     omega
    ·unfold insL at hy
     rcases List.mem_append.mp hy with hy | hy
     ·exact lw.2 y (List.mem_of_mem_take hy)
     ·rcases List.mem_cons.mp hy with rfl | hy
      ·exact lw.2 _ hp
      ·exact lw.2 y (List.mem_of_mem_drop hy)
   ·exact hN _ ⟨ls,_,_,_,_,lw,rfl⟩
  ·exact hN _ ⟨ls,_,_,_,_,lw,rfl⟩
 clear lw
 clear ls u4 u5 u6 u7
 rintro σ ⟨ls,u4,u5,u6,u7,lw,rfl⟩
 walk_at "ds"
 exact q ls lw
end
section
variable {P:Program}{w:World}{K:PySem.W.Frag}{mg:Str->Option Value}{base:Heap}{f:Addr}{fd:FuncData}
theorem lks_cons{xs ys:List D}(hx:∀ x∈xs,LkOk x):LksOk (.tuple xs):=fun zs e _ x h=>by cases e;exact hx x h
theorem lk_lkD(p:Int×Bool):LkOk (lkD p):=fun a b e=>by
 cases e
 exact .inl ⟨_,rfl,as_w _⟩
def sp__law_odd:DSp:=fun ws Q=>ws = [.pen]/\∀ d:D,LksOk d->LkOk d->Q (.val d)
theorem ok__law_odd(B:Blt mg)(F:Fun K "_law_odd" "_law_odd" s__law_odd f fd)(C__law_draw:Cal P w K mg base 2 "_law_draw" ["_law_pen", "_law_many"] (cnSp K sp__law_draw)):FnOk P w K mg base CX0 3 f fd ["_law_pen"] (cnSp K sp__law_odd):=by
 refine F.dok sc__law_odd (fun ws Q h=>?_) (fun cdv A outer s H ws Q E hr h=>?_)
 ·obtain⟨rfl,_⟩:=h
  rfl
 obtain⟨rfl,q⟩:=h
 refine⟨_,(dss_cons (ds_set (i:=1) sc__law_odd.nd rfl (Or.inl rfl) (DF.de (df_lst (da_cons de_non (da_cons de_bl (da_cons de_bl (da_cons (de_neg de_int) (da_cons de_str (da_cons de_str (da_cons (DF.de (df_lst da_nil)) (da_cons (de_tup da_nil) (da_cons de_dic0 (da_cons (de_tup (da_cons de_int da_nil sE_C)) (da_cons (de_op o_pow (DE.dv de_int) (DE.dv de_int)) (da_cons de_str (da_cons (DF.de (df_lst (da_cons de_int (da_cons de_int da_nil sE_C) sE_C))) (da_cons (de_tup (da_cons (de_tup (da_cons de_int (da_cons de_int da_nil sE_C) sE_C)) da_nil sE_T)) (da_cons de_dic1 (da_cons (de_tup (da_cons de_int (da_cons de_int (da_cons de_int da_nil sE_C) sE_C) sE_C)) da_nil sE_T)) sE_T) sE_L) sE_C)) sE_T)) sE_T) sE_L) sE_C) sE_C)) sE_C) sE_C) sE_C)))) (dss_one (ds_ret (de_ix (dv_own 1) (de_call C__law_draw hr rfl (dp_vw 0 (dp_val (de_callB c_len rfl B.len PySem.boot_len (dav_cons (dv_own 1) dav_nil)) dp_nil))) (fun _ _=>rfl))))),?_⟩
 walk_at "ds"
 refine⟨by unfold CPow;decide,?_⟩
 refine drawI (by first | decide | omega) (by first | decide | omega) fun x lx hx=>?_
 walk_at "ds"
 have l2:Lay (.int 2):=(Sh.intB (by decide) (by decide)).lay (by decide)
 refine pickD (by omega) (by simp only [List.length_cons,List.length_nil];omega) fun d hd=>?_
 simp only [List.mem_cons,List.not_mem_nil,or_false] at hd
 rcases hd with rfl | rfl | rfl | rfl | rfl | rfl | rfl | rfl | rfl | rfl | rfl | rfl | rfl | rfl | rfl | rfl <;>
  refine q _ (fun xs e _ x hx a b e2=>?_) (fun a b e=>?_) <;> first
   | (cases e;done)
   | (cases e;cases hx;done)
   | (cases e;simp only [List.mem_cons,List.not_mem_nil,or_false] at hx;subst hx;cases e2;done)
   | (cases e;simp only [List.mem_cons,List.not_mem_nil,or_false] at hx;subst hx;cases e2;exact .inr (.inr ⟨2,rfl,l2⟩))
   | (cases e;simp only [List.mem_cons,List.not_mem_nil,or_false] at hx;rcases hx with rfl | rfl | rfl <;> cases e2)
def sp__law_bent:DSp:=fun ws Q=>∃ ls:List (Int×Bool),ws = [.pen,.val (.tuple (ls.map lkD))]/\Lw ls/\∀ d:D,LksOk d->Q (.val d)
theorem ok__law_bent(B:Blt mg)(F:Fun K "_law_bent" "_law_bent" s__law_bent f fd)(C__law_draw:Cal P w K mg base 2 "_law_draw" ["_law_pen", "_law_many"] (cnSp K sp__law_draw))(C__law_odd:Cal P w K mg base 3 "_law_odd" ["_law_pen"] (cnSp K sp__law_odd)):FnOk P w K mg base CX0 4 f fd ["_law_pen", "_law_looks_here"] (cnSp K sp__law_bent):=by
 refine F.dok sc__law_bent (fun ws Q h=>?_) (fun cdv A outer s H ws Q E hr h=>?_)
 ·obtain⟨ls,rfl,_⟩:=h
  rfl
 obtain⟨ls,rfl,lw,q⟩:=h
 have lw1:=lw.1
 refine⟨_,(dss_cons (ds_par (i:=2) (j:=3) rfl sc__law_bent.nd rfl rfl (by decide) rfl rfl (da_cons (de_call C__law_draw hr rfl (dp_vw 0 (dp_val de_int dp_nil sE_C))) (da_cons (de_call C__law_odd hr rfl (dp_vw 0 dp_nil)) da_nil)) rfl) (dss_cons (ds_if (dt_cmp (o_eq hr) (dv_own 1) (DE.dv (de_tup da_nil)) (nomark _)) (dss_one (ds_ret (de_ix (DE.dv (DF.de (df_lst (da_cons (de_tup (da_cons (de_var 3) da_nil)) (da_cons (DF.de (df_lst da_nil)) (da_cons (de_tup (da_cons (de_tup (da_cons de_int da_nil sE_C)) da_nil sE_T)) (da_cons (de_tup (da_cons (de_tup (da_cons de_int (da_cons de_str da_nil sE_C) sE_C)) da_nil sE_T)) da_nil sE_T) sE_T) sE_L) sE_T)))) (de_op o_mod (dv_own 2) (DE.dv de_int)) (fun _ _=>rfl)))) dss_nil) (dss_cons (ds_set (i:=4) sc__law_bent.nd rfl (Or.inl rfl) (de_call C__law_draw hr rfl (dp_vw 0 (dp_val (de_callB c_len rfl B.len PySem.boot_len (dav_cons (dv_own 1) dav_nil)) dp_nil)))) (dss_cons (ds_asg (de_ix (dv_own 1) (de_var 4) (fun _ _=>rfl)) (dg_seq (n:=2) rfl (dgs_cons (dg_name (i:=5) sc__law_bent.nd rfl (Or.inl rfl)) (dgs_cons (dg_name (i:=6) sc__law_bent.nd rfl (Or.inl rfl)) dgs_nil)))) (dss_cons (ds_set (i:=7) sc__law_bent.nd rfl (Or.inl rfl) (DF.de (df_lst (da_cons (de_tup (da_cons (de_var 5) (da_cons de_str da_nil sE_C))) (da_cons (de_tup (da_cons (de_var 5) (da_cons (de_sliceT (de_var 6) do_none (do_some (de_neg de_int))) da_nil))) (da_cons (de_tup (da_cons (de_var 5) (da_cons (de_op o_add (dv_own 6) (DE.dv de_str)) da_nil))) (da_cons (de_tup (da_cons de_int (da_cons (de_var 6) da_nil) sE_C)) (da_cons (de_tup (da_cons (de_neg de_int) (da_cons (de_var 6) da_nil))) (da_cons (de_tup (da_cons de_bl (da_cons (de_var 6) da_nil) sE_C)) da_nil sE_T) sE_T) sE_T) sE_T) sE_T) sE_T)))) (dss_cons (ds_set (i:=7) sc__law_bent.nd rfl (Or.inl rfl) (de_op o_add (dv_own 7) (DE.dv (DF.de (df_lst (da_cons (de_tup (da_cons (de_var 5) (da_cons de_non da_nil sE_C))) (da_cons (de_tup (da_cons (de_var 5) (da_cons (de_var 6) (da_cons de_int da_nil sE_C)))) (da_cons (de_tup (da_cons (de_var 5) da_nil)) (da_cons (DF.de (df_lst (da_cons (de_var 5) (da_cons (de_var 6) da_nil)))) (da_cons (de_tup (da_cons (de_var 6) (da_cons (de_var 5) da_nil))) (da_cons (de_var 3) da_nil) sE_T) sE_L) sE_T) sE_T) sE_T)))))) (dss_cons (ds_if (dt_cmp o_lt (dv_own 2) (DE.dv (de_callB c_len rfl B.len PySem.boot_len (dav_cons (dv_own 7) dav_nil))) (nomark _)) (dss_one (ds_ret (de_op o_add (DE.dv (de_op o_add (DE.dv (de_slice (dv_own 1) do_none (do_some (de_var 4)))) (DE.dv (de_tup (da_cons (de_ix (dv_own 7) (de_var 2) (fun _ _=>rfl)) da_nil))))) (DE.dv (de_slice (dv_own 1) (do_some (de_op o_add (dv_own 4) (DE.dv de_int))) do_none))))) dss_nil) (dss_one (ds_ret (de_ifExp (dt_cmp (o_eq hr) (dv_own 2) (DE.dv de_int) (nomark _)) (DF.de (df_callTy c_list rfl B.listT boot_list (dav_cons (dv_own 1) dav_nil))) (de_op o_mulT2 (dv_own 1) (DE.dv de_int)))))))))))),?_⟩
 refine dseq_by (fun σ=>∃(w:Int) (od:D),0<=w/\w<14/\LksOk od/\LkOk od/\σ = [some .pen,some (.val (.tuple (ls.map lkD))),some (.val (.int w)),some (.val od),none,none,none,none]) (fun N hN=>?_) ?_
 ·walk_at "ds"
  refine drawI (by first | decide | omega) (by first | decide | omega) fun w lw hw=>?_
  walk_at "ds"
  exact⟨rfl,fun d h1 h2=>hN _ ⟨w,d,by assumption,by assumption,h1,h2,rfl⟩⟩
 rintro σ ⟨w,od,w0,w1,o1,o2,rfl⟩
 refine dseq_by (fun σ=>ls ≠ []/\σ = [some .pen,some (.val (.tuple (ls.map lkD))),some (.val (.int w)),some (.val od),none,none,none,none]) (fun N hN=>?_) ?_
 ·walk_at "ds"
  refine⟨(lay_lks lw).2,lay_noT,?_⟩
  by_cases hne:ls = []
  ·subst hne
   rw [if_pos (by simp [PyData.eqv,PyData.eqvAll])]
   refine⟨by decide,pickD (by omega) (by simp only [List.length_cons,List.length_nil];omega) fun d hd=>?_⟩
   simp only [List.mem_cons,List.not_mem_nil,or_false] at hd
   rcases hd with rfl | rfl | rfl | rfl
   ·exact q _ (lks_cons (ys:=[]) (mem_two o2 mem_no))
   ·exact q _ fun xs e=>by cases e
   ·exact q _ (lks_cons (ys:=[]) (mem_two (fun a b e=>by cases e) mem_no))
   ·exact q _ (lks_cons (ys:=[]) (mem_two (fun a b e=>by cases e;exact .inl ⟨_,rfl,by decide +kernel⟩) mem_no))
  ·rw [if_neg (by cases ls with | nil=>exact absurd rfl hne | cons p r=>simp [PyData.eqv,PyData.eqvAll])]
   exact hN _ ⟨hne,rfl⟩
 rintro σ ⟨hne,rfl⟩
 have hpos:0<ls.length:=List.length_pos_iff.mpr hne
 refine dseq_by (fun σ=>∃(a:Int),0<=a/\a<ls.length/\σ = [some .pen,some (.val (.tuple (ls.map lkD))),some (.val (.int w)),some (.val od),some (.val (.int a)),none,none,none]) (fun N hN=>?_) ?_
 ·walk_at "ds"
  rw [List.length_map]
  refine drawI (by first | decide | omega) (by first | decide | omega) fun a la ha=>?_
  walk_at "ds"
  exact hN _ ⟨a,la,ha,rfl⟩
 rintro σ ⟨a,a0,a1,rfl⟩
 obtain⟨p,ed,hp⟩:∃ p,atI (ls.map lkD) a=some (lkD p)/\p∈ls:=by
  obtain⟨d,ed,md⟩:=atI_ex (xs:=ls.map lkD) a0 (by rw [List.length_map];exact a1)
  obtain⟨p,hp,rfl⟩:=List.mem_map.mp md
  exact⟨p,ed,hp⟩
 obtain⟨b,z⟩:=p
 refine dseq_by (fun σ=>σ = [some .pen,some (.val (.tuple (ls.map lkD))),some (.val (.int w)),some (.val od),some (.val (.int a)),some (.val (.int b)),some (.val (.str (wS z))),none]) (fun N hN=>?_) ?_
 ·walk_at "ds"
  refine⟨_,ed,?_⟩
  simp only [lkD]
  walk_at "ds"
  exact hN _ rfl
 rintro σ rfl
 have lz:(wS z).length<=10:=by cases z <;> decide +kernel
 refine dseq_by (fun σ=>∃ xs:List D,xs.length=6/\(∀ x∈xs,LkOk x)/\σ = [some .pen,some (.val (.tuple (ls.map lkD))),some (.val (.int w)),some (.val od),some (.val (.int a)),some (.val (.int b)),some (.val (.str (wS z))),some (.val (.list xs))]) (fun N hN=>?_) ?_
 ·walk_at "ds"
  have c1:(Str.ofString " ").length=1:=by decide +kernel
  refine⟨by omega,by omega,hN _ ⟨[_,_,_,_,_,_],rfl,?_,rfl⟩⟩
  refine mem_two (fun a b e=>by cases e;exact .inl ⟨_,rfl,by decide +kernel⟩) (mem_two (fun a b e=>by cases e;exact .inl ⟨_,rfl,by cases z <;> decide +kernel⟩) (mem_two (fun a b e=>by cases e;exact .inl ⟨_,rfl,by cases z <;> decide +kernel⟩) (mem_two (fun a b e=>by cases e;exact .inl ⟨_,rfl,as_w z⟩) (mem_two (fun a b e=>by cases e;exact .inl ⟨_,rfl,as_w z⟩) (mem_two (fun a b e=>by cases e) mem_no)))))
 rintro σ ⟨xs,lx,hx,rfl⟩
 refine dseq_by (fun σ=>∃ xs:List D,xs.length=12/\(∀ x∈xs,LkOk x)/\σ = [some .pen,some (.val (.tuple (ls.map lkD))),some (.val (.int w)),some (.val od),some (.val (.int a)),some (.val (.int b)),some (.val (.str (wS z))),some (.val (.list xs))]) (fun N hN=>?_) ?_
 ·walk_at "ds"
  refine⟨by omega,hN _ ⟨xs ++ [_,_,_,_,_,_],by rw [List.length_append,lx];rfl,fun x hx'=>?_,rfl⟩⟩
  rcases List.mem_append.mp hx' with h | h
  ·exact hx x h
  ·have:∀ x ∈ [PyData.tuple [PyData.int b,PyData.none],PyData.tuple [PyData.int b,PyData.str (wS z),PyData.int 0],PyData.tuple [PyData.int b],PyData.list [PyData.int b,PyData.str (wS z)],PyData.tuple [PyData.str (wS z),PyData.int b],od],LkOk x:=mem_two (fun a b e=>by cases e;exact .inr (.inl rfl)) (mem_two (fun a b e=>by cases e) (mem_two (fun a b e=>by cases e) (mem_two (fun a b e=>by cases e) (mem_two (fun a b e=>by cases e) (mem_two o2 mem_no)))))
   exact this x h
 clear lx hx
 clear xs
 rintro σ ⟨xs,lx,hx,rfl⟩
 walk_at "ds"
 rw [lx]
 have lk:∀ d∈ls.map lkD,LkOk d:=fun d hd=>by
  obtain⟨p,_,rfl⟩:=List.mem_map.mp hd
  exact lk_lkD p
 split
 ·next c =>
  obtain⟨d,e1,md⟩:=atI_ex (xs:=xs) w0 (by rw [lx];exact c)
  obtain⟨y1,e2,m2,l2⟩:=sliceD_map lkD ls none (some a)
  obtain⟨y2,e3,m3,l3⟩:=sliceD_map lkD ls (some (a+1)) none
  rw [e2,e3]
  refine⟨d,e1,by rw [List.length_map];omega,by simp only [List.length_append,List.length_map,List.length_cons,List.length_nil];omega,q _ (lks_cons (ys:=[]) fun x h=>?_)⟩
  rcases List.mem_append.mp h with h | h
  ·rcases List.mem_append.mp h with h | h
   ·obtain⟨p,_,rfl⟩:=List.mem_map.mp h
    exact lk_lkD p
   ·rw [List.mem_singleton.mp h];exact hx d md
  ·obtain⟨p,_,rfl⟩:=List.mem_map.mp h
   exact lk_lkD p
 ·split
  ·exact q _ fun xs e=>by cases e
  ·rw [List.length_map]
   refine⟨by decide,by decide,by omega,q _ (lks_cons (ys:=[]) fun x h=>?_)⟩
   obtain⟨l,hl,hx'⟩:=List.mem_flatten.mp h
   rw [List.eq_of_mem_replicate hl] at hx'
   exact lk x hx'
end
section
variable {P:Program}{w:World}{K:PySem.W.Frag}{mg:Str->Option Value}{base:Heap}{f:Addr}{fd:FuncData}
theorem pr_all{p:D->Prop}:∀{ds ys:List D},Paired (fun _ y=>p y) ds ys->∀ y∈ys,p y
 | _,_,.nil=>fun y h=>by cases h
 | _,_,.cons h r=>mem_two h (pr_all r)
theorem good_s:∀{s:List (Int×Int)} {h m:Int},(∀ r∈s,0<=r.1/\r.1<r.2/\r.2<=1000000)->s.Pairwise (fun a b=>a.2<b.1)->(∀ r∈s,h<r.1)->goodS h (s.map fun r=>[r.1,r.2])=true
 | [],_,_,_,_,_=>rfl
 | r::s,h,m,hb,up,hh=>by
  have h1:=hb r List.mem_cons_self
  have h2:=hh r List.mem_cons_self
  obtain⟨u1,u2⟩:=List.pairwise_cons.mp up
  have ih:=good_s (m:=m) (fun x hx=>hb x (List.mem_cons_of_mem _ hx)) u2 u1
  show(goodP [r.1,r.2] && !decide (r.1<=h) && goodS r.2 (s.map fun r=>[r.1,r.2]))=true
  rw [ih,Bool.and_true]
  simp only [goodP,Bool.and_eq_true,decide_eq_true_eq,Bool.not_eq_true',decide_eq_false_iff_not]
  omega
theorem good_fold{ls rs:List (Int×Bool)}(g:Gk ls)(co:Cons ls)(p:rs.Perm ls)(u:rs.Pairwise fun a b=>a.1<=b.1):
  (ls.all fun q=>silL (foldK rs).1 q.1 == q.2)=true/\goodS (-1) ((foldK rs).1.map fun r=>[r.1,r.2])=true/\(foldK rs).1.length<=12/\∀ r∈(foldK rs).1,0<=r.1/\r.1<r.2/\r.2<=1000000:=by
 have c1:Cons rs:=fun a ha b hb=>co a (p.mem_iff.mp ha) b (p.mem_iff.mp hb)
 obtain⟨ds,d1,d2,d3⟩:=dd_ex u c1
 have hb:∀ q∈ds,0<=q.1/\q.1<=999999:=fun q hq=>g.bd q (p.mem_iff.mp ((d2 q).mp hq))
 have K:=foldK_ok d1 fun q hq=>(hb q hq).1
 rw [d3] at K
 have hm:(ds.getLastD (-1,true)).1<=999999:=by
  cases e:ds.getLast? with
  | none =>
   rw [List.getLastD_eq_getLast?,e]
   decide
  | some x =>
   rw [List.getLastD_eq_getLast?,e]
   exact(hb x (List.mem_of_getLast? e)).2
 have hr:∀ r∈(foldK rs).1,0<=r.1/\r.1<r.2/\r.2<=1000000:=fun r hr=>by
  have:=K.r r hr
  omega
 refine⟨?_,good_s (m:=0) hr K.up fun r h=>by have:=hr r h;omega,?_,hr⟩
 ·rw [List.all_eq_true]
  intro q hq
  rw [K.ok q ((d2 q).mpr (p.mem_iff.mpr hq))]
  simp
 ·have h1:=(foldK_len rs).1
  rw [p.length_eq] at h1
  have:=g.ln
  omega
theorem no_fold{ls:List (Int×Bool)}(nc:¬ Cons ls)(s:List (Int×Int)):(ls.all fun q=>silL s q.1 == q.2)=false:=by
 cases h:ls.all fun q=>silL s q.1 == q.2 with
 | false=>rfl
 | true =>
  rw [List.all_eq_true] at h
  refine absurd (fun a ha b hb e=>?_) nc
  have h1:=h a ha
  have h2:=h b hb
  rw [e] at h1
  simp only [beq_iff_eq] at h1 h2
  obtain⟨a1,a2⟩:=a
  obtain⟨b1,b2⟩:=b
  simp only at e h1 h2
  rw [e,<-h1,<-h2]
theorem sorted_ex(ls:List (Int×Bool)):∃ rs:List (Int×Bool),rs.Perm ls/\rs.Pairwise fun a b=>a.1<=b.1:=by
 refine⟨ls.mergeSort (fun a b=>decide (a.1<=b.1)),List.mergeSort_perm _ _,?_⟩
 have:=List.pairwise_mergeSort (le:=fun a b:Int×Bool=>decide (a.1<=b.1)) (fun a b c h1 h2=>by simp only [decide_eq_true_eq] at *;omega) (fun a b=>by simp only [Bool.or_eq_true,decide_eq_true_eq];omega) ls
 exact this.imp fun h=>of_decide_eq_true h
theorem sh_bool(b:Bool):Sh (.bool b) 10 0:=by cases b <;> exact⟨by decide +kernel,by decide +kernel,by decide +kernel,by decide +kernel⟩
theorem sh_story{s:List (Int×Int)}(hl:s.length<=12)(h:∀ r∈s,0<=r.1/\r.1<r.2/\r.2<=1000000):Sh (.tuple (s.map pD)) 2000 2:=(Sh.tup (n:=89) (k:=1) (m:=12) (fun d hd=>by
 obtain⟨r,hr,rfl⟩:=List.mem_map.mp hd
 have:=h r hr
 exact Sh.tup (n:=41) (k:=0) (m:=2) (mem_two (Sh.intB (by omega) (by omega)) (mem_two (Sh.intB (by omega) (by omega)) mem_no)) (Nat.le_refl 2)) (by rw [List.length_map];exact hl)).mono (by decide) (by decide)
theorem sh_step:Sh (.tuple [PyData.str "step"]) 100 1:=(Sh.tup (n:=41) (k:=0) (m:=1) (mem_two ⟨by decide +kernel,by decide +kernel,by decide +kernel,by decide +kernel⟩ mem_no) (Nat.le_refl 1)).mono (by decide) (by decide)
def sp__law_right:DSp:=fun ws Q=>∃(s:List (Int×Int)) (d:D),ws = [.val (.tuple (s.map pD)),.val d]/\s.length<=8/\LksOk d/\Q (.val (.bool true))
theorem ok__law_right(B:Blt mg)(F:Fun K "_law_right" "_law_right" s__law_right f fd)(C_story_good:Cal P w K mg base 3 "story_good" ["thing"] (cnSp K sp_story_good))(C_holds:Cal P w K mg base 5 "holds" ["story", "thing"] (cnSp K sp_holds))(C__law_is_silent:Cal P w K mg base 1 "_law_is_silent" ["_law_story", "_law_beat"] (cnSp K sp__law_is_silent))(C__law_good:Cal P w K mg base 2 "_law_good" ["_law_thing"] (cnSp K sp__law_good))(C__law_due:Cal P w K mg base 1 "_law_due" ["_law_looks_here"] (cnSp K sp__law_due))(C__law_told:Cal P w K mg base 7 "_law_told" ["_law_looks_here"] (cnSp K sp__law_told)):FnOk P w K mg base CX0 8 f fd ["_law_story", "_law_looks_here"] (cnSp K sp__law_right):=by
 refine F.dok sc__law_right (fun ws Q h=>?_) (fun cdv A outer s H ws Q E hr h=>?_)
 ·obtain⟨s,d,rfl,_⟩:=h
  rfl
 obtain⟨s,d,rfl,hs,ok,q⟩:=h
 refine⟨_,(dss_cons (ds_set (i:=2) sc__law_right.nd rfl (Or.inl rfl) (de_call C__law_good hr rfl (dp_vw 1 dp_nil))) (dss_cons (ds_set (i:=3) sc__law_right.nd rfl (Or.inl rfl) (de_var 2)) (dss_cons (ds_for PassesOwn.never rfl (di_seq (de_ifExp (dt_tru (dv_own 2)) (de_var 1) (de_tup da_nil))) (dg_seq (n:=2) rfl (dgs_cons (dg_name (i:=4) sc__law_right.nd rfl (Or.inl rfl)) (dgs_cons (dg_name (i:=5) sc__law_right.nd rfl (Or.inl rfl)) dgs_nil))) (dss_one (ds_if (dt_cmp (o_ne hr) (DE.dv (de_call C__law_is_silent hr rfl (dp_vw 0 (dp_vw 4 dp_nil)))) (DE.dv (de_cmp (o_eq hr) (dv_own 5) (DE.dv de_str) (nomark _))) (nomark _)) (dss_one (ds_set (i:=3) sc__law_right.nd rfl (Or.inl rfl) de_bl)) dss_nil))) (dss_cons (ds_if (dt_cmp (o_ne hr) (DE.dv (de_reprA hr rfl B.repr boot_repr (dan_cons (DE.dn (de_call C_holds hr rfl (dp_vw 0 (dp_vw 1 dp_nil)))) dan_nil))) (DE.dv (de_reprA hr rfl B.repr boot_repr (dan_cons (dn_var 3) dan_nil))) (nomark _)) (dss_one (ds_ret de_bl)) dss_nil) (dss_cons (ds_set (i:=6) sc__law_right.nd rfl (Or.inl rfl) (de_call C__law_told hr rfl (dp_vw 1 dp_nil))) (dss_cons (ds_set (i:=7) sc__law_right.nd rfl (Or.inl rfl) (de_ifExp (dt_tru (dv_own 2)) (de_call C__law_due hr rfl (dp_vw 1 dp_nil)) (de_tup (da_cons de_str da_nil sE_C)))) (dss_cons (ds_if (dt_cmp (o_ne hr) (DE.dv (de_reprA hr rfl B.repr boot_repr (dan_cons (dn_var 6) dan_nil))) (DE.dv (de_reprA hr rfl B.repr boot_repr (dan_cons (dn_var 7) dan_nil))) (nomark _)) (dss_one (ds_ret de_bl)) dss_nil) (dss_one (ds_ret (de_or (de_not (de_var 2)) (de_or (de_cmp o_isN (dv_own 7) (DE.dv de_non) (nomark _)) (de_one (de_and (de_cmp o_isB (DE.dv (de_call C_holds hr rfl (dp_vw 7 (dp_vw 1 dp_nil)))) (DE.dv de_bl) (nomark _)) (de_one (de_cmp o_isB (DE.dv (de_call C_story_good hr rfl (dp_vw 7 dp_nil))) (DE.dv de_bl) (nomark _)))))))))))))))),?_⟩
 refine dseq_by (fun σ=>σ = [some (.val (.tuple (s.map pD))),some (.val d),some (.val (.bool (lksB d))),none,none,none,none,none]) (fun N hN=>?_) ?_
 ·walk_at "ds"
  exact⟨d,rfl,ok,hN _ rfl⟩
 rintro σ rfl
 refine dseq_by (fun σ=>σ = [some (.val (.tuple (s.map pD))),some (.val d),some (.val (.bool (lksB d))),some (.val (.bool (lksB d))),none,none,none,none]) (fun N hN=>?_) ?_
 ·walk_at "ds"
  exact hN _ rfl
 rintro σ rfl
 cases c:lksB d with
 | false =>
  walk_at "ds"
  rw [forD]
  walk_at "ds"
  refine⟨s,d,rfl,by omega,ok,fun _=>?_,fun ls e g=>absurd (lks_good g) (by rw [<-e,c];decide)⟩
  refine⟨(sh_bool false).can,(sh_bool false).can,?_⟩
  simp only [gReprA,onB,decide_true,Bool.not_true]
  rw [if_neg (by simp)]
  refine⟨d,rfl,ok,fun _=>?_,fun ls e g=>absurd (lks_good g) (by rw [<-e,c];decide)⟩
  have all:=sh_step.all (by decide) (by decide)
  walk_at "ds"
  refine⟨sh_step.can,all.1,all.2.1,all.2.2,sh_step.can,all.1,all.2.1,all.2.2,?_⟩
  rw [if_neg (by simp)]
  exact q
 | true =>
  obtain⟨ls,rfl,g⟩:=lks_dec c
  have ln:=g.ln
  refine dseq_by (fun σ=>∃ u4 u5:Option W,σ = [some (.val (.tuple (s.map pD))),some (.val (.tuple (ls.map lkD))),some (.val (.bool true)),some (.val (.bool (ls.all fun p=>silL s p.1 == p.2))),u4,u5,none,none]) (fun N hN=>?_) ?_
  ·walk_at "ds"
   refine forD_suf (fun ds σ=>∃(pre post:List (Int×Bool)) (u4 u5:Option W),ls=pre++post/\ds=post.map lkD/\σ = [some (.val (.tuple (s.map pD))),some (.val (.tuple (ls.map lkD))),some (.val (.bool true)),some (.val (.bool (pre.all fun p=>silL s p.1 == p.2))),u4,u5,none,none]) ?_ ?_ ⟨[],ls,none,none,rfl,rfl,rfl⟩
   ·rintro d ds σ N2 ⟨pre,post,u4,u5,el,e,rfl⟩ k
    cases post with
    | nil=>cases e
    | cons p post =>
     cases e
     have fin:=fun u4 u5=>k [some (.val (.tuple (s.map pD))),some (.val (.tuple (ls.map lkD))),some (.val (.bool true)),some (.val (.bool ((pre ++ [p]).all fun p=>silL s p.1 == p.2))),u4,u5,none,none] ⟨pre ++ [p],post,u4,u5,by rw [el,List.append_assoc];rfl,rfl,rfl⟩
     rw [List.all_append] at fin
     obtain⟨b,z⟩:=p
     simp only [lkD]
     walk_at "ds"
     refine⟨s,b,rfl,by omega,?_⟩
     show if (!decide (silL s b=decide (wS z=SI)))=true then _ else _
     rw [w_si]
     have e1:([(b,z)]:List (Int×Bool)).all (fun p=>silL s p.1 == p.2)=decide (silL s b=z):=by simp only [List.all_cons,List.all_nil,Bool.and_true];rfl
     rw [e1] at fin
     cases h:decide (silL s b=z) with
     | true =>
      rw [h,Bool.and_true] at fin
      exact fin _ _
     | false =>
      rw [h,Bool.and_false] at fin
      exact fin _ _
   ·rintro σ ⟨pre,post,u4,u5,el,e,rfl⟩
    cases post with
    | cons p post=>cases e
    | nil =>
     rw [List.append_nil] at el
     subst el
     exact hN _ ⟨u4,u5,rfl⟩
  rintro σ ⟨u4,u5,rfl⟩
  obtain⟨rs,prm,up⟩:=sorted_ex ls
  have uq:∀ ls',PyData.tuple (ls.map lkD)=.tuple (ls'.map lkD)->ls'=ls:=fun ls' e=>(map_inj lkD_inj (by simpa using e)).symm
  walk_at "ds"
  refine⟨s,_,rfl,by omega,ok,fun z=>absurd z (by rw [c];decide),fun ls' e g'=>?_⟩
  cases uq ls' e
  refine⟨(sh_bool _).can,?_⟩
  generalize (ls.all fun p=>silL s p.1 == p.2)=kp
  simp only [gReprA,onB,decide_true,Bool.not_true]
  refine⟨(sh_bool _).can,?_⟩
  rw [if_neg (by simp)]
  refine⟨_,rfl,ok,fun z=>absurd z (by rw [c];decide),fun ls' e g' rs' prm' up'=>?_⟩
  cases uq ls' e
  refine⟨ls,rs,rfl,g,prm,up,fun nc=>?_,fun co=>?_⟩
  ·rw [no_fold nc,if_neg (by decide)]
   walk_at "ds"
   have all:=Sh.none.all (by decide) (by decide)
   refine⟨Sh.none.can,all.1,all.2.1,all.2.2,Sh.none.can,all.1,all.2.1,all.2.2,?_⟩
   rw [if_neg (by simp)]
   exact q
  ·have fu:=fold_uniq co prm' prm up' up
   obtain⟨g1,g2,g3,g4⟩:=good_fold g co prm up
   rw [fu,g1,if_pos rfl]
   have shs:=sh_story g3 g4
   have all:=shs.all (by decide) (by decide)
   walk_at "ds"
   refine⟨shs.can,all.1,all.2.1,all.2.2,shs.can,all.1,all.2.1,all.2.2,?_⟩
   rw [if_neg (by simp)]
   refine⟨_,_,rfl,by omega,ok,fun z=>absurd z (by rw [c];decide),fun ls' e g'=>?_⟩
   cases uq ls' e
   rw [g1]
   walk_at "ds"
   refine⟨(foldK rs).1.map fun r=>[r.1,r.2],by rw [List.map_map];rfl,?_⟩
   rw [List.length_map,g2,decide_eq_true (by omega)]
   exact q
theorem ok_law(B:Blt mg)(F:Fun K "law" "law" s_law f fd)(C__law_cell_at:Cal P w K mg base 1 "_law_cell_at" ["_law_script", "_law_k"] (cnSp K sp__law_cell_at))(C__law_pen_of:Cal P w K mg base 1 "_law_pen_of" ["_law_cell"] (cnSp K sp__law_pen_of))(C__law_odd:Cal P w K mg base 3 "_law_odd" ["_law_pen"] (cnSp K sp__law_odd))(C__law_small:Cal P w K mg base 3 "_law_small" ["_law_pen"] (cnSp K sp__law_small))(C__law_looks:Cal P w K mg base 3 "_law_looks" ["_law_pen", "_law_base", "_law_story"] (cnSp K sp__law_looks))(C__law_bent:Cal P w K mg base 4 "_law_bent" ["_law_pen", "_law_looks_here"] (cnSp K sp__law_bent))(C__law_right:Cal P w K mg base 8 "_law_right" ["_law_story", "_law_looks_here"] (cnSp K sp__law_right)):FnOk P w K mg base CX0 9 f fd ["_law_script"] (cnSp K sp_law):=by
 refine F.dok sc_law (fun ws Q h=>?_) (fun cdv A outer s H ws Q E hr h=>?_)
 ·obtain⟨ns,rfl,_⟩:=h
  rfl
 obtain⟨ns,rfl,h63,q⟩:=h
 refine⟨_,(dss_cons (ds_for PassesOwn.never rfl (di_seq (de_op o_add (DE.dv (DF.de (df_lst (da_cons (de_call C__law_cell_at hr rfl (dp_vw 0 (dp_val de_int dp_nil sE_C))) da_nil)))) (DE.dv (DF.de (df_scr 0 (do_some de_int) (do_some de_int)))))) (dg_name (i:=1) sc_law.nd rfl (Or.inl rfl)) (dss_cons (ds_setP (i:=2) sc_law.nd rfl (Or.inr rfl) (df_call C__law_pen_of hr rfl (dp_vw 1 dp_nil))) (dss_cons (ds_asg (de_call C__law_small hr rfl (dp_vw 2 dp_nil)) (dg_seq (n:=2) rfl (dgs_cons (dg_name (i:=3) sc_law.nd rfl (Or.inl rfl)) (dgs_cons (dg_name (i:=4) sc_law.nd rfl (Or.inl rfl)) dgs_nil)))) (dss_cons (ds_set (i:=5) sc_law.nd rfl (Or.inr rfl) (de_call C__law_looks hr rfl (dp_vw 2 (dp_vw 3 (dp_vw 4 dp_nil))))) (dss_cons (ds_setLC (i:=6) sc_law.nd rfl (Or.inl rfl) rfl (N':=["_law_turn", "_law_pen", "_law_looks_here"]) (capt:=["_law_pen", "_law_looks_here"]) (k:=1) (js:=[2,5]) ⟨rfl,by decide,rfl,by decide,(.cons rfl (.cons rfl .nil)),rfl,(.cons rfl (Or.inl rfl) rfl (Or.inl rfl) (.cons rfl (Or.inl rfl) rfl (Or.inl rfl) .nil)),rfl,by decide⟩ (DI.w (di_range1 rfl B.range (da_cons de_int da_nil sE_C))) (fun _ _ _ _=>(dg_name (i:=0) (show List.Nodup (["_law_turn", "_law_pen", "_law_looks_here"]:List Str) by decide +kernel) rfl (Or.inl rfl) (Or.inr rfl))) (fun _ _ _ _=>dts_nil) (fun _ _ _ _=>(de_call C__law_bent hr rfl (dp_vw 1 (dp_vw 2 dp_nil))))) (dss_one (ds_for PassesOwn.never rfl (di_seq (de_op o_add (DE.dv (DF.de (df_lst (da_cons (de_var 5) (da_cons (de_revA (dv_own 5)) (da_cons (de_call C__law_odd hr rfl (dp_vw 2 dp_nil)) da_nil)))))) (dv_own 6))) (dg_name (i:=7) sc_law.nd rfl (Or.inl rfl)) (dss_one (ds_if (DWt.dt (dw_or (dt_not (dt_tru (DE.dv (de_call C__law_right hr rfl (dp_vw 4 (dp_vw 7 dp_nil)))))) (dw_or1 (dt_not (dt_tru (DE.dv (de_call C__law_right hr rfl (dp_vw 4 (dp_vw 7 dp_nil))))))))) (dss_one (ds_ret de_bl)) dss_nil))))))))) (dss_one (ds_ret de_bl))),?_⟩
 walk_at "ds"
 refine⟨ns,0,rfl,by decide,fun v=>?_⟩
 obtain⟨ys,ey,_,hy⟩:=sliceD_map PyData.int ns (some 1) (some 5)
 rw [ey,List.length_map]
 refine⟨by omega,?_⟩
 walk_at "ds"
 refine forD_suf (fun ds σ=>∃(vs:List Int) (u1 u2 u3 u4 u5 u6 u7:Option W),ds=vs.map PyData.int/\σ = [some (.scr ns),u1,u2,u3,u4,u5,u6,u7]) ?_ ?_ ⟨v::ys,none,none,none,none,none,none,none,rfl,rfl⟩
 ·rintro d ds σ N ⟨vs,u1,u2,u3,u4,u5,u6,u7,e,rfl⟩ k
  cases vs with
  | nil=>cases e
  | cons v vs =>
   cases e
   refine dseq_by (fun σ=>σ = [some (.scr ns),some (.val (.int v)),some .pen,u3,u4,u5,u6,u7]) (fun N' hN=>?_) ?_
   ·walk_at "ds"
    refine⟨_,rfl,fun a b c=>?_⟩
    walk_at "ds"
    exact⟨⟨a,b,c,rfl⟩,hN _ rfl⟩
   rintro σ rfl
   refine dseq_by (fun σ=>∃(base:Int) (s:List (Int×Int)),0<=base/\base<=999900/\s.length<=8/\σ = [some (.scr ns),some (.val (.int v)),some .pen,some (.val (.int base)),some (.val (.tuple (s.map pD))),u5,u6,u7]) (fun N' hN=>?_) ?_
   ·walk_at "ds"
    refine⟨rfl,fun base s h0 h1 h2=>?_⟩
    walk_at "ds"
    exact hN _ ⟨base,s,h0,h1,h2,rfl⟩
   rintro σ ⟨base,s,h0,h1,h2,rfl⟩
   refine dseq_by (fun σ=>∃ ls,Lw ls/\σ = [some (.scr ns),some (.val (.int v)),some .pen,some (.val (.int base)),some (.val (.tuple (s.map pD))),some (.val (.tuple (ls.map lkD))),u6,u7]) (fun N' hN=>?_) ?_
   ·walk_at "ds"
    exact⟨base,s,rfl,h0,h1,h2,fun ls lw=>hN _ ⟨ls,lw,rfl⟩⟩
   rintro σ ⟨ls,lw,rfl⟩
   have lw1:=lw.1
   refine dseq_by (fun σ=>∃ xs:List D,xs.length=3/\(∀ x∈xs,LksOk x)/\σ = [some (.scr ns),some (.val (.int v)),some .pen,some (.val (.int base)),some (.val (.tuple (s.map pD))),some (.val (.tuple (ls.map lkD))),some (.val (.list xs)),u7]) (fun N' hN=>?_) ?_
   ·walk_at "ds"
    refine⟨by decide,by decide,lcD_all (fun _ y=>LksOk y) (fun d hd k hk=>?_) fun zs hzs=>?_⟩
    ·walk_at "ds"
     exact⟨ls,rfl,lw,fun t ht=>hk _ ht⟩
    ·have lz:=Paired.length hzs
     rw [show(rangeD 0 (Int.toNat 3)).length=3 by decide] at lz
     exact hN _ ⟨zs,lz.symm,pr_all hzs,rfl⟩
   rintro σ ⟨xs,lx,hx,rfl⟩
   walk_at "ds"
   refine⟨rfl,fun od o1 o2=>⟨by omega,?_⟩⟩
   have all:∀ x∈PyData.tuple (ls.map lkD)::PyData.tuple (ls.map lkD).reverse::od::xs,LksOk x:=mem_two (lks_ok ls) (mem_two (by rw [<-List.map_reverse];exact lks_ok _) (mem_two o1 hx))
   refine forD_all (fun σ=>∃ u7:Option W,σ = [some (.scr ns),some (.val (.int v)),some .pen,some (.val (.int base)),some (.val (.tuple (s.map pD))),some (.val (.tuple (ls.map lkD))),some (.val (.list xs)),u7]) ⟨_,rfl⟩ ?_ ?_
   ·rintro d hd σ N3 ⟨u7,rfl⟩ k5
    have od:=all d hd
    walk_at "ds"
    refine⟨s,d,rfl,h2,od,?_⟩
    walk_at "ds"
    refine⟨s,d,rfl,h2,od,?_⟩
    walk_at "ds"
    exact k5 _ ⟨_,rfl⟩
   ·rintro σ ⟨u7,rfl⟩
    exact k _ ⟨vs,_,_,_,_,_,_,_,rfl,rfl⟩
 ·rintro σ ⟨vs,u1,u2,u3,u4,u5,u6,u7,e,rfl⟩
  walk_at "ds"
  exact q
end
section
variable {P:Program}{w:World}{K:PySem.W.Frag}{mg:Str->Option Value}{base:Heap}{f:Addr}{fd:FuncData}
theorem ok__law_refusal(B:Blt mg)(F:Fun K "_law_refusal" "_law_refusal" s__law_refusal f fd)(XF:Xf K mg):FnH P w K mg base 1 f fd ["_law_e"] (cnSp K sp__law_refusal):=by
 refine F.dokH sc__law_refusal (fun ws Q h=>?_) (fun cdv A outer s H ws Q hr h=>?_)
 ·obtain⟨c,rfl,_⟩:=h
  rfl
 obtain⟨c,rfl,hc,q⟩:=h
 obtain⟨cx_NoBeat,mx_NoBeat,kx_NoBeat⟩:=XF.i_NoBeat;obtain⟨cx_NoStep,mx_NoStep,kx_NoStep⟩:=XF.i_NoStep;obtain⟨cx_NoNumber,mx_NoNumber,kx_NoNumber⟩:=XF.i_NoNumber;obtain⟨cx_NoLine,mx_NoLine,kx_NoLine⟩:=XF.i_NoLine;obtain⟨cx_NoStory,mx_NoStory,kx_NoStory⟩:=XF.i_NoStory;obtain⟨cx_NoText,mx_NoText,kx_NoText⟩:=XF.i_NoText;obtain⟨cx_TooGreat,mx_TooGreat,kx_TooGreat⟩:=XF.i_TooGreat;have kt_0:=XF.t_0;refine⟨_,(dss_cons (ds_set (i:=1) sc__law_refusal.nd rfl (Or.inl rfl) (DF.de (df_lst (da_cons (de_isX 0 (c:=.ref cx_NoBeat) (cv:=.ref cx_NoBeat) (fun _ h=>h) kx_NoBeat rfl B.isinstance boot_isinstance (pe_glob (u:=.ref cx_NoBeat) rfl mx_NoBeat rfl)) (da_cons (de_isX 0 (c:=.ref cx_NoStep) (cv:=.ref cx_NoStep) (fun _ h=>h) kx_NoStep rfl B.isinstance boot_isinstance (pe_glob (u:=.ref cx_NoStep) rfl mx_NoStep rfl)) (da_cons (de_isX 0 (c:=.ref cx_NoNumber) (cv:=.ref cx_NoNumber) (fun _ h=>h) kx_NoNumber rfl B.isinstance boot_isinstance (pe_glob (u:=.ref cx_NoNumber) rfl mx_NoNumber rfl)) (da_cons (de_isX 0 (c:=.ref cx_NoLine) (cv:=.ref cx_NoLine) (fun _ h=>h) kx_NoLine rfl B.isinstance boot_isinstance (pe_glob (u:=.ref cx_NoLine) rfl mx_NoLine rfl)) da_nil))))))) (dss_cons (ds_set (i:=1) sc__law_refusal.nd rfl (Or.inl rfl) (de_op o_add (dv_own 1) (DE.dv (DF.de (df_lst (da_cons (de_isX 0 (c:=.ref cx_NoStory) (cv:=.ref cx_NoStory) (fun _ h=>h) kx_NoStory rfl B.isinstance boot_isinstance (pe_glob (u:=.ref cx_NoStory) rfl mx_NoStory rfl)) (da_cons (de_isX 0 (c:=.ref cx_NoText) (cv:=.ref cx_NoText) (fun _ h=>h) kx_NoText rfl B.isinstance boot_isinstance (pe_glob (u:=.ref cx_NoText) rfl mx_NoText rfl)) (da_cons (de_isX 0 (c:=.ref cx_TooGreat) (cv:=.ref cx_TooGreat) (fun _ h=>h) kx_TooGreat rfl B.isinstance boot_isinstance (pe_glob (u:=.ref cx_TooGreat) rfl mx_TooGreat rfl)) da_nil)))))))) (dss_cons (ds_if (DWt.dt (dw_or (dt_not (dt_tru (DE.dv (de_isX 0 (c:=.type "ValueError") (cv:=.ty "ValueError") (fun _ h=>h) XF.b_ValueError rfl B.isinstance boot_isinstance (pe_bltn (u:=.type "ValueError") rfl B.ValueError (by decide +kernel) rfl))))) (dw_or1 (dt_tru (DE.dv (de_isXT 0 (cs:=[.type "LookupError",.type "TypeError",.type "ArithmeticError",.type "RuntimeError"]) (cvs:=[.ty "LookupError",.ty "TypeError",.ty "ArithmeticError",.ty "RuntimeError"]) (vals_cls [(.ty "LookupError",.type "LookupError"),(.ty "TypeError",.type "TypeError"),(.ty "ArithmeticError",.type "ArithmeticError"),(.ty "RuntimeError",.type "RuntimeError")] (by intro p hp u hu;simp only [List.mem_cons,List.not_mem_nil,or_false] at hp;rcases hp with rfl | rfl | rfl | rfl <;> exact hu)) kt_0 rfl B.isinstance boot_isinstance (pa_tyCons (pe_bltn (u:=.type "LookupError") rfl B.LookupError (by decide +kernel) rfl) (pa_tyCons (pe_bltn (u:=.type "TypeError") rfl B.TypeError (by decide +kernel) rfl) (pa_tyCons (pe_bltn (u:=.type "ArithmeticError") rfl B.ArithmeticError (by decide +kernel) rfl) (pa_tyCons (pe_bltn (u:=.type "RuntimeError") rfl B.RuntimeError (by decide +kernel) rfl) pa_tyNil)))) (Nat.le_of_ble_eq_true rfl))))))) (dss_one (ds_ret (de_tup (da_cons de_str da_nil sE_C)))) dss_nil) (dss_cons (ds_if (dt_cmp (o_ne0 hr) (DE.dv (de_countX (dv_own 1) de_bl)) (DE.dv de_int) (nomark _)) (dss_one (ds_ret (de_tup (da_cons de_str da_nil sE_C)))) dss_nil) (dss_cons (ds_set (i:=2) sc__law_refusal.nd rfl (Or.inl rfl) (de_ix (DE.dv (DF.de (df_lst (da_cons de_str (da_cons de_str (da_cons de_str (da_cons de_str (da_cons de_str (da_cons de_str (da_cons de_str da_nil sE_C) sE_C) sE_C) sE_C) sE_C) sE_C) sE_C)))) (de_indexX (dv_own 1) de_bl) (fun _ _=>rfl))) (dss_cons (ds_if (dt_cmp (o_eq0 hr) (dv_own 2) (DE.dv de_str) (nomark _)) (dss_one (ds_ret (de_tup (da_cons (de_var 2) (da_cons de_neverE (da_cons de_neverE da_nil)))))) dss_nil) (dss_cons (ds_if (dt_cmp (o_eq0 hr) (dv_own 2) (DE.dv de_str) (nomark _)) (dss_one (ds_ret (de_tup (da_cons (de_var 2) (da_cons de_neverE da_nil))))) dss_nil) (dss_one (ds_ret (de_ifExp (dt_cmp (o_eq0 hr) (dv_own 2) (DE.dv de_str) (nomark _)) (de_tup (da_cons (de_var 2) (da_cons de_neverE da_nil))) (de_tup (da_cons (de_var 2) da_nil)))))))))))),?_⟩
 walk_at "ds"
 simp only [List.mem_cons,List.not_mem_nil,or_false] at hc
 subst hc
 simp only [show tabX (["NoStep"]:List Str) "NoBeat" "NoStep" = some false by decide +kernel,show tabX (["NoStep"]:List Str) "NoStep" "NoStep" = some true by decide +kernel,show tabX (["NoStep"]:List Str) "NoNumber" "NoStep" = some false by decide +kernel,show tabX (["NoStep"]:List Str) "NoLine" "NoStep" = some false by decide +kernel,show tabX (["NoStep"]:List Str) "NoStory" "NoStep" = some false by decide +kernel,show tabX (["NoStep"]:List Str) "NoText" "NoStep" = some false by decide +kernel,show tabX (["NoStep"]:List Str) "TooGreat" "NoStep" = some false by decide +kernel,show tabB (["NoStep"]:List Str) true "NoStep" = some true by decide +kernel,show tabB (["NoStep"]:List Str) false "NoStep" = some false by decide +kernel]
 walk_at "ds"
 simp only [show boolsD [.bool false,.bool true,.bool false,.bool false,.bool false,.bool false,.bool false]=some [false,true,false,false,false,false,false] by rfl,show List.count true [false,true,false,false,false,false,false]=1 by decide,show List.findIdx? (fun x=>x == true) [false,true,false,false,false,false,false]=some 1 by decide]
 walk_at "ds"
 refine⟨_,atI_nat (j:=1) rfl,?_⟩
 simp only [show ¬ (Str.ofString "step" = Str.ofString "great") by decide +kernel]
 walk_at "ds"
 exact q
end
theorem us_0{us:List Value}(h:us.length=0):us = []:=List.eq_nil_of_length_eq_zero h
theorem us_1{us:List Value}(h:us.length=1):∃ a0,us = [a0]:=by
 cases us with
 | nil=>cases h
 | cons a t =>
  obtain rfl:=us_0 (Nat.succ.inj h)
  exact⟨a,rfl⟩
theorem us_2{us:List Value}(h:us.length=2):∃ a0 a1,us = [a0,a1]:=by
 cases us with
 | nil=>cases h
 | cons a t =>
  obtain⟨a1,rfl⟩:=us_1 (Nat.succ.inj h)
  exact⟨a,a1,rfl⟩
theorem us_3{us:List Value}(h:us.length=3):∃ a0 a1 a2,us = [a0,a1,a2]:=by
 cases us with
 | nil=>cases h
 | cons a t =>
  obtain⟨a1,a2,rfl⟩:=us_2 (Nat.succ.inj h)
  exact⟨a,a1,a2,rfl⟩
theorem cal(P:Program)(w:World)(base:Heap){K:PySem.W.Frag}{h:Heap}{mg:Str->Option Value}{x:Str}{st:Stmt}{k:Nat}{ps:List Str}{sp:Sp}(X:K.In h)(G:h.Ns mainGlobals mg)(p:FnAt K x st)(ok:∀(f:Addr) (fd:FuncData),Fun K x x st f fd->FnOk P w K mg base CX0 k f fd ps sp)(hb:∀ us:List Value,us.length=ps.length->∀(kV doc pm:Value) (an:Option Addr) (cdv ct:Value),bindArgs (PySem.W.fnOf x x (defArgs st) (defBody st) (defScope st) .none kV doc pm an cdv ct) ⟨us,[]⟩=pure (ps.zip us)):Callee P w K mg base k x ps sp :=
 let ⟨f,fd,a,F⟩:=p;⟨f,fd,ok f fd F,F.binds fun a b c d e g us hl=>hb us hl a b c d e g,F.kp,PySem.W.mg_of X G a⟩
theorem calX(P:Program)(w:World)(base:Heap){K:PySem.W.Frag}{h:Heap}{mg:Str->Option Value}{x:Str}{st:Stmt}{k:Nat}{ps:List Str}{sp:Sp}(X:K.In h)(G:h.Ns mainGlobals mg)(p:FnAt K x st)(ok:∀(f:Addr) (fd:FuncData),Fun K x x st f fd->FnOk P w K mg base (CXk P w) k f fd ps sp)(hb:∀ us:List Value,us.length=ps.length->∀(kV doc pm:Value) (an:Option Addr) (cdv ct:Value),bindArgs (PySem.W.fnOf x x (defArgs st) (defBody st) (defScope st) .none kV doc pm an cdv ct) ⟨us,[]⟩=pure (ps.zip us)):CalleeX P w K mg base k x ps sp :=
 let ⟨f,fd,a,F⟩:=p;⟨f,fd,ok f fd F,F.binds fun a b c d e g us hl=>hb us hl a b c d e g,F.kp,PySem.W.mg_of X G a⟩
theorem calH(P:Program)(w:World)(base:Heap){K:PySem.W.Frag}{h:Heap}{mg:Str->Option Value}{x:Str}{st:Stmt}{k:Nat}{ps:List Str}{sp:Sp}(X:K.In h)(G:h.Ns mainGlobals mg)(p:FnAt K x st)(ok:∀(f:Addr) (fd:FuncData),Fun K x x st f fd->FnH P w K mg base k f fd ps sp)(hb:∀ us:List Value,us.length=ps.length->∀(kV doc pm:Value) (an:Option Addr) (cdv ct:Value),bindArgs (PySem.W.fnOf x x (defArgs st) (defBody st) (defScope st) .none kV doc pm an cdv ct) ⟨us,[]⟩=pure (ps.zip us)):CalleeH P w K mg base k x ps sp :=
 let ⟨f,fd,a,F⟩:=p;⟨f,fd,ok f fd F,F.binds fun a b c d e g us hl=>hb us hl a b c d e g,F.kp,PySem.W.mg_of X G a⟩
theorem uq_1{p:List Value->Prop}(h:∀ a0,p [a0])(us:List Value)(hl:us.length=1):p us:=by
 obtain⟨a0,rfl⟩:=us_1 hl
 exact h a0
theorem uq_2{p:List Value->Prop}(h:∀ a0 a1,p [a0,a1])(us:List Value)(hl:us.length=2):p us:=by
 obtain⟨a0,a1,rfl⟩:=us_2 hl
 exact h a0 a1
theorem uq_3{p:List Value->Prop}(h:∀ a0 a1 a2,p [a0,a1,a2])(us:List Value)(hl:us.length=3):p us:=by
 obtain⟨a0,a1,a2,rfl⟩:=us_3 hl
 exact h a0 a1 a2
theorem all_mk{l:PySem.W.OpenLaw}{w:World}{K:PySem.W.Frag}{h:Heap}{mg:Str->Option Value}{fa  : Addr}(X:K.In h)(G:h.Ns mainGlobals mg)(hfa:mg "law" = some (.ref fa))
  (p0:FnAt K "is_whole" s_is_whole)
  (p1:FnAt K "whole_in" s_whole_in)
  (p2:FnAt K "stretch_good" s_stretch_good)
  (p3:FnAt K "story_good" s_story_good)
  (p4:FnAt K "silent_at" s_silent_at)
  (p5:FnAt K "look_good" s_look_good)
  (p6:FnAt K "looks_good" s_looks_good)
  (p7:FnAt K "holds" s_holds)
  (p8:FnAt K "story_for" s_story_for)
  (p9:FnAt K "_law_cell_at" s__law_cell_at)
  (p10:FnAt K "_law_next" s__law_next)
  (p11:FnAt K "_law_pen_of" s__law_pen_of)
  (p12:FnAt K "_law_draw" s__law_draw)
  (p13:FnAt K "_law_odd" s__law_odd)
  (p14:FnAt K "_law_refusal" s__law_refusal)
  (p15:FnAt K "_law_whole" s__law_whole)
  (p16:FnAt K "_law_small" s__law_small)
  (p17:FnAt K "_law_is_silent" s__law_is_silent)
  (p18:FnAt K "_law_looks" s__law_looks)
  (p19:FnAt K "_law_bent" s__law_bent)
  (p20:FnAt K "_law_good" s__law_good)
  (p21:FnAt K "_law_due" s__law_due)
  (p22:FnAt K "_law_told" s__law_told)
  (p23:FnAt K "_law_right" s__law_right)
  (p24:FnAt K "law" s_law)
  (z_len:PySem.W.nsIn K mainGlobals "len" = some none)
  (z_range:PySem.W.nsIn K mainGlobals "range" = some none)
  (z_max:PySem.W.nsIn K mainGlobals "max" = some none)
  (z_repr:PySem.W.nsIn K mainGlobals "repr" = some none)
  (z_isinstance:PySem.W.nsIn K mainGlobals "isinstance" = some none)
  (z_any:PySem.W.nsIn K mainGlobals "any" = some none)
  (z_all:PySem.W.nsIn K mainGlobals "all" = some none)
  (z_sorted:PySem.W.nsIn K mainGlobals "sorted" = some none)
  (z_tupleT:PySem.W.nsIn K mainGlobals "tuple" = some none)
  (z_intT:PySem.W.nsIn K mainGlobals "int" = some none)
  (z_listT:PySem.W.nsIn K mainGlobals "list" = some none)
  (z_strT:PySem.W.nsIn K mainGlobals "str" = some none)
  (z_boolT:PySem.W.nsIn K mainGlobals "bool" = some none)
  (z_ValueError:PySem.W.nsIn K mainGlobals "ValueError" = some none)
  (z_LookupError:PySem.W.nsIn K mainGlobals "LookupError" = some none)
  (z_TypeError:PySem.W.nsIn K mainGlobals "TypeError" = some none)
  (z_ArithmeticError:PySem.W.nsIn K mainGlobals "ArithmeticError" = some none)
  (z_RuntimeError:PySem.W.nsIn K mainGlobals "RuntimeError" = some none)
  {t_LAST_BEAT:Tok} (y_LAST_BEAT:PySem.W.nsIn K mainGlobals "LAST_BEAT" = some (some (.int 1000000 t_LAST_BEAT)))
  {t_MOST_STRETCHES:Tok} (y_MOST_STRETCHES:PySem.W.nsIn K mainGlobals "MOST_STRETCHES" = some (some (.int 200 t_MOST_STRETCHES)))
  {t_MOST_LOOKS:Tok} (y_MOST_LOOKS:PySem.W.nsIn K mainGlobals "MOST_LOOKS" = some (some (.int 12 t_MOST_LOOKS)))
  {t_SILENT:Tok} (y_SILENT:PySem.W.nsIn K mainGlobals "SILENT" = some (some (.str "silent" t_SILENT)))
  {t_SOUND:Tok} (y_SOUND:PySem.W.nsIn K mainGlobals "SOUND" = some (some (.str "sound" t_SOUND)))
  {c_NoStep:Addr} (xa_NoStep:PySem.W.nsIn K mainGlobals "NoStep" = some (some (.ref c_NoStep)))
  {c_KnockError:Addr} (xa_KnockError:PySem.W.nsIn K mainGlobals "KnockError" = some (some (.ref c_KnockError)))
  {c_NoBeat:Addr} (xa_NoBeat:PySem.W.nsIn K mainGlobals "NoBeat" = some (some (.ref c_NoBeat)))
  {c_NoNumber:Addr} (xa_NoNumber:PySem.W.nsIn K mainGlobals "NoNumber" = some (some (.ref c_NoNumber)))
  {c_NoLine:Addr} (xa_NoLine:PySem.W.nsIn K mainGlobals "NoLine" = some (some (.ref c_NoLine)))
  {c_NoStory:Addr} (xa_NoStory:PySem.W.nsIn K mainGlobals "NoStory" = some (some (.ref c_NoStory)))
  {c_NoText:Addr} (xa_NoText:PySem.W.nsIn K mainGlobals "NoText" = some (some (.ref c_NoText)))
  {c_TooGreat:Addr} (xa_TooGreat:PySem.W.nsIn K mainGlobals "TooGreat" = some (some (.ref c_TooGreat)))
  (xd_NoStep:PySem.W.hasDictIn K c_NoStep=true)
  (xt_NoStep:PySem.W.typeIn K (.ref c_NoStep)=some (.type "type"))
  (xd_KnockError:PySem.W.hasDictIn K c_KnockError=true)
  (xt_KnockError:PySem.W.typeIn K (.ref c_KnockError)=some (.type "type"))
  (xd_NoBeat:PySem.W.hasDictIn K c_NoBeat=true)
  (xt_NoBeat:PySem.W.typeIn K (.ref c_NoBeat)=some (.type "type"))
  (xd_NoNumber:PySem.W.hasDictIn K c_NoNumber=true)
  (xt_NoNumber:PySem.W.typeIn K (.ref c_NoNumber)=some (.type "type"))
  (xd_NoLine:PySem.W.hasDictIn K c_NoLine=true)
  (xt_NoLine:PySem.W.typeIn K (.ref c_NoLine)=some (.type "type"))
  (xd_NoStory:PySem.W.hasDictIn K c_NoStory=true)
  (xt_NoStory:PySem.W.typeIn K (.ref c_NoStory)=some (.type "type"))
  (xd_NoText:PySem.W.hasDictIn K c_NoText=true)
  (xt_NoText:PySem.W.typeIn K (.ref c_NoText)=some (.type "type"))
  (xd_TooGreat:PySem.W.hasDictIn K c_TooGreat=true)
  (xt_TooGreat:PySem.W.typeIn K (.ref c_TooGreat)=some (.type "type"))
  (xsp:PySem.W.specialIn K (.builtin "object.__class__") "__get__" = some (some (.builtin "getset_descriptor.__get__")))
  (xtk:PySem.W.takesIn K (.builtin "object.__class__")=some true)
  (xkb:PySem.W.subIn K (.ref c_KnockError) (.type "BaseException")=some true)
  (xe_NoStep:PySem.W.excIn K c_NoStep [.type "ValueError",.type "Exception",.type "BaseException",.type "object"] "ValueError.__new__" = true)
  (xg_NoStep:PySem.W.findIn K (.ref c_NoStep) "__getattribute__" = some (some (.builtin "BaseException.__getattribute__")))
  (xh_NoStep:PySem.W.findIn K (.ref c_NoStep) "__getattr__" = some none)
  (xo_NoStep:PySem.W.mroIn K c_NoStep (.type "BaseException")=some true)
  (xf_NoStep:PySem.W.findIn K (.ref c_NoStep) "__class__" = some (some (.builtin "object.__class__")))
  (xm_NoStep:PySem.W.mroIn K c_NoStep (.type "object")=some true)
  (xs_NoStep_KnockError:PySem.W.subIn K (.ref c_NoStep) (.ref c_KnockError)=some true)
  (xs_NoStep_NoBeat:PySem.W.subIn K (.ref c_NoStep) (.ref c_NoBeat)=some false)
  (xn_NoStep_NoBeat:c_NoStep≠c_NoBeat)
  (xs_NoStep_NoNumber:PySem.W.subIn K (.ref c_NoStep) (.ref c_NoNumber)=some false)
  (xn_NoStep_NoNumber:c_NoStep≠c_NoNumber)
  (xs_NoStep_NoLine:PySem.W.subIn K (.ref c_NoStep) (.ref c_NoLine)=some false)
  (xn_NoStep_NoLine:c_NoStep≠c_NoLine)
  (xs_NoStep_NoStory:PySem.W.subIn K (.ref c_NoStep) (.ref c_NoStory)=some false)
  (xn_NoStep_NoStory:c_NoStep≠c_NoStory)
  (xs_NoStep_NoText:PySem.W.subIn K (.ref c_NoStep) (.ref c_NoText)=some false)
  (xn_NoStep_NoText:c_NoStep≠c_NoText)
  (xs_NoStep_TooGreat:PySem.W.subIn K (.ref c_NoStep) (.ref c_TooGreat)=some false)
  (xn_NoStep_TooGreat:c_NoStep≠c_TooGreat)
  (xb_NoStep_ValueError:PySem.W.subIn K (.ref c_NoStep) (.type "ValueError")=some true)
  (xb_NoStep_LookupError:PySem.W.subIn K (.ref c_NoStep) (.type "LookupError")=some false)
  (xb_NoStep_TypeError:PySem.W.subIn K (.ref c_NoStep) (.type "TypeError")=some false)
  (xb_NoStep_ArithmeticError:PySem.W.subIn K (.ref c_NoStep) (.type "ArithmeticError")=some false)
  (xb_NoStep_RuntimeError:PySem.W.subIn K (.ref c_NoStep) (.type "RuntimeError")=some false)
  : ∃ fd:FuncData,(∀(s:Shared) (v:Value),BindsTo s fd ⟨[v],[]⟩ [("_law_script",v)])/\∀ base:Heap,K.In base->base.Ns mainGlobals mg->FnOk l.prog w K mg base CX0 9 fa fd ["_law_script"] (cnSp K sp_law):=by
 obtain⟨f24,fd24,a24,F24⟩:=p24
 have e:=hfa.symm.trans (PySem.W.mg_of X G a24)
 cases e
 have B:Blt mg:=⟨PySem.W.mg_none_of X G z_len,PySem.W.mg_none_of X G z_range,PySem.W.mg_none_of X G z_max,PySem.W.mg_none_of X G z_repr,PySem.W.mg_none_of X G z_isinstance,PySem.W.mg_none_of X G z_any,PySem.W.mg_none_of X G z_all,PySem.W.mg_none_of X G z_sorted,PySem.W.mg_none_of X G z_tupleT,PySem.W.mg_none_of X G z_intT,PySem.W.mg_none_of X G z_listT,PySem.W.mg_none_of X G z_strT,PySem.W.mg_none_of X G z_boolT,PySem.W.mg_none_of X G z_ValueError,PySem.W.mg_none_of X G z_LookupError,PySem.W.mg_none_of X G z_TypeError,PySem.W.mg_none_of X G z_ArithmeticError,PySem.W.mg_none_of X G z_RuntimeError⟩
 have G_LAST_BEAT:=PySem.W.mg_of X G y_LAST_BEAT
 have G_MOST_STRETCHES:=PySem.W.mg_of X G y_MOST_STRETCHES
 have G_MOST_LOOKS:=PySem.W.mg_of X G y_MOST_LOOKS
 have G_SILENT:=PySem.W.mg_of X G y_SILENT
 have G_SOUND:=PySem.W.mg_of X G y_SOUND
 have xi_NoStep:XIs K c_NoStep:=⟨xg_NoStep,xh_NoStep,xo_NoStep,xd_NoStep,xf_NoStep,xsp,xtk,xm_NoStep⟩
 have XF:Xf K mg:=⟨⟨_,PySem.W.mg_of X G xa_NoStep,xa_NoStep,xe_NoStep⟩,⟨_,PySem.W.mg_of X G xa_KnockError,(fa_cons (ns_at xa_NoStep ⟨kitCls_of xd_KnockError xt_KnockError xs_NoStep_KnockError,xkb⟩) fa_nil)⟩,⟨_,PySem.W.mg_of X G xa_NoBeat,tab_of (c:=fun _=>True) tabX_in (fa_cons (tab_at (v:=false) xa_NoStep (by decide +kernel) ⟨xi_NoStep,(kitOne_ne xn_NoStep_NoBeat (kitCls_of xd_NoBeat xt_NoBeat xs_NoStep_NoBeat))⟩) fa_nil)⟩,⟨_,PySem.W.mg_of X G xa_NoStep,tab_of (c:=fun _=>True) tabX_in (fa_cons (tab_at (v:=true) xa_NoStep (by decide +kernel) ⟨xi_NoStep,kitOne_self⟩) fa_nil)⟩,⟨_,PySem.W.mg_of X G xa_NoNumber,tab_of (c:=fun _=>True) tabX_in (fa_cons (tab_at (v:=false) xa_NoStep (by decide +kernel) ⟨xi_NoStep,(kitOne_ne xn_NoStep_NoNumber (kitCls_of xd_NoNumber xt_NoNumber xs_NoStep_NoNumber))⟩) fa_nil)⟩,⟨_,PySem.W.mg_of X G xa_NoLine,tab_of (c:=fun _=>True) tabX_in (fa_cons (tab_at (v:=false) xa_NoStep (by decide +kernel) ⟨xi_NoStep,(kitOne_ne xn_NoStep_NoLine (kitCls_of xd_NoLine xt_NoLine xs_NoStep_NoLine))⟩) fa_nil)⟩,⟨_,PySem.W.mg_of X G xa_NoStory,tab_of (c:=fun _=>True) tabX_in (fa_cons (tab_at (v:=false) xa_NoStep (by decide +kernel) ⟨xi_NoStep,(kitOne_ne xn_NoStep_NoStory (kitCls_of xd_NoStory xt_NoStory xs_NoStep_NoStory))⟩) fa_nil)⟩,⟨_,PySem.W.mg_of X G xa_NoText,tab_of (c:=fun _=>True) tabX_in (fa_cons (tab_at (v:=false) xa_NoStep (by decide +kernel) ⟨xi_NoStep,(kitOne_ne xn_NoStep_NoText (kitCls_of xd_NoText xt_NoText xs_NoStep_NoText))⟩) fa_nil)⟩,⟨_,PySem.W.mg_of X G xa_TooGreat,tab_of (c:=fun _=>True) tabX_in (fa_cons (tab_at (v:=false) xa_NoStep (by decide +kernel) ⟨xi_NoStep,(kitOne_ne xn_NoStep_TooGreat (kitCls_of xd_TooGreat xt_TooGreat xs_NoStep_TooGreat))⟩) fa_nil)⟩,(tab_of (c:=fun _=>True) tabB_in (fa_cons (tab_at (v:=true) xa_NoStep (by decide +kernel) ⟨xi_NoStep,(kitOne_ty (by decide +kernel) xb_NoStep_ValueError)⟩) fa_nil)),(tab_of (c:=fun _=>True) tabB_in (fa_cons (tab_at (v:=false) xa_NoStep (by decide +kernel) ⟨xi_NoStep,(kitAny_no (kitOne_ty (by decide +kernel) xb_NoStep_LookupError) (kitAny_no (kitOne_ty (by decide +kernel) xb_NoStep_TypeError) (kitAny_no (kitOne_ty (by decide +kernel) xb_NoStep_ArithmeticError) (kitAny_no (kitOne_ty (by decide +kernel) xb_NoStep_RuntimeError) kitAny_nil))))⟩) fa_nil))⟩
 refine⟨fd24,fun s v=>law_binds F24 (fun _ _ _ _ _ _=>rfl),fun base _ _=>?_⟩
 have C_is_whole:=cal l.prog w base X G p0 (fun _ _ F=>ok_is_whole B F  ) (uq_1 fun _ _ _ _ _ _ _=>rfl)
 have C_silent_at:=cal l.prog w base X G p4 (fun _ _ F=>ok_silent_at B F  ) (uq_2 fun _ _ _ _ _ _ _ _=>rfl)
 have C__law_cell_at:=cal l.prog w base X G p9 (fun _ _ F=>ok__law_cell_at B F  ) (uq_2 fun _ _ _ _ _ _ _ _=>rfl)
 have C__law_next:=cal l.prog w base X G p10 (fun _ _ F=>ok__law_next B F  ) (uq_1 fun _ _ _ _ _ _ _=>rfl)
 have C__law_pen_of:=cal l.prog w base X G p11 (fun _ _ F=>ok__law_pen_of B F  ) (uq_1 fun _ _ _ _ _ _ _=>rfl)
 have C__law_refusal:=calH l.prog w base X G p14 (fun _ _ F=>ok__law_refusal B F  XF ) (uq_1 fun _ _ _ _ _ _ _=>rfl)
 have C__law_whole:=cal l.prog w base X G p15 (fun _ _ F=>ok__law_whole B F  ) (uq_1 fun _ _ _ _ _ _ _=>rfl)
 have C__law_is_silent:=cal l.prog w base X G p17 (fun _ _ F=>ok__law_is_silent B F  ) (uq_2 fun _ _ _ _ _ _ _ _=>rfl)
 have C__law_due:=cal l.prog w base X G p21 (fun _ _ F=>ok__law_due B F  ) (uq_1 fun _ _ _ _ _ _ _=>rfl)
 have C_whole_in:=cal l.prog w base X G p1 (fun _ _ F=>ok_whole_in B F  C_is_whole) (uq_3 fun _ _ _ _ _ _ _ _ _=>rfl)
 have C_stretch_good:=cal l.prog w base X G p2 (fun _ _ F=>ok_stretch_good B F G_LAST_BEAT C_is_whole) (uq_1 fun _ _ _ _ _ _ _=>rfl)
 have C__law_draw:=cal l.prog w base X G p12 (fun _ _ F=>ok__law_draw B F  C__law_next) (uq_2 fun _ _ _ _ _ _ _ _=>rfl)
 have C__law_good:=cal l.prog w base X G p20 (fun _ _ F=>ok__law_good B F  C__law_whole) (uq_1 fun _ _ _ _ _ _ _=>rfl)
 have C_story_good:=cal l.prog w base X G p3 (fun _ _ F=>ok_story_good B F G_MOST_STRETCHES C_stretch_good) (uq_1 fun _ _ _ _ _ _ _=>rfl)
 have C_look_good:=cal l.prog w base X G p5 (fun _ _ F=>ok_look_good B F G_LAST_BEAT G_SILENT G_SOUND C_whole_in) (uq_1 fun _ _ _ _ _ _ _=>rfl)
 have C__law_odd:=cal l.prog w base X G p13 (fun _ _ F=>ok__law_odd B F  C__law_draw) (uq_1 fun _ _ _ _ _ _ _=>rfl)
 have C__law_small:=cal l.prog w base X G p16 (fun _ _ F=>ok__law_small B F  C__law_draw) (uq_1 fun _ _ _ _ _ _ _=>rfl)
 have C__law_looks:=cal l.prog w base X G p18 (fun _ _ F=>ok__law_looks B F  C__law_draw C__law_is_silent) (uq_3 fun _ _ _ _ _ _ _ _ _=>rfl)
 have C_looks_good:=cal l.prog w base X G p6 (fun _ _ F=>ok_looks_good B F G_MOST_LOOKS C_look_good) (uq_1 fun _ _ _ _ _ _ _=>rfl)
 have C__law_bent:=cal l.prog w base X G p19 (fun _ _ F=>ok__law_bent B F  C__law_draw C__law_odd) (uq_2 fun _ _ _ _ _ _ _ _=>rfl)
 have C_holds:=cal l.prog w base X G p7 (fun _ _ F=>ok_holds B F G_SILENT C_silent_at C_looks_good) (uq_2 fun _ _ _ _ _ _ _ _=>rfl)
 have C_story_for:=calX l.prog w base X G p8 (fun _ _ F=>ok_story_for B F G_SOUND XF C_looks_good C_holds) (uq_1 fun _ _ _ _ _ _ _=>rfl)
 have C__law_told:=cal l.prog w base X G p22 (fun _ _ F=>ok__law_told B F  XF C_story_for C__law_refusal) (uq_1 fun _ _ _ _ _ _ _=>rfl)
 have C__law_right:=cal l.prog w base X G p23 (fun _ _ F=>ok__law_right B F  C_story_good C_holds C__law_is_silent C__law_good C__law_due C__law_told) (uq_2 fun _ _ _ _ _ _ _ _=>rfl)
 exact ok_law B F24  C__law_cell_at C__law_pen_of C__law_odd C__law_small C__law_looks C__law_bent C__law_right
theorem walk{l:PySem.W.OpenLaw}{q:Program}{loose:List Str}{XP:(Str->Option Value)->Heap->Prop}{YP:World->Heap->Prop}{d:DefRec}{K:Params->PySem.W.Frag}(hn:l.most=some 63)(hdf:d.params.defaults = [])
  (hY:∀(w:World) (h:Heap),YP w h->(K w.params).In h)
  (F:∀(w:World) (mg:Str->Option Value) (fa:Addr) (h:Heap),(K w.params).In h->h.Ns mainGlobals mg->mg d.name=some (.ref fa) ->
   ∃ fd:FuncData,(∀(s:Shared) (u:Value),BindsTo s fd ⟨[u],[]⟩ [("_law_script",u)])/\∀ base:Heap,(K w.params).In base->base.Ns mainGlobals mg->FnOk l.prog w (K w.params) mg base CX0 9 fa fd ["_law_script"] (cnSp (K w.params) sp_law)) :
  PySem.W.WalkO q loose XP YP l.row.toRowW d [] (fun f vs=>PySem.call f vs) :=
 L2.walk_of (n:=63) (k:=9) (x := "_law_script") (CX:=fun _=>CX0) (sp:=fun w=>cnSp (K w.params) sp_law) hn (by decide) hdf ⟨rfl,by decide,by decide,rfl⟩ hY F (fun _ _ a ns hl _ hS=>⟨[.scr ns],fun r=>r=.val (.bool true),.cons ⟨a,rfl,hS⟩ .nil,⟨ns,rfl,hl,rfl⟩,fun v H' r _ rp e=>by subst e;cases rp;rfl⟩) fun _ _ _ _ _ z=>z
end My
namespace PySem.W.Fast
def tw10039925425662690407:=()
def tw1677228096820778902:=()
def tw10804806906995696375:=()
def tw15238828757367371910:=()
def tw17424782641739124840:=()
def tw12915016135587959464:=()
def tw11572642849315837849:=()
def tw2799369660127162037:=()
def tw3276042920221361902:=()
def tw14352251540256050772:=()
def tw10679169775620585998:=()
def tw12407823753449601136:=()
def tw5556401819338238442:=()
def tw2821906119055218728:=()
def tw1460522477330162829:=()
def tw8016813867167464111:=()
def tw978519751037453934:=()
def tw4466549149786340034:=()
def tw5222614742274997100:=()
def tw17541778097982968424:=()
def tw11994759607875066707:=()
def tw14652944507835625847:=()
def tw4754589109831538572:=()
def tw4841204068022773663:=()
def tw10281358863996399358:=()
def tw11542987357678028480:=()
def tw9928086105014303975:=()
def tw7973255794536987350:=()
def tw14985192829186978110:=()
def tw1286291797003209808:=()
def tw11260954993426717357:=()
def tw15443012650819738955:=()
def tw7753243151638828508:=()
def tw15726878033870637774:=()
def tw964496286484115447:=()
def tw2743127642280992150:=()
def tw9262259792774448669:=()
def tw3721300918059386236:=()
def tw17967724032285376310:=()
def tw7116526649837703010:=()
def tw14289618907349078469:=()
def tw6304676321429262341:=()
def tw17435769120070569804:=()
def tw11336072600627274747:=()
def tw9479496051994841247:=()
def tw1692387711094432649:=()
def tw2759406744178402923:=()
def tw14085589733589189418:=()
def tw10017499287893605729:=()
def tw9859010694352622159:=()
def tw15631924039765034583:=()
def tw9664953177199215960:=()
def tw17284442988422413446:=()
def tw13869566272998327387:=()
def tw12759522140572596982:=()
def tw12440098222565754683:=()
def tw13718884185399706703:=()
def tw12543267979649428194:=()
def tw5200420215886366189:=()
def tw3714519412344627288:=()
def tw8849634028336266187:=()
def tw9586322957276468675:=()
def tw3381526624374663821:=()
def tw14276263968786884116:=()
def tw125579506469557956:=()
def tw823872850593188583:=()
def tw12075517954667319874:=()
def tw8623927864338901695:=()
def tw15093494618965794893:=()
def tw15440449215204725846:=()
def tw3503291016373903263:=()
def tw2021054699709958763:=()
def tw5802601967586504766:=()
def tw11543009922174800211:=()
def tw3203912357576607076:=()
def tw15558682026835260487:=()
def tw3465468504971205512:=()
def tw2243773976571320848:=()
def tw14974817945413609345:=()
def tw5997238449155088694:=()
def tw8057101428912457332:=()
def tw13461748329631617008:=()
def tw12191967909411608481:=()
def tw11374022733440096056:=()
def tw15279711549042561930:=()
def tw4540509028297160871:=()
def tw13885185295593052806:=()
def tw6734142501924820843:=()
def tw3925640160406593698:=()
def tw8547703182158279080:=()
def tw491231668201906025:=()
def tw10842087363119073646:=()
def tw12327773055453943417:=()
def tw14965726957633620027:=()
def tw13499927306867956371:=()
def tw12912074333318962220:=()
def tw2534621331622675797:=()
end PySem.W.Fast
open PySem PySem.W PyProof.Rows
local macro_rules | `(tactic| walk_at "fn")=>`(tactic| (refine' My.fn_at ?a ?l ?c ?k;(case a=>k_is);(case l=>k_is);(case c=>k_is);(case k=>k_is)))
set_option maxRecDepth 100000 in
set_option maxHeartbeats 0 in
theorem PySem.Challenge.cw_knockpurse_k16_looks_at_a_house_holds : PySem.Challenge.rw_knockpurse_k16_looks_at_a_house.Holds := by
 w_on;o_law;k_head;(case hw=>w_witness2)
 k_fill
 refine My.walk (l:=PySem.Challenge.rw_knockpurse_k16_looks_at_a_house) rfl rfl (fun w h Y=>PySem.W.kIn_of Y) ?F
 case F =>
  intro w mg fa h KX G hmg
  refine' My.all_mk KX G hmg ?p0 ?p1 ?p2 ?p3 ?p4 ?p5 ?p6 ?p7 ?p8 ?p9 ?p10 ?p11 ?p12 ?p13 ?p14 ?p15 ?p16 ?p17 ?p18 ?p19 ?p20 ?p21 ?p22 ?p23 ?p24 ?z_len ?z_range ?z_max ?z_repr ?z_isinstance ?z_any ?z_all ?z_sorted ?z_tupleT ?z_intT ?z_listT ?z_strT ?z_boolT ?z_ValueError ?z_LookupError ?z_TypeError ?z_ArithmeticError ?z_RuntimeError ?y_LAST_BEAT ?y_MOST_STRETCHES ?y_MOST_LOOKS ?y_SILENT ?y_SOUND ?xa_NoStep ?xa_KnockError ?xa_NoBeat ?xa_NoNumber ?xa_NoLine ?xa_NoStory ?xa_NoText ?xa_TooGreat ?xd_NoStep ?xt_NoStep ?xd_KnockError ?xt_KnockError ?xd_NoBeat ?xt_NoBeat ?xd_NoNumber ?xt_NoNumber ?xd_NoLine ?xt_NoLine ?xd_NoStory ?xt_NoStory ?xd_NoText ?xt_NoText ?xd_TooGreat ?xt_TooGreat ?xsp ?xtk ?xkb ?xe_NoStep ?xg_NoStep ?xh_NoStep ?xo_NoStep ?xf_NoStep ?xm_NoStep ?xs_NoStep_KnockError ?xs_NoStep_NoBeat ?xn_NoStep_NoBeat ?xs_NoStep_NoNumber ?xn_NoStep_NoNumber ?xs_NoStep_NoLine ?xn_NoStep_NoLine ?xs_NoStep_NoStory ?xn_NoStep_NoStory ?xs_NoStep_NoText ?xn_NoStep_NoText ?xs_NoStep_TooGreat ?xn_NoStep_TooGreat ?xb_NoStep_ValueError ?xb_NoStep_LookupError ?xb_NoStep_TypeError ?xb_NoStep_ArithmeticError ?xb_NoStep_RuntimeError
  (case p0=>walk_at "fn")
  (case p1=>walk_at "fn")
  (case p2=>walk_at "fn")
  (case p3=>walk_at "fn")
  (case p4=>walk_at "fn")
  (case p5=>walk_at "fn")
  (case p6=>walk_at "fn")
  (case p7=>walk_at "fn")
  (case p8=>walk_at "fn")
  (case p9=>walk_at "fn")
  (case p10=>walk_at "fn")
  (case p11=>walk_at "fn")
  (case p12=>walk_at "fn")
  (case p13=>walk_at "fn")
  (case p14=>walk_at "fn")
  (case p15=>walk_at "fn")
  (case p16=>walk_at "fn")
  (case p17=>walk_at "fn")
  (case p18=>walk_at "fn")
  (case p19=>walk_at "fn")
  (case p20=>walk_at "fn")
  (case p21=>walk_at "fn")
  (case p22=>walk_at "fn")
  (case p23=>walk_at "fn")
  (case p24=>walk_at "fn")
  (case z_len=>k_is)
  (case z_range=>k_is)
  (case z_max=>k_is)
  (case z_repr=>k_is)
  (case z_isinstance=>k_is)
  (case z_any=>k_is)
  (case z_all=>k_is)
  (case z_sorted=>k_is)
  (case z_tupleT=>k_is)
  (case z_intT=>k_is)
  (case z_listT=>k_is)
  (case z_strT=>k_is)
  (case z_boolT=>k_is)
  (case z_ValueError=>k_is)
  (case z_LookupError=>k_is)
  (case z_TypeError=>k_is)
  (case z_ArithmeticError=>k_is)
  (case z_RuntimeError=>k_is)
  (case y_LAST_BEAT=>k_is)
  (case y_MOST_STRETCHES=>k_is)
  (case y_MOST_LOOKS=>k_is)
  (case y_SILENT=>k_is)
  (case y_SOUND=>k_is)
  (case xa_NoStep=>k_is)
  (case xa_KnockError=>k_is)
  (case xa_NoBeat=>k_is)
  (case xa_NoNumber=>k_is)
  (case xa_NoLine=>k_is)
  (case xa_NoStory=>k_is)
  (case xa_NoText=>k_is)
  (case xa_TooGreat=>k_is)
  (case xd_NoStep=>k_is)
  (case xt_NoStep=>k_is)
  (case xd_KnockError=>k_is)
  (case xt_KnockError=>k_is)
  (case xd_NoBeat=>k_is)
  (case xt_NoBeat=>k_is)
  (case xd_NoNumber=>k_is)
  (case xt_NoNumber=>k_is)
  (case xd_NoLine=>k_is)
  (case xt_NoLine=>k_is)
  (case xd_NoStory=>k_is)
  (case xt_NoStory=>k_is)
  (case xd_NoText=>k_is)
  (case xt_NoText=>k_is)
  (case xd_TooGreat=>k_is)
  (case xt_TooGreat=>k_is)
  (case xsp=>k_is)
  (case xtk=>k_is)
  (case xkb=>k_is)
  (case xe_NoStep=>k_exc)
  (case xg_NoStep=>k_is)
  (case xh_NoStep=>k_is)
  (case xo_NoStep=>k_is)
  (case xf_NoStep=>k_is)
  (case xm_NoStep=>k_is)
  (case xs_NoStep_KnockError=>k_is)
  (case xs_NoStep_NoBeat=>k_is)
  (case xn_NoStep_NoBeat=>decide)
  (case xs_NoStep_NoNumber=>k_is)
  (case xn_NoStep_NoNumber=>decide)
  (case xs_NoStep_NoLine=>k_is)
  (case xn_NoStep_NoLine=>decide)
  (case xs_NoStep_NoStory=>k_is)
  (case xn_NoStep_NoStory=>decide)
  (case xs_NoStep_NoText=>k_is)
  (case xn_NoStep_NoText=>decide)
  (case xs_NoStep_TooGreat=>k_is)
  (case xn_NoStep_TooGreat=>decide)
  (case xb_NoStep_ValueError=>k_is)
  (case xb_NoStep_LookupError=>k_is)
  (case xb_NoStep_TypeError=>k_is)
  (case xb_NoStep_ArithmeticError=>k_is)
  (case xb_NoStep_RuntimeError=>k_is)
