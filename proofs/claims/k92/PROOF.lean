import PyProof.Rows.All
import PyProof.StrReplace2
import Wide.All
import OpenK.AllK
import Wide.FinOn
import Lean
import PyProof.EqAt
import PyProof.EqKinds
import PyProof.TupleCall
import PyProof.ListMulRoad
import PyProof.Lay0
import PyProof.Rows.EqDataRows
import PyProof.ReprRoads
import PyProof.Rows.MinMaxN
import PyProof.ReprLen
import PyProof.FitsInt
import PyProof.MinMaxWalk
import KE.KRevSl
import KE.KRevIter
import PyProof.ListRange
import PyProof.Sched
import PyProof.Rows.SortShellK
import PyProof.Rows.SortRunK
import PyProof.Rows.SortRuns
import PyProof.TupleOfSeq
import PyProof.RulesAs
import OpenK.KDescr
import OpenK.KOwn
import KE.KIsNot
import KE.KIsAll
import PyProof.Rows.SetFrom
import PyProof.WalksMore
import PyProof.CollectWalk
import KE.KLam
import KE.KMinKey
import KE.KSortKey
import KE.KDictList
import KE.KDictOf
import PyProof.Rows.Range3
import PyProof.FactsAll.range
import PyProof.Rows.StrLen
import PyProof.Rows.StrCase
import PyProof.StrBlock2
import PyProof.Rows.StrRules
import PyProof.Rows.RegReprOcc
import PyProof.AttrMissSeq
import PyProof.DictWalks
import KE.KEqDict
import PyProof.ExcInit
import PyProof.ExcClass3
import PyProof.InstStoreFacts
import PySem.Challenge.RW_knockpurse_k92_texts_that_write_no_calle
set_option Elab.async false
set_option linter.all false
set_option maxRecDepth 100000
namespace L2
open PySem PySem.Spec PyProof.Rows
abbrev Key:=Sum Int Str
def keyIs:Key->Value->Bool
 | .inl k,v=>Value.isInt k v
 | .inr x,v=>Value.isStrOf x v
def keyH(w:World):Key->Int
 | .inl k=>hashInt k
 | .inr x=>hashStr w x
theorem keyIs_shape:∀{k:Key} {v:Value},keyIs k v=true->(∃ i t,k=Sum.inl i/\v=Value.int i t)\/(∃ x t,k=Sum.inr x/\v=Value.str x t)
 | .inl i,v,h=>by
  obtain⟨t,e⟩:=Value.isInt_shape (k:=i) (v:=v) h
  exact .inl ⟨i,t,rfl,e⟩
 | .inr x,v,h=>by
  obtain⟨t,e⟩:=Value.isStrOf_shape (x:=x) (v:=v) h
  exact .inr ⟨x,t,rfl,e⟩
theorem keyIs_int(i:Int)(t:Tok):keyIs (.inl i) (.int i t)=true:=by simp [keyIs,Value.isInt]
theorem keyIs_str(x:Str)(t:Tok):keyIs (.inr x) (.str x t)=true:=by simp [keyIs,Value.isStrOf]
theorem key_ll(a b:Int):decide ((Sum.inl a:Key)=Sum.inl b)=(a == b):=by
 by_cases e:a=b
 ·subst e;simp
 ·have h:¬ (Sum.inl a:Key)=Sum.inl b:=fun q=>e (Sum.inl.inj q)
  rw [decide_eq_false h]
  exact(beq_eq_false_iff_ne.mpr e).symm
theorem key_rr(a b:Str):decide ((Sum.inr a:Key)=Sum.inr b)=decide (a=b):=by
 by_cases e:a=b
 ·subst e;simp
 ·have h:¬ (Sum.inr a:Key)=Sum.inr b:=fun q=>e (Sum.inr.inj q)
  rw [decide_eq_false h,decide_eq_false e]
theorem key_lr(a:Int)(b:Str):decide ((Sum.inl a:Key)=Sum.inr b)=false:=decide_eq_false (fun q=>nomatch q)
theorem key_rl(a:Str)(b:Int):decide ((Sum.inr a:Key)=Sum.inl b)=false:=decide_eq_false (fun q=>nomatch q)
def mixKind(prog:Program)(w:World):PySem.KeyKind prog w Key where
 is:=keyIs
 hash:=keyH w
 inj:=fun v a b ha hb=>by
  rcases keyIs_shape ha with⟨i,t,rfl,rfl⟩ | ⟨x,t,rfl,rfl⟩
  ·rcases keyIs_shape hb with⟨j,u,rfl,e⟩ | ⟨y,u,rfl,e⟩
   ·injection e with e1 _;rw [e1]
   ·exact nomatch e
  ·rcases keyIs_shape hb with⟨j,u,rfl,e⟩ | ⟨y,u,rfl,e⟩
   ·exact nomatch e
   ·injection e with e1 _;rw [e1]
 byValue:=fun k v h=>by
  rcases keyIs_shape h with⟨i,t,rfl,rfl⟩ | ⟨x,t,rfl,rfl⟩ <;> rfl
 pyHash:=fun hv h=>by
  rcases keyIs_shape hv with⟨i,t,rfl,rfl⟩ | ⟨x,t,rfl,rfl⟩
  ·exact wpAny_pyHash_int h
  ·exact wpAny_pyHash_str h
 eqBool:=fun hu hv h=>by
  rcases keyIs_shape hu with⟨i,t,rfl,rfl⟩ | ⟨x,t,rfl,rfl⟩
  ·rcases keyIs_shape hv with⟨j,u,rfl,rfl⟩ | ⟨y,u,rfl,rfl⟩
   ·rw [key_ll] at h;exact wpAny_eqBool_int h
   ·rw [key_lr] at h;exact SeqAt.EqAt.int_str i t y u _ _ _ _ h
  ·rcases keyIs_shape hv with⟨j,u,rfl,rfl⟩ | ⟨y,u,rfl,rfl⟩
   ·rw [key_rl] at h;exact SeqAt.EqAt.str_int x t j u _ _ _ _ h
   ·rw [key_rr] at h;exact wpAny_eqBool_str h
 «strs»:=fun k x t v h=>by
  rcases keyIs_shape h with⟨i,u,rfl,e⟩ | ⟨y,u,rfl,e⟩
  ·exact nomatch e
  ·injection e with e1 _
   subst e1
   cases v <;> rfl
theorem mixKind_int(prog:Program)(w:World)(i:Int)(t:Tok):(mixKind prog w).is (.inl i) (.int i t)=true:=keyIs_int i t
theorem mixKind_str(prog:Program)(w:World)(x:Str)(t:Tok):(mixKind prog w).is (.inr x) (.str x t)=true:=keyIs_str x t
inductive V where
 | non | bl (b:Bool) | int (i:Int) | str (x:Str) | byt (b:Array UInt8) | flt (b:UInt64) | ref (a:Addr) | ty (n:String)
 deriving DecidableEq
def RelV:V->Value->Prop
 | .non,u=>u=Value.none
 | .bl b,u=>u=Value.bool b
 | .int i,u=>∃ t,u=Value.int i t
 | .str x,u=>∃ t,u=Value.str x t
 | .byt b,u=>∃ t,u=Value.bytes b t
 | .flt b,u=>∃ t,u=Value.float b t
 | .ref a,u=>u=Value.ref a
 | .ty n,u=>u=Value.type n
abbrev Vals:List V->List Value->Prop:=Paired RelV
theorem Vals.length{xs:List V}{us:List Value}(r:Vals xs us):xs.length=us.length:=Paired.length r
theorem Vals.get:∀{xs:List V} {us:List Value} {i:Nat} {x:V},Vals xs us->xs[i]?=some x->∃ u,us[i]?=some u/\RelV x u
 | _,_,_,_,.nil,e=>by simp at e
 | _,_,0,_,.cons r _,e=>by simp at e;subst e;exact⟨_,rfl,r⟩
 | _,_,i+1,x,.cons _ t,e=>by
  obtain⟨u,h1,h2⟩:=Vals.get (i:=i) (x:=x) t (by simpa using e)
  exact⟨u,by simpa using h1,h2⟩
theorem Vals.set{x:V}{u:Value}(r:RelV x u):∀{xs:List V} {us:List Value} (i:Nat),Vals xs us->Vals (xs.set i x) (us.set i u)
 | _,_,_,.nil=>.nil
 | _,_,0,.cons _ t=>.cons r t
 | _,_,i+1,.cons q t=>.cons q (Vals.set r i t)
theorem Vals.append:∀{xs ys:List V} {us ws:List Value},Vals xs us->Vals ys ws->Vals (xs++ys) (us++ws)
 | _,_,_,_,.nil,s=>s
 | _,_,_,_,.cons r t,s=>.cons r (Vals.append t s)
theorem Vals.take:∀{xs:List V} {us:List Value} (n:Nat),Vals xs us->Vals (xs.take n) (us.take n)
 | _,_,0,_=>.nil
 | _,_,_+1,.nil=>.nil
 | _,_,n+1,.cons r t=>.cons r (Vals.take n t)
theorem Vals.drop:∀{xs:List V} {us:List Value} (n:Nat),Vals xs us->Vals (xs.drop n) (us.drop n)
 | _,_,0,r=>r
 | _,_,_+1,.nil=>.nil
 | _,_,n+1,.cons _ t=>Vals.drop n t
def RelO:Option V->Option Value->Prop
 | some v,some u=>RelV v u
 | none,none=>True
 | _,_=>False
def KV{κ:Type}:List (κ×V)->List (κ×Value)->Prop:=Paired fun(p:κ×V) (q:κ×Value)=>p.1=q.1/\RelV p.2 q.2
def kV:Key->V
 | .inl i=>.int i
 | .inr x=>.str x
inductive HO where
  | lst (xs:List V)
  | tup (xs:List V)
  | dK (kvs:List (Key×V)) | dT (kvs:List (List Key×V))
  | set (S:Int->Bool) (n:Nat)
  | ins (C dx:Addr) (fs:List (Str×V))
  | own (x:Addr)
  | xd (fs:List (Str×V))
  | met (f x:Addr)
  | rng (lo hi:Int)
  | frz (o:Obj) (u:HO)
  | tbl (ps:Array Value)
  | ext (φ:Heap->Prop)
abbrev Hp:=Addr->Option HO
def upd(H:Hp)(a:Addr)(o:HO):Hp:=fun b=>if b=a then some o else H b
theorem upd_same{H:Hp}{a:Addr}{o:HO}:upd H a o a=some o:=by unfold upd;rw [if_pos rfl]
theorem upd_ne{H:Hp}{a b:Addr}{o:HO}(h:b≠a):upd H a o b=H b:=by unfold upd;rw [if_neg h]
theorem ne_of{H:Hp}{a b:Addr}{o u:HO}(h:H a=some o)(h':H b=some u)(d:o≠u):a≠b:=by
 intro e;subst e;rw [h] at h';exact d (Option.some.inj h')
theorem ne_of_none{H:Hp}{a b:Addr}{o:HO}(h:H a=some o)(h':H b=none):a≠b:=by
 intro e;subst e;rw [h] at h';cases h'
def TupD(h:Heap)(a:Addr)(items:Array Value):Prop:=∃ o,h.get? a=some o/\o.cls=.type "tuple" /\(∃ n,o.data=.seq items n)/\o.dict=none
theorem TupD.isTup{h:Heap}{a:Addr}{items:Array Value}(x:TupD h a items):IsTup h a items:=let ⟨o,e,c,d,_⟩:=x;⟨o,e,c,d⟩
theorem TupD.lt{h:Heap}{a:Addr}{items:Array Value}(x:TupD h a items):a<h.objs.size:=x.isTup.lt
theorem TupD.new(h:Heap)(items:Array Value):TupD (h.push { cls:=.type "tuple",data:=.seq items }) h.objs.size items:=⟨_,Heap.get?_push_size _ rfl,rfl,⟨_,rfl⟩,rfl⟩
def CodeO(oc:Obj)(q:Str):Prop:=∃ vs t,oc.data=.fields vs/\vs[1]?=some (.str q t)
def TabOk(H:Hp)(h:Heap)(a:Addr)(lab:Array Value):Prop:=∃(ps:Array Value) (q:Str) (t:Tok),lab = #[.str q t]/\h.get? a=some { cls:=.none,data:=.fields ps }/\TriplesOk ps.toList /\
 ∀ pos cv,codeAmong pos ps.toList=some cv->∃ c' oc u,cv=.ref c'/\H c'=some (.frz oc u)/\CodeO oc q
section
variable (P:Program)(w:World)
def ObjOk(H:Hp)(h:Heap)(a:Addr):HO->Prop
 | .lst xs=>xs.length<=sizeLine/\∃(its:List Value) (n:Nat),Vals xs its/\h.get? a=some { cls:=.type "list",data:=.seq its.toArray n }
 | .tup xs=>xs.length<=sizeLine/\∃ its:List Value,Vals xs its/\TupD h a its.toArray
 | .dK kvs=>kvs.length<=sizeLine/\(a == sysModules)=false/\∃ vs,KV kvs vs/\h.DictOf (mixKind P w) a vs
 | .dT kvs=>kvs.length<=sizeLine/\(a == sysModules)=false/\∃ xs:List (List Key×Addr×Value),
   Paired (fun(p:List Key×V) (q:List Key×Addr×Value)=>p.1=q.1/\H q.2.1=some (.tup (p.1.map kV))/\RelV p.2 q.2.2) kvs xs /\
   ∃ o es ep,h.get? a=some o/\o.ExactDict/\o.data=.dict es ep/\es.toList=xs.map (entryOfKey (tupleKind (mixKind P w)))/\(xs.map (·.1)).Nodup
 | .set S n=>h.SetOf (intKind P w) a S n
 | .ins C dx fs=>H dx=some (.own a)/\fs.length<=1000/\dx≠a/\h.get? a=some (PySem.W.instObj C dx) /\
   ∃ mA,h.Ns1 dx mA/\(∀ f,RelO (fs.lookup f) (mA f))/\PySem.Within mA (fs.map (·.1))
 | .own _=>∃ o,h.get? a=some o
 | .xd fs=>∃ mA,h.Ns1 a mA/\∀ f,RelO (fs.lookup f) (mA f)
 | .rng lo hi=>∃ t u v,h.get? a=some { cls:=.type "range",data:=.fields #[.int lo t,.int hi u,.int 1 v] }
 | .frz o u=>h.get? a=some o/\ObjOk H h a u
 | .tbl ps=>TabOk H h a ps
 | .met f x=>h.get? a=some (PySem.W.methodObj (.ref f) (.ref x))
 | .ext φ=>φ h/\(∃ o,h.get? a=some o)/\∀ h1 h2:Heap,φ h1->(∀ o,h1.get? a=some o->h2.get? a=some o)->φ h2
def HOk(H:Hp)(h:Heap):Prop:=∀ a o,H a=some o->ObjOk P w H h a o
end
section
variable {P:Program}{w:World}{H H':Hp}{h h':Heap}{a:Addr}{o:HO}
theorem ObjOk.lt(x:ObjOk P w H h a o):a<h.objs.size:=by
 cases o with
 | lst xs=>obtain⟨_,_,_,_,e⟩:=x;exact Heap.lt_size e
 | tup xs=>obtain⟨_,_,_,p⟩:=x;exact p.lt
 | dK kvs=>obtain⟨_,_,_,_,o,_,_,e,_⟩:=x;exact Heap.lt_size e
 | dT kvs=>obtain⟨_,_,_,_,o,_,_,e,_⟩:=x;exact Heap.lt_size e
 | set S n=>obtain⟨o,_,_,_,e,_⟩:=x;exact Heap.lt_size e
 | ins C dx fs=>obtain⟨_,_,_,e,_⟩:=x;exact Heap.lt_size e
 | own y=>obtain⟨_,e⟩:=x;exact Heap.lt_size e
 | xd fs=>obtain⟨_,⟨_,_,_,e,_⟩,_⟩:=x;exact Heap.lt_size e
 | rng lo hi=>obtain⟨_,_,_,e⟩:=x;exact Heap.lt_size e
 | frz ob u=>obtain⟨e,_⟩:=x;exact Heap.lt_size e
 | tbl ps=>obtain⟨_,_,_,_,e,_⟩:=x;exact Heap.lt_size e
 | met f y=>exact Heap.lt_size (show h.get? a=some _ from x)
 | ext φ=>obtain⟨_,⟨_,e⟩,_⟩:=x;exact Heap.lt_size e
theorem Paired.mapP{α β:Type}{F G:α->β->Prop}:∀{l₁:List α} {l₂:List β},Paired F l₁ l₂->(∀ a b,F a b->G a b)->Paired G l₁ l₂
 | _,_,.nil,_=>.nil
 | _,_,.cons r t,f=>.cons (f _ _ r) (Paired.mapP t f)
theorem ObjOk.stay(x:ObjOk P w H h a o)(k:∀ b u,(b=a\/H b=some (.own a))->h.get? b=some u->h'.get? b=some u)
  (ho:∀ b,H b=some (.own a)->H' b=some (.own a)) (ht:∀ b xs,H b=some (.tup xs)->H' b=some (.tup xs)) (hf:∀ b o u,H b=some (.frz o u)->H' b=some (.frz o u):=by exact fun _ _ _ q=>q):ObjOk P w H' h' a o:=by
 induction o with
 | lst xs=>obtain⟨z,its,n,r,e⟩:=x;exact⟨z,its,n,r,k _ _ (.inl rfl) e⟩
 | tup xs=>obtain⟨z,its,r,ob,e,c⟩:=x;exact⟨z,its,r,ob,k _ _ (.inl rfl) e,c⟩
 | dK kvs=>obtain⟨z,y,vs,r,ob,es,ep,e,c⟩:=x;exact⟨z,y,vs,r,ob,es,ep,k _ _ (.inl rfl) e,c⟩
 | dT kvs =>
  obtain⟨z,y,xs,r,ob,es,ep,e,c⟩:=x
  exact⟨z,y,xs,Paired.mapP r fun p q z=>⟨z.1,ht _ _ z.2.1,z.2.2⟩,ob,es,ep,k _ _ (.inl rfl) e,c⟩
 | set S n=>obtain⟨ob,es,ep,t,e,c⟩:=x;exact⟨ob,es,ep,t,k _ _ (.inl rfl) e,c⟩
 | ins C dx fs =>
  obtain⟨d,z,ne,e,mA,⟨od,es,ep,e2,c⟩,r⟩:=x
  exact⟨ho _ d,z,ne,k _ _ (.inl rfl) e,mA,⟨od,es,ep,k _ _ (.inr d) e2,c⟩,r⟩
 | own y=>obtain⟨ob,e⟩:=x;exact⟨ob,k _ _ (.inl rfl) e⟩
 | xd fs=>obtain⟨mA,⟨od,es,ep,e,c⟩,r⟩:=x;exact⟨mA,⟨od,es,ep,k _ _ (.inl rfl) e,c⟩,r⟩
 | rng lo hi=>obtain⟨t,u,v,e⟩:=x;exact⟨t,u,v,k _ _ (.inl rfl) e⟩
 | frz ob u ih=>obtain⟨e,q⟩:=x;exact⟨k _ _ (.inl rfl) e,ih q⟩
 | tbl ps =>
  obtain⟨rs,q,t,z,e,tr,r⟩:=x
  exact⟨rs,q,t,z,k a _ (.inl rfl) e,tr,fun pos cv y=>let ⟨c',oc,u,r1,r2,r3⟩:=r pos cv y;⟨c',oc,u,r1,hf _ _ _ r2,r3⟩⟩
 | met f y =>
  have e:h.get? a=some (PySem.W.methodObj (.ref f) (.ref y)):=x
  show h'.get? a=some (PySem.W.methodObj (.ref f) (.ref y))
  exact k a _ (.inl rfl) e
 | ext φ=>obtain⟨p,⟨o,e⟩,st⟩:=x;exact⟨st _ _ p fun o q=>k _ _ (.inl rfl) q,⟨o,k _ _ (.inl rfl) e⟩,st⟩
theorem HOk.lt(x:HOk P w H h)(e:H a=some o):a<h.objs.size:=(x a o e).lt
theorem HOk.fresh(x:HOk P w H h)(e:h.objs.size<=a):H a=none:=by
 cases q:H a with
 | none=>rfl
 | some u=>exact absurd (Nat.lt_of_lt_of_le (x.lt q) e) (Nat.lt_irrefl _)
theorem HOk.kept(x:HOk P w H h)(k:∀ b u,h.get? b=some u->h'.get? b=some u):HOk P w H h':=fun a o e =>
 (x a o e).stay (fun b u _ q=>k b u q) (fun _ q=>q) fun _ _ q=>q
theorem HOk.laid(x:HOk P w H h)(k:∀ b u,h.get? b=some u->h'.get? b=some u)(hp:h.objs.size<=a)(new:ObjOk P w (upd H a o) h' a o):HOk P w (upd H a o) h':=fun b u e=>by
 have hn:=x.fresh hp
 by_cases hb:b=a
 ·subst hb;rw [upd_same] at e;cases e;exact new
 ·rw [upd_ne hb] at e
  exact(x b u e).stay (fun c v _ q=>k c v q) (fun c q=>by rw [upd_ne (ne_of_none q hn)];exact q) (fun c xs q=>by rw [upd_ne (ne_of_none q hn)];exact q) fun c _ _ q=>by rw [upd_ne (ne_of_none q hn)];exact q
end
def Rd(H:Hp)(a:Addr)(u:HO):Prop:=H a=some u\/∃ o,H a=some (.frz o u)
theorem Rd.of{H:Hp}{a:Addr}{u:HO}(h:H a=some u):Rd H a u:=.inl h
theorem Rd.ok{P:Program}{w:World}{H:Hp}{h:Heap}{a:Addr}{u:HO}(r:Rd H a u)(x:HOk P w H h):ObjOk P w H h a u:=by
 rcases r with r | ⟨o,r⟩
 ·exact x a u r
 ·obtain⟨_,q⟩:=x a _ r
  exact q
def Mut:Option HO->Prop
 | some (.lst _)=>True
 | some (.dK _)=>True
 | some (.dT _)=>True
 | some (.set _ _)=>True
 | some (.ins _ _ _)=>True
 | some (.ext _)=>True
 | _=>False
section
variable {P:Program}{w:World}{H:Hp}{h h':Heap}{x e:Addr}{o':HO}
theorem HOk.write(ok:HOk P w H h)(mu:Mut (H x))(he:e=x\/H e=some (.own x))(k:∀ b u,b≠e->h.get? b=some u->h'.get? b=some u)(heo:∃ u,h'.get? e=some u)
  (new:ObjOk P w (upd H x o') h' x o'):HOk P w (upd H x o') h':=fun b u q=>by
 have nown:∀ c y,H c=some (.own y)->c≠x:=fun c y r z=>by subst z;rw [r] at mu;exact mu
 have ntup:∀ c xs,H c=some (.tup xs)->c≠x:=fun c xs r z=>by subst z;rw [r] at mu;exact mu
 have nfrz:∀ c o u,H c=some (.frz o u)->c≠x:=fun c o u r z=>by subst z;rw [r] at mu;exact mu
 by_cases hb:b=x
 ·subst hb;rw [upd_same] at q;cases q;exact new
 ·rw [upd_ne hb] at q
  by_cases hbe:b=e
  ·have q':H b=some (.own x):=by
    rcases he with z | z
    ·exact absurd (hbe.trans z) hb
    ·rw [hbe];exact z
   rw [q] at q';cases q'
   obtain⟨v,hv⟩:=heo
   exact⟨v,by rw [hbe];exact hv⟩
  ·refine(ok b u q).stay (fun c v hc r=>k c v ?_ r) (fun c r=>by rw [upd_ne (nown c b r)];exact r) (fun c xs r=>by rw [upd_ne (ntup c xs r)];exact r) (fun c o u r=>by rw [upd_ne (nfrz c o u r)];exact r)
   rcases hc with rfl | hc
   ·exact hbe
   ·rintro rfl
    rcases he with z | z
    ·exact nown c b hc z
    ·rw [hc] at z;cases z;exact hb rfl
end
structure Un(fs ex:List Addr)(H H':Hp)(h h':Heap):Prop where
 keep:∀ b o,h.get? b=some o->H b=none->b∉fs->b∉ex->h'.get? b=some o
 slot:∀ b o,h.get? b=some o->H b=none->b∈fs->b∉ex->∃ sl,h'.get? b=some { o with slots:=sl }
 free:∀ b o,h.get? b=some o->H b=none->b∉ex->H' b=none
 there:∀ b o,h.get? b=some o->b∉ex->∃ o',h'.get? b=some o'
 tups:∀ b xs,H b=some (.tup xs)->H' b=some (.tup xs)
 frzs:∀ b o u,H b=some (.frz o u)->H' b=some (.frz o u)
 tbls:∀ b ps,H b=some (.tbl ps)->∃ more,H' b=some (.tbl (ps++more))
section
variable {fs fs' ex ex':List Addr}{H H1 H2:Hp}{h h1 h2 h':Heap}{a x e:Addr}{o:HO}
theorem Un.any(u:Un fs ex H H1 h h1){b:Addr}{ob:Obj}(q:h.get? b=some ob)(n:H b=none)(hx:b∉ex):∃ sl,h1.get? b=some { ob with slots:=sl }:=by
 by_cases hb:b∈fs
 ·exact u.slot b ob q n hb hx
 ·exact⟨ob.slots,u.keep b ob q n hb hx⟩
theorem Un.trans(a:Un fs ex H H1 h h1)(b:Un fs ex H1 H2 h1 h2):Un fs ex H H2 h h2 where
 keep:=fun c ob q n hc hx=>b.keep c ob (a.keep c ob q n hc hx) (a.free c ob q n hx) hc hx
 slot:=fun c ob q n hc hx=>by
  obtain⟨sl,e1⟩:=a.slot c ob q n hc hx
  obtain⟨sl',e2⟩:=b.slot c _ e1 (a.free c ob q n hx) hc hx
  exact⟨sl',e2⟩
 free:=fun c ob q n hx=>by
  obtain⟨o',e1⟩:=a.there c ob q hx
  exact b.free c o' e1 (a.free c ob q n hx) hx
 there:=fun c ob q hx=>by
  obtain⟨o',e1⟩:=a.there c ob q hx
  exact b.there c o' e1 hx
 tups:=fun c xs q=>b.tups c xs (a.tups c xs q)
 frzs:=fun c ob xs q=>b.frzs c ob xs (a.frzs c ob xs q)
 tbls:=fun c ps q=>by
  obtain⟨m1,e1⟩:=a.tbls c ps q
  obtain⟨m2,e2⟩:=b.tbls c _ e1
  exact⟨m1++m2,by rw [e2,Array.append_assoc]⟩
theorem Un.kept(k:∀ b u,h.get? b=some u->h'.get? b=some u):Un fs ex H H h h' :=
 ⟨fun b ob q _ _ _=>k b ob q,fun b ob q _ _ _=>⟨ob.slots,k b ob q⟩,fun _ _ _ n _=>n,fun b ob q _=>⟨ob,k b ob q⟩,fun _ _ q=>q,fun _ _ _ q=>q,fun _ ps q=>⟨#[],by rw [q];simp⟩⟩
theorem Un.refl:Un fs ex H H h h:=Un.kept fun _ _ q=>q
theorem Un.laid(k:∀ b u,h.get? b=some u->h'.get? b=some u)(hp:h.objs.size<=a)(hn:H a=none):Un fs ex H (upd H a o) h h' where
 keep:=fun b u q _ _ _=>k b u q
 slot:=fun b u q _ _ _=>⟨u.slots,k b u q⟩
 free:=fun b u q n _=>by rw [upd_ne (Nat.ne_of_lt (Nat.lt_of_lt_of_le (Heap.lt_size q) hp))];exact n
 there:=fun b u q _=>⟨u,k b u q⟩
 tups:=fun b xs q=>by rw [upd_ne (ne_of_none q hn)];exact q
 frzs:=fun b u xs q=>by rw [upd_ne (ne_of_none q hn)];exact q
 tbls:=fun b ps q=>⟨#[],by rw [upd_ne (ne_of_none q hn),q];simp⟩
theorem Un.write(mu:Mut (H x))(he:e=x\/H e=some (.own x))(k:∀ b u,b≠e->h.get? b=some u->h'.get? b=some u)(heo:∃ u,h'.get? e=some u):Un fs ex H (upd H x o) h h':=by
 have hx:∀ b,H b=none->b≠x:=fun b n z=>by subst z;rw [n] at mu;exact mu
 have hb:∀ b,H b=none->b≠e:=fun b n z=>by
  subst z
  rcases he with r | r
  ·exact hx b n r
  ·rw [n] at r;cases r
 have hm:∀ b u,H b=some u->¬ Mut (some u)->b≠x:=fun b u q nm z=>by subst z;rw [q] at mu;exact nm mu
 refine⟨fun b u q n _ _=>k b u (hb b n) q,fun b u q n _ _=>⟨u.slots,k b u (hb b n) q⟩,fun b u q n _=>by rw [upd_ne (hx b n)];exact n,fun b u q _=>?_,
  fun b xs q=>by rw [upd_ne (hm b _ q fun z=>z)];exact q,fun b u xs q=>by rw [upd_ne (hm b _ q fun z=>z)];exact q,fun b ps q=>⟨#[],by rw [upd_ne (hm b _ q fun z=>z),q];simp⟩⟩
 by_cases hbe:b=e
 ·subst hbe;exact heo
 ·exact⟨u,k b u hbe q⟩
theorem Un.mono(u:Un fs ex H H1 h h1)(hs:∀ b∈fs,b∈fs')(hx:∀ b∈ex,b∈ex'):Un fs' ex' H H1 h h1 :=
 ⟨fun b ob q n hb he=>u.keep b ob q n (fun z=>hb (hs b z)) fun z=>he (hx b z),fun _ _ q n _ he=>u.any q n fun z=>he (hx _ z),fun b ob q n he=>u.free b ob q n fun z=>he (hx b z),fun b ob q he=>u.there b ob q fun z=>he (hx b z),u.tups,u.frzs,u.tbls⟩
end
def trk(h:Heap)(H:Hp):List Addr:=(List.range h.objs.size).filter fun a=>(H a).isSome
def hidT(h:Heap)(H:Hp):Heap:=PySem.W.hideAll h (trk h H)
theorem hidT_size(h:Heap)(H:Hp):(hidT h H).objs.size=h.objs.size:=PySem.W.hideAll_size _ _
theorem hidT_get{h:Heap}{H:Hp}{b:Addr}{o:Obj}(e:h.get? b=some o)(n:H b=none):(hidT h H).get? b=some o :=
 PySem.W.hideAll_get _ e fun hm=>by
  have q:(H b).isSome=true:=(List.mem_filter.mp hm).2
  rw [n] at q;simp at q
theorem of_hidT{h:Heap}{H:Hp}{b:Addr}{o:Obj}(e:(hidT h H).get? b=some o):h.get? b=some o/\H b=none:=by
 have e':h.get? b=some o:=PySem.W.of_hideAll (trk h H) e
 refine⟨e',?_⟩
 cases q:H b with
 | none=>rfl
 | some x =>
  have hm:b∈trk h H:=List.mem_filter.mpr ⟨List.mem_range.mpr (Heap.lt_size e'),by simp [q]⟩
  have z:(hidT h H).get? b=none:=PySem.W.hideAll_none (trk h H) hm
  rw [z] at e;cases e
def allNews(g h:Heap)(L:Addr):List (Addr×Obj):=(List.range h.objs.size).filterMap fun a=>if a=L\/(g.get? a).isSome=true then none else (h.get? a).map fun o=>(a,o)
def rest(g h:Heap)(L d:Addr):List (Addr×Obj):=(allNews g h L).filter fun p=>decide (p.1≠d)
structure Mod(K:PySem.W.Frag)(mg:Str->Option Value)(base:Heap):Prop where
 kin:K.In base
 glob:base.Ns mainGlobals mg
 blt:∃ mb,base.Ns builtinsNs mb/\∀ x:Str,x ≠ "__name__" -> mb x=bootBuiltins x
 nolimit:base.NoLimit
structure Cx where
 prog:Program
 w:World
 K:PySem.W.Frag
 mg:Str->Option Value
 base:Heap
 A:Around
 N:List Str
 s₀:Shared
 H₀:Hp
 env:Env
 outer:List Env
 stack:List Env
 ex:List Addr
 fn:Str->Bool
 calm:Bool
 pn:List (Addr×Obj)
 xe:Value->Shared->Prop
def frs(l:List Env):List Addr:=l.filterMap (·.frame)
abbrev Cx.fs(X:Cx):List Addr:=frs X.outer
def Vis(sc:Scope)(x:Str):Prop:=sc.names.lookup x=some .local\/sc.names.lookup x=some .cell\/sc.names.lookup x=some .free
def Loc(sc:Scope)(x:Str):Prop:=sc.names.lookup x=some .local\/sc.names.lookup x=some .cell
def Look(env:Env)(h:Heap)(m:Str->Option Value)(x:Str)(u:Value):Prop :=
 (env.kindOf x=some .local/\m x=some u)\/((env.kindOf x=some .cell\/env.kindOf x=some .free)/\∃ c,env.cells.lookup x=some c/\h.IsCell c (some u))
structure Cx.Ok(X:Cx):Prop where
 mod:Mod X.K X.mg X.base
 kind:X.env.scope.kind=.function
 glob:X.env.globals=mainGlobals
 blt:X.env.builtins=builtinsNs
 above:X.s₀.heap.objs.size<=X.env.locals
 inj:∀ x y c,X.env.cells.lookup x=some c->X.env.cells.lookup y=some c->x=y
 has:∀ x,(X.env.kindOf x=some .cell\/X.env.kindOf x=some .free)->∃ c,X.env.cells.lookup x=some c
 cab:∀ x c,X.fn x=true->X.env.cells.lookup x=some c->X.s₀.heap.objs.size<=c
 hd:X.calm=true->X.A.handled=none
 frames:X.A.frames=some X.stack
 stk:X.stack=X.outer\/(X.stack=X.env::X.outer/\X.env.frame=some X.env.locals)
 exf:∀ b∈X.ex,b≠X.env.locals/\∀ x c,X.env.cells.lookup x=some c->c≠b
 bs:∀ b o,X.base.get? b=some o->X.s₀.heap.get? b=some o/\X.H₀ b=none
 bsz:X.base.objs.size<=X.s₀.heap.objs.size
 noex:∀ b o,X.base.get? b=some o->b∉X.ex
 exfs:∀ b∈X.ex,b∉X.fs
 funs:X.s₀.heap.FunFrames X.base X.outer
 frf:∀ b∈X.fs,X.H₀ b=none
structure Inv(X:Cx)(pins:List (Addr×Obj))(σ:List (Option V))(H:Hp)(s:Shared):Prop where
 ok:X.Ok
 os:s.os=X.s₀.os
 bare:AllBare s.gens
 base:Un X.fs X.ex X.H₀ H X.s₀.heap s.heap
 loc:∃ m,s.heap.Ns X.env.locals m/\∀(i:Nat) (x:Str) (v:V),X.N[i]?=some x->σ[i]?=some (some v)->Vis X.env.scope x->∃ u,RelV v u/\Look X.env s.heap m x u
 cell:∀ x c,X.env.cells.lookup x=some c->∃ v,s.heap.IsCell c v
 free:H X.env.locals=none
 freeC:∀ x c,X.env.cells.lookup x=some c->H c=none
 pin:∀ p∈X.pn++pins,s.heap.get? p.1=some p.2/\H p.1=none/\p.1≠X.env.locals/\p.1∉X.fs/\∀ v,p.2.data ≠ .cell v
 hok:HOk X.prog X.w H s.heap
 len:σ.length=X.N.length
section
variable {X:Cx}{pins:List (Addr×Obj)}{σ:List (Option V)}{H H':Hp}{s:Shared}{h':Heap}
theorem Cx.Ok.nofr(ok:X.Ok){b:Addr}{o:Obj}(e:X.base.get? b=some o):b∉X.fs:=fun hb=>by
 have:=(ok.funs.mem hb).1
 rw [e] at this;cases this
theorem Inv.bs(I:Inv X pins σ H s):∀ b o,X.base.get? b=some o->s.heap.get? b=some o/\H b=none:=fun b o e =>
 ⟨I.base.keep b o (I.ok.bs b o e).1 (I.ok.bs b o e).2 (I.ok.nofr e) (I.ok.noex b o e),I.base.free b o (I.ok.bs b o e).1 (I.ok.bs b o e).2 (I.ok.noex b o e)⟩
theorem Inv.bk(I:Inv X pins σ H s):∀ b o,X.base.get? b=some o->s.heap.get? b=some o:=fun b o e=>(I.bs b o e).1
theorem Inv.mod(I:Inv X pins σ H s):Mod X.K X.mg X.base:=I.ok.mod
theorem Inv.kIn(I:Inv X pins σ H s):X.K.In s.heap:=I.ok.mod.kin.keeps I.bk
theorem Inv.lt(I:Inv X pins σ H s):X.env.locals<s.heap.objs.size:=let ⟨_,hn,_⟩:=I.loc;hn.lt
theorem Inv.sz(I:Inv X pins σ H s):X.s₀.heap.objs.size<=s.heap.objs.size:=Nat.le_trans I.ok.above (Nat.le_of_lt I.lt)
theorem Inv.nofs(I:Inv X pins σ H s){a:Addr}(h:s.heap.objs.size<=a):a∉X.fs:=fun hb=>by
 obtain⟨_,o,ho,_⟩:=I.ok.funs.mem hb
 exact absurd (Nat.lt_of_lt_of_le (Heap.lt_size ho) (Nat.le_trans I.sz h)) (Nat.lt_irrefl _)
theorem Inv.cne(I:Inv X pins σ H s):∀ x c,X.env.cells.lookup x=some c->c≠X.env.locals:=fun x c e z=>by
 obtain⟨v,o,ho,hd⟩:=I.cell x c e
 obtain⟨m,⟨o',es,ep,ho',hd',_⟩,_⟩:=I.loc
 rw [z,ho'] at ho;cases ho;rw [hd'] at hd;cases hd
theorem Inv.funs(I:Inv X pins σ H s):s.heap.FunFrames X.base X.outer:=by
 have all:∀(l:List Env),(∀ b∈frs l,b∈X.fs)->X.s₀.heap.FunFrames X.base l->s.heap.FunFrames X.base l:=by
  intro l
  induction l with
  | nil=>intro _ _;trivial
  | cons env r ih =>
   intro hs hl
   obtain⟨hk,⟨L,o,hf,hn,ho,hd⟩,hr⟩:=hl
   have hL:L∈X.fs:=hs L (by unfold frs;rw [List.filterMap_cons,hf];exact List.mem_cons_self)
   obtain⟨sl,e⟩:=I.base.slot L o ho (I.ok.frf L hL) hL fun z=>I.ok.exfs L z hL
   exact⟨hk,⟨L,_,hf,hn,e,hd⟩,ih (fun b hb=>hs b (by unfold frs;rw [List.filterMap_cons,hf];exact List.mem_cons_of_mem _ hb)) hr⟩
 exact all X.outer (fun _ hb=>hb) I.ok.funs
theorem Inv.stack(I:Inv X pins σ H s):s.heap.FunFrames X.base X.stack:=by
 rcases I.ok.stk with e | ⟨e,hf⟩
 ·rw [e];exact I.funs
 ·rw [e]
  obtain⟨m,hn,_⟩:=I.loc
  refine .cons (by rw [I.ok.kind];decide) hf hn ?_ I.funs
  exact Heap.get?_none_of_le (Nat.le_trans I.ok.bsz I.ok.above)
theorem Inv.stkSub(I:Inv X pins σ H s):∀ b∈frs X.stack,b∈X.env.locals::X.fs:=fun b hb=>by
 rcases I.ok.stk with e | ⟨e,hf⟩
 ·rw [e] at hb;exact List.mem_cons_of_mem _ hb
 ·rw [e] at hb
  unfold frs at hb
  rw [List.filterMap_cons,hf] at hb
  exact hb
theorem Inv.stkFree(I:Inv X pins σ H s):∀ b∈frs X.stack,H b=none:=fun b hb=>by
 rcases List.mem_cons.mp (I.stkSub b hb) with e | hb
 ·rw [e];exact I.free
 ·obtain⟨_,o,ho,_⟩:=I.ok.funs.mem hb
  exact I.base.free b o ho (I.ok.frf b hb) fun z=>I.ok.exfs b z hb
theorem Inv.step{g':Array GenState}{t':Nat}{d':Drawn}{ch:List Addr}(I:Inv X pins σ H s)
  (hch:∀ b∈ch,(b∈X.ex\/X.s₀.heap.objs.size<=b)/\b≠X.env.locals/\(∀ x c,X.env.cells.lookup x=some c->c≠b)/\∀ p∈X.pn++pins,p.1≠b)
  (keep:∀ b o,b≠X.env.locals->b∉X.fs->b∉ch->s.heap.get? b=some o->H b=none->h'.get? b=some o)
  (slot:∀ b o,b≠X.env.locals->b∈X.fs->b∉ch->s.heap.get? b=some o->H b=none->∃ sl,h'.get? b=some { o with slots:=sl }) (free:∀ b o,b∉ch->s.heap.get? b=some o->H b=none->H' b=none)
  (there:∀ b o,b∉ch->s.heap.get? b=some o->∃ o',h'.get? b=some o')
  (tups:∀ b xs,H b=some (.tup xs)->H' b=some (.tup xs)) (frzs:∀ b o u,H b=some (.frz o u)->H' b=some (.frz o u)) (tbls:∀ b ps,H b=some (.tbl ps)->∃ more,H' b=some (.tbl (ps++more)))
  (ns:∀ m,s.heap.Ns X.env.locals m->h'.Ns X.env.locals m) (hok:HOk X.prog X.w H' h') (hg:AllBare g') :
  Inv X pins σ H' { s with heap:=h',gens:=g',drawn:=d',toks:=t' }:=by
 have neL:∀ b o,X.s₀.heap.get? b=some o->b≠X.env.locals:=fun b o e=>Nat.ne_of_lt (Nat.lt_of_lt_of_le (Heap.lt_size e) I.ok.above)
 have neC:∀ b o,X.s₀.heap.get? b=some o->b∉X.ex->b∉ch:=fun b o e hx hb=>by
  rcases (hch b hb).1 with z | z
  ·exact hx z
  ·exact absurd (Nat.lt_of_lt_of_le (Heap.lt_size e) z) (Nat.lt_irrefl _)
 have cellK:∀ x c,X.env.cells.lookup x=some c->∀ v,s.heap.IsCell c v->h'.IsCell c v:=fun x c e v ⟨o,ho,hd⟩=>by
  have nch:c∉ch:=fun z=>(hch c z).2.2.1 x c e rfl
  by_cases hc:c∈X.fs
  ·obtain⟨sl,q⟩:=slot c o (I.cne x c e) hc nch ho (I.freeC x c e)
   exact⟨_,q,hd⟩
  ·exact⟨o,keep c o (I.cne x c e) hc nch ho (I.freeC x c e),hd⟩
 refine⟨I.ok,I.os,hg,⟨fun b o e n hb hx=>?_,fun b o e n hb hx=>?_,fun b o e n hx=>?_,fun b o e hx=>?_,fun b xs e=>tups b xs (I.base.tups b xs e),fun b o xs e=>frzs b o xs (I.base.frzs b o xs e),fun b ps e=>?_⟩,?_,fun x c e=>?_,?_,fun x c e=>?_,fun p hp=>?_,hok,I.len⟩
 ·exact keep b o (neL b o e) hb (neC b o e hx) (I.base.keep b o e n hb hx) (I.base.free b o e n hx)
 ·obtain⟨sl,e1⟩:=I.base.slot b o e n hb hx
  obtain⟨sl',e2⟩:=slot b _ (neL b o e) hb (neC b o e hx) e1 (I.base.free b o e n hx)
  exact⟨sl',e2⟩
 ·obtain⟨o',e1⟩:=I.base.there b o e hx
  exact free b o' (neC b o e hx) e1 (I.base.free b o e n hx)
 ·obtain⟨o',e1⟩:=I.base.there b o e hx
  exact there b o' (neC b o e hx) e1
 ·obtain⟨m1,e1⟩:=I.base.tbls b ps e
  obtain⟨m2,e2⟩:=tbls b _ e1
  exact⟨m1++m2,by rw [e2,Array.append_assoc]⟩
 ·obtain⟨m,hn,hl⟩:=I.loc
  refine⟨m,ns m hn,fun i x v e1 e2 e3=>?_⟩
  obtain⟨u,r,l⟩:=hl i x v e1 e2 e3
  refine⟨u,r,?_⟩
  rcases l with l | ⟨k,c,e,z⟩
  ·exact .inl l
  ·exact .inr ⟨k,c,e,cellK x c e _ z⟩
 ·obtain⟨v,z⟩:=I.cell x c e
  exact⟨v,cellK x c e v z⟩
 ·obtain⟨m,⟨o,_,_,ho,_⟩,_⟩:=I.loc
  exact free _ o (fun z=>(hch _ z).2.1 rfl) ho I.free
 ·obtain⟨v,o,ho,hd⟩:=I.cell x c e
  exact free c o (fun z=>(hch c z).2.2.1 x c e rfl) ho (I.freeC x c e)
 ·obtain⟨e,n,ne,nf,d⟩:=I.pin p hp
  have nch:p.1∉ch:=fun z=>(hch p.1 z).2.2.2 p hp rfl
  exact⟨keep p.1 p.2 ne nf nch e n,free p.1 p.2 nch e n,ne,nf,d⟩
theorem Inv.un{t':Nat}(I:Inv X pins σ H s)(u:Un X.fs [] H H' s.heap h')(hok:HOk X.prog X.w H' h'):Inv X pins σ H' { s with heap:=h',toks:=t' }:=by
 obtain⟨m,⟨o,es,ep,ho,r⟩,_⟩:=id I.loc
 obtain⟨sl,hL⟩:=u.any ho I.free (by simp)
 exact I.step (g':=s.gens) (d':=s.drawn) (ch:=[]) (fun _ z=>nomatch z) (fun b o _ hb _ e n=>u.keep b o e n hb (by simp)) (fun b o _ hb _ e n=>u.slot b o e n hb (by simp)) (fun b o _ e n=>u.free b o e n (by simp)) (fun b o _ e=>u.there b o e (by simp)) u.tups u.frzs u.tbls (fun m' hm=>by
  obtain⟨o',es',ep',ho',r'⟩:=hm
  rw [ho] at ho';cases ho'
  exact⟨_,es',ep',hL,r'⟩) hok I.bare
theorem Inv.call{g':Array GenState}{t':Nat}{d':Drawn}{ch:List Addr}(I:Inv X pins σ H s)(u:Un (frs X.stack) ch H H' s.heap h')(hok:HOk X.prog X.w H' h')(hg:AllBare g')
  (hch:∀ b∈ch,(b∈X.ex\/X.s₀.heap.objs.size<=b)/\b≠X.env.locals/\(∀ x c,X.env.cells.lookup x=some c->c≠b)/\∀ p∈X.pn++pins,p.1≠b) :
  Inv X pins σ H' { s with heap:=h',gens:=g',drawn:=d',toks:=t' }:=by
 obtain⟨m,⟨o,es,ep,ho,r⟩,_⟩:=id I.loc
 obtain⟨sl,hL⟩:=u.any ho I.free fun z=>(hch _ z).2.1 rfl
 exact I.step (ch:=ch) hch (fun b o hL hb hc e n=>u.keep b o e n (fun z=>(List.mem_cons.mp (I.stkSub b z)).elim hL hb) hc) (fun b o _ _ hc e n=>u.any e n hc) (fun b o hc e n=>u.free b o e n hc) (fun b o hc e=>u.there b o e hc) u.tups u.frzs u.tbls (fun m' hm=>by
  obtain⟨o',es',ep',ho',r'⟩:=hm
  rw [ho] at ho';cases ho'
  exact⟨_,es',ep',hL,r'⟩) hok hg
theorem Inv.turned{t':Nat}{it:Addr}(I:Inv X pins σ H s)(k:∀ b o,b≠it->s.heap.get? b=some o->h'.get? b=some o)(hn:H it=none)(hL:it≠X.env.locals)
  (h1:it∈X.ex\/X.s₀.heap.objs.size<=it) (h2:∀ x c,X.env.cells.lookup x=some c->c≠it) (h3:∀ p∈X.pn++pins,p.1≠it):Inv X pins σ H { s with heap:=h',toks:=t' }:=by
 have nit:∀ b u,H b=some u->b≠it:=fun b u e z=>by rw [z,hn] at e;cases e
 refine I.step (g':=s.gens) (d':=s.drawn) (ch:=[it]) (fun b hb=>?_) (fun b o _ _ hc e _=>k b o (fun z=>hc (by simp [z])) e) (fun b o _ _ hc e _=>⟨o.slots,k b o (fun z=>hc (by simp [z])) e⟩) (fun _ _ _ _ n=>n)
  (fun b o hc e=>⟨o,k b o (fun z=>hc (by simp [z])) e⟩) (fun _ _ e=>e) (fun _ _ _ e=>e) (fun b ps e=>⟨#[],by rw [e];simp⟩) (fun m hm=>?_) (fun b u e=>?_) I.bare
 ·have e:b=it:=by simpa using hb
  subst e
  exact⟨h1,hL,h2,h3⟩
 ·obtain⟨o,es,ep,ho,r⟩:=hm
  exact⟨o,es,ep,k _ o (Ne.symm hL) ho,r⟩
 ·refine(I.hok b u e).stay (fun c v hc q=>k c v ?_ q) (fun _ q=>q) fun _ _ q=>q
  rcases hc with z | z
  ·rw [z];exact nit b u e
  ·exact nit c _ z
theorem Inv.tok(I:Inv X pins σ H s)(t:Nat):Inv X pins σ H { s with toks:=t }:=I.un (h':=s.heap) (t':=t) Un.refl I.hok
theorem Inv.kept{t':Nat}(I:Inv X pins σ H s)(k:∀ b u,s.heap.get? b=some u->h'.get? b=some u):Inv X pins σ H { s with heap:=h',toks:=t' }:=I.un (Un.kept k) (I.hok.kept k)
theorem Inv.laid{a:Addr}{o:HO}{t':Nat}(I:Inv X pins σ H s)(k:∀ b u,s.heap.get? b=some u->h'.get? b=some u)(hp:s.heap.objs.size<=a)(new:ObjOk X.prog X.w (upd H a o) h' a o):
  Inv X pins σ (upd H a o) { s with heap:=h',toks:=t' }:=I.un (Un.laid k hp (I.hok.fresh hp)) (I.hok.laid k hp new)
theorem Inv.write{x e:Addr}{o:HO}{t':Nat}(I:Inv X pins σ H s)(mu:Mut (H x))(he:e=x\/H e=some (.own x))(k:∀ b u,b≠e->s.heap.get? b=some u->h'.get? b=some u)(heo:∃ u,h'.get? e=some u)
  (new:ObjOk X.prog X.w (upd H x o) h' x o):Inv X pins σ (upd H x o) { s with heap:=h',toks:=t' }:=I.un (Un.write mu he k heo) (I.hok.write mu he k heo new)
theorem Inv.pins_of{pins':List (Addr×Obj)}(I:Inv X pins σ H s)(h:∀ p∈pins',s.heap.get? p.1=some p.2/\H p.1=none/\p.1≠X.env.locals/\p.1∉X.fs/\∀ v,p.2.data ≠ .cell v):Inv X pins' σ H s :=
 ⟨I.ok,I.os,I.bare,I.base,I.loc,I.cell,I.free,I.freeC,fun p hp=>(List.mem_append.mp hp).elim (fun z=>I.pin p (List.mem_append_left _ z)) (h p),I.hok,I.len⟩
theorem nodup_ix{N:List Str}(hN:N.Nodup){i j:Nat}{x:Str}(a:N[i]?=some x)(b:N[j]?=some x):i=j:=by
 obtain⟨h1,e1⟩:=List.getElem?_eq_some_iff.mp a
 obtain⟨h2,e2⟩:=List.getElem?_eq_some_iff.mp b
 exact(List.getElem_inj hN).mp (e1.trans e2.symm)
theorem store_ok2{M:Model}{A:Around}{E:Value->Shared->Prop}{i:Nat}{x:Str}{v:V}{u:Value}{Q:Unit->Shared->Prop}(I:Inv X pins σ H s)(hN:X.N.Nodup)(hi:X.N[i]?=some x)(hx:Loc X.env.scope x)(r:RelV v u)
  (h:∀ s',Inv X pins (σ.set i (some v)) H s'->(∃ a,Heap.SameBut a s.heap s'.heap/\(a=X.env.locals\/X.env.cells.lookup x=some a))->Q () s') (hf:X.fn x=true\/X.env.scope.names.lookup x=some .local:=by first | exact .inl rfl | exact .inr rfl | assumption):wpAny M A (storeName X.env x u) Q E s:=by
 obtain⟨m,hn,hl⟩:=id I.loc
 have hcls:(X.env.scope.kind == .class || (X.env.scope.kind == .module && X.env.locals != X.env.globals))=false:=by rw [I.ok.kind];rfl
 have hiσ:i<σ.length:=by rw [I.len];exact(List.getElem?_eq_some_iff.mp hi).1
 have cne:=I.cne
 have tracked:∀{a:Addr} {h':Heap},(∃ o,s.heap.get? a=some o/\H a=none)->Heap.SameBut a s.heap h'->HOk X.prog X.w H h':=fun{a h'} ha hs b ob e=>by
  obtain⟨_,_,hfree⟩:=ha
  refine(I.hok b ob e).stay (fun c w' hc q=>(hs.2 c ?_).trans q) (fun _ q=>q) fun _ _ q=>q
  rintro rfl
  rcases hc with rfl | hc
  ·rw [hfree] at e;cases e
  ·rw [hfree] at hc;cases hc
 rcases hx with hk | hk
 ·refine wpAny_storeName_local hk hn (fun h' hn' hs=>?_) hcls
  obtain⟨oL,_,_,hoL,_⟩:=id hn
  refine h _ ⟨I.ok,I.os,I.bare,⟨fun b o e n hb hx=>?_,fun b o e n hb hx=>?_,I.base.free,fun b o e hx=>?_,I.base.tups,I.base.frzs,I.base.tbls⟩,⟨_,hn',fun j y v' e1 e2 e3=>?_⟩,fun y c e=>?_,I.free,I.freeC,fun p hp=>?_,tracked ⟨oL,hoL,I.free⟩ hs,by simpa using I.len⟩ ⟨_,hs,.inl rfl⟩
  ·exact(hs.2 b (Nat.ne_of_lt (Nat.lt_of_lt_of_le (Heap.lt_size e) I.ok.above))).trans (I.base.keep b o e n hb hx)
  ·obtain⟨sl,e1⟩:=I.base.slot b o e n hb hx
   exact⟨sl,(hs.2 b (Nat.ne_of_lt (Nat.lt_of_lt_of_le (Heap.lt_size e) I.ok.above))).trans e1⟩
  ·obtain⟨o',e1⟩:=I.base.there b o e hx
   exact⟨o',(hs.2 b (Nat.ne_of_lt (Nat.lt_of_lt_of_le (Heap.lt_size e) I.ok.above))).trans e1⟩
  ·by_cases hj:j=i
   ·subst hj
    rw [hi] at e1;cases e1
    rw [List.getElem?_set_self hiσ] at e2
    cases e2
    exact⟨u,r,.inl ⟨hk,by simp⟩⟩
   ·rw [List.getElem?_set_ne (Ne.symm hj)] at e2
    obtain⟨u',r',q⟩:=hl j y v' e1 e2 e3
    refine⟨u',r',?_⟩
    rcases q with⟨k,e⟩ | ⟨k,c,e,z⟩
    ·refine .inl ⟨k,?_⟩
     have:y≠x:=fun e=>hj (nodup_ix hN e1 (e ▸ hi))
     simp [this,e]
    ·exact .inr ⟨k,c,e,z.sameBut hs (cne y c e)⟩
  ·obtain⟨w',z⟩:=I.cell y c e
   exact⟨w',z.sameBut hs (cne y c e)⟩
  ·obtain⟨e,n,ne,nf,d⟩:=I.pin p hp
   exact⟨(hs.2 p.1 ne).trans e,n,ne,nf,d⟩
 ·have hfn:X.fn x=true:=by
   rcases hf with z | z
   ·exact z
   ·rw [z] at hk;cases hk
  obtain⟨c,hc⟩:=I.ok.has x (.inl hk)
  obtain⟨w',z⟩:=I.cell x c hc
  refine wpAny_storeName_cell I.ok.kind hk hc z (fun h' hc' hs=>?_)
  obtain⟨oc,hoc,hocd⟩:=id z
  refine h { s with heap:=h' } ⟨I.ok,I.os,I.bare,⟨fun b o e n hb hx=>?_,fun b o e n hb hx=>?_,I.base.free,fun b o e hx=>?_,I.base.tups,I.base.frzs,I.base.tbls⟩,⟨m,hn.sameBut hs (Ne.symm (cne x c hc)),fun j y v' e1 e2 e3=>?_⟩,fun y c' e=>?_,I.free,I.freeC,fun p hp=>?_,tracked ⟨oc,hoc,I.freeC x c hc⟩ hs,by simpa using I.len⟩ ⟨c,hs,.inr hc⟩
  ·exact(hs.2 b (Nat.ne_of_lt (Nat.lt_of_lt_of_le (Heap.lt_size e) (I.ok.cab x c hfn hc)))).trans (I.base.keep b o e n hb hx)
  ·obtain⟨sl,e1⟩:=I.base.slot b o e n hb hx
   exact⟨sl,(hs.2 b (Nat.ne_of_lt (Nat.lt_of_lt_of_le (Heap.lt_size e) (I.ok.cab x c hfn hc)))).trans e1⟩
  ·obtain⟨o',e1⟩:=I.base.there b o e hx
   exact⟨o',(hs.2 b (Nat.ne_of_lt (Nat.lt_of_lt_of_le (Heap.lt_size e) (I.ok.cab x c hfn hc)))).trans e1⟩
  ·by_cases hj:j=i
   ·subst hj
    rw [hi] at e1;cases e1
    rw [List.getElem?_set_self hiσ] at e2
    cases e2
    exact⟨u,r,.inr ⟨.inl hk,c,hc,hc'⟩⟩
   ·rw [List.getElem?_set_ne (Ne.symm hj)] at e2
    obtain⟨u',r',q⟩:=hl j y v' e1 e2 e3
    refine⟨u',r',?_⟩
    rcases q with q | ⟨k,c',e,z'⟩
    ·exact .inl q
    ·refine .inr ⟨k,c',e,z'.sameBut hs ?_⟩
     rintro rfl
     exact hj (nodup_ix hN e1 (I.ok.inj _ _ _ e hc ▸ hi))
  ·by_cases hcc:c'=c
   ·subst hcc;exact⟨_,hc'⟩
   ·obtain⟨w2,z2⟩:=I.cell y c' e
    exact⟨w2,z2.sameBut hs hcc⟩
  ·obtain⟨e,n,ne,nf,d⟩:=I.pin p hp
   refine⟨(hs.2 p.1 ?_).trans e,n,ne,nf,d⟩
   intro q
   rw [q,hoc] at e
   have q':oc=p.2:=Option.some.inj e
   exact d w' (by rw [<-q'];exact hocd)
theorem store_ok{M:Model}{A:Around}{E:Value->Shared->Prop}{i:Nat}{x:Str}{v:V}{u:Value}{Q:Unit->Shared->Prop}(I:Inv X pins σ H s)(hN:X.N.Nodup)(hi:X.N[i]?=some x)(hx:Loc X.env.scope x)(r:RelV v u)
  (h:∀ s',Inv X pins (σ.set i (some v)) H s'->Q () s') (hf:X.fn x=true\/X.env.scope.names.lookup x=some .local:=by first | exact .inl rfl | exact .inr rfl | assumption):wpAny M A (storeName X.env x u) Q E s :=
 store_ok2 I hN hi hx r (fun s' I' _=>h s' I') hf
theorem Inv.call'{s':Shared}{ch:List Addr}(I:Inv X pins σ H s)(ho:s'.os=s.os)(u:Un (frs X.stack) ch H H' s.heap s'.heap)(hok:HOk X.prog X.w H' s'.heap)(hg:AllBare s'.gens)
  (hch:∀ b∈ch,(b∈X.ex\/X.s₀.heap.objs.size<=b)/\b≠X.env.locals/\(∀ x c,X.env.cells.lookup x=some c->c≠b)/\∀ p∈X.pn++pins,p.1≠b):Inv X pins σ H' s':=by
 obtain⟨h',g',d',t',o'⟩:=s'
 have e:o'=s.os:=ho
 subst e
 exact I.call (g':=g') (t':=t') (d':=d') u hok hg hch
end
abbrev XK:=Value->Option Addr->Hp->Prop
abbrev St:=List (Option V)
abbrev VK:=V->Hp->Prop
abbrev TE:=St->Hp->VK->Prop
abbrev TT:=St->Hp->(Bool->Hp->Prop)->Prop
abbrev TA:=St->Hp->(List V->Hp->Prop)->Prop
structure Ends where
 nx:St->Hp->Prop
 rt:VK
 bk:St->Hp->Prop:=fun _ _=>False
 ct:St->Hp->Prop:=fun _ _=>False
abbrev TS:=Ends->St->Hp->Prop
def EP(X:Cx)(pins:List (Addr×Obj))(σ:St)(Q:VK)(u:Value)(s':Shared):Prop:=∃ v H',Inv X pins σ H' s'/\RelV v u/\Q v H'
def TP(X:Cx)(pins:List (Addr×Obj))(σ:St)(Q:Bool->Hp->Prop)(b:Bool)(s':Shared):Prop:=∃ H',Inv X pins σ H' s'/\Q b H'
def AP(X:Cx)(pins:List (Addr×Obj))(σ:St)(Q:List V->Hp->Prop)(us:List Value)(s':Shared):Prop:=∃ vs H',Inv X pins σ H' s'/\Vals vs us/\Q vs H'
def SP(X:Cx)(pins:List (Addr×Obj))(D:Ends)(f:Flow)(s':Shared):Prop :=
 match f with
 | .next=>∃ σ' H',Inv X pins σ' H' s'/\D.nx σ' H'
 | .brk=>∃ σ' H',Inv X pins σ' H' s'/\D.bk σ' H'
 | .cont=>∃ σ' H',Inv X pins σ' H' s'/\D.ct σ' H'
 | .ret u=>∃ v σ' H',Inv X pins σ' H' s'/\RelV v u/\D.rt v H'
def PE(X:Cx)(e:Expr)(t:TE):Prop :=
 ∀(pins:List (Addr×Obj)) (s:Shared) (σ:St) (H:Hp) (Q:VK),Inv X pins σ H s->t σ H Q->wpAny (model X.prog X.w) X.A (eval e X.env) (EP X pins σ Q) X.xe s
def PT(X:Cx)(e:Expr)(t:TT):Prop :=
 ∀(pins:List (Addr×Obj)) (s:Shared) (σ:St) (H:Hp) (Q:Bool->Hp->Prop),Inv X pins σ H s->t σ H Q->wpAny (model X.prog X.w) X.A (isTrue e X.env (eval e X.env)) (TP X pins σ Q) X.xe s
def PW(X:Cx)(e:Expr)(t:TT):Prop :=
 ∀(whole:Sem Value) (pins:List (Addr×Obj)) (s:Shared) (σ:St) (H:Hp) (Q:Bool->Hp->Prop),Inv X pins σ H s->t σ H Q->wpAny (model X.prog X.w) X.A (isTrue e X.env whole) (TP X pins σ Q) X.xe s
theorem PW.pt{X:Cx}{e:Expr}{t:TT}(h:PW X e t):PT X e t:=h _
def PA(X:Cx)(es:List Expr)(t:TA):Prop :=
 ∀(pos:Pos) (pins:List (Addr×Obj)) (s:Shared) (σ:St) (H:Hp) (Q:List V->Hp->Prop),Inv X pins σ H s->t σ H Q->wpAny (model X.prog X.w) X.A (spliced (backTo pos (starEach es X.env))) (AP X pins σ Q) X.xe s
def PS(X:Cx)(st:Stmt)(t:TS):Prop :=
 ∀(pins:List (Addr×Obj)) (s:Shared) (σ:St) (H:Hp) (D:Ends),Inv X pins σ H s->t D σ H->wpAny (model X.prog X.w) X.A (exec st X.env) (SP X pins D) X.xe s
def PSs(X:Cx)(st:List Stmt)(t:TS):Prop :=
 ∀(pins:List (Addr×Obj)) (s:Shared) (σ:St) (H:Hp) (D:Ends),Inv X pins σ H s->t D σ H->wpAny (model X.prog X.w) X.A (execs st X.env) (SP X pins D) X.xe s
theorem thn{α:Type}{t:Sem α}{Q Q':α->Shared->Prop}{M:Model}{A:Around}{E:Value->Shared->Prop}{s:Shared}(h:wpAny M A t Q E s)(hQ:∀ a s,Q a s->Q' a s):wpAny M A t Q' E s:=wpAny_mono h hQ fun _ _ x=>x
section
variable {X:Cx}
def tVar(i:Nat):TE:=fun σ H Q=>∃ v,σ[i]?=some (some v)/\Q v H
def tC(v:V):TE:=fun _ H Q=>Q v H
theorem pe_var{i:Nat}{x:Str}{pos:Pos}(hN:X.N[i]?=some x)(hv:Vis X.env.scope x)(hd:(x == ("__debug__" : Str))=false:=by decide)(hcd:(x == ("__classdict__" : Str))=false:=by decide):PE X (.Name x pos) (tVar i):=by
 intro pins s σ H Q I h
 obtain⟨v,e,h⟩:=h
 obtain⟨m,hn,hl⟩:=I.loc
 obtain⟨u,r,l⟩:=hl i x v hN e hv
 have fin:EP X pins σ Q u s:=⟨v,H,I,r,h⟩
 rcases l with⟨hk,hm⟩ | ⟨hk,c,hc,hcell⟩
 ·exact wpAny_Name (wpAny_loadName_local I.ok.kind hk hn hm fin) hd
 ·rcases hk with hk | hk
  ·exact wpAny_Name (wpAny_loadName_cell I.ok.kind hk hc hcell fin) hd
  ·exact wpAny_Name (wpAny_loadName_free I.ok.kind hk hc hcell fin hcd) hd
theorem pe_int{i j pos}:PE X (.Constant (.int i) j pos) (tC (.int i)):=fun _ _ _ H _ I h=>wpAny_Constant_int ⟨.int i,H,I.tok _,⟨_,rfl⟩,h⟩
theorem pe_bl{b j pos}:PE X (.Constant (.bool b) j pos) (tC (.bl b)):=fun _ _ _ H _ I h=>Constant_bool ⟨.bl b,H,I,rfl,h⟩
theorem pe_non{j pos}:PE X (.Constant .none j pos) (tC .non):=fun _ _ _ H _ I h=>Constant_none ⟨.non,H,I,rfl,h⟩
theorem pe_str{x j pos}:PE X (.Constant (.str x) j pos) (tC (.str x)):=fun _ _ _ H _ I h=>Calls.Constant_str ⟨.str x,H,I.tok _,⟨_,rfl⟩,h⟩
def Gl(X:Cx)(x:Str):Prop:=X.env.kindOf x=some .globalImplicit
theorem ld_glob{E:Value->Shared->Prop}{pins:List (Addr×Obj)}{s:Shared}{σ:St}{H:Hp}{x:Str}{u:Value}{pos:Pos}{Q:Value->Shared->Prop}(I:Inv X pins σ H s)(hg:Gl X x)(hm:X.mg x=some u)(h:Q u s)
  (hd:(x == ("__debug__" : Str))=false:=by decide):wpAny (model X.prog X.w) X.A (eval (.Name x pos) X.env) Q E s :=
 Calls.Name_function_global I.ok.kind hg (Calls.loadGlobal_global (by rw [I.ok.glob];exact I.mod.glob.keeps I.bk) hm h) hd
theorem ld_blt{E:Value->Shared->Prop}{pins:List (Addr×Obj)}{s:Shared}{σ:St}{H:Hp}{x:Str}{u:Value}{pos:Pos}{Q:Value->Shared->Prop}(I:Inv X pins σ H s)(hg:Gl X x)(hm:X.mg x=none)(hv:bootBuiltins x=some u)(h:Q u s)
  (hn:x ≠ "__name__" := by decide) (hd:(x == ("__debug__" : Str))=false:=by decide):wpAny (model X.prog X.w) X.A (eval (.Name x pos) X.env) Q E s:=by
 obtain⟨mb,h1,h2⟩:=I.mod.blt
 exact Calls.Name_function_global I.ok.kind hg (Calls.loadGlobal_builtin (by rw [I.ok.glob];exact I.mod.glob.keeps I.bk) hm (by rw [I.ok.blt];exact h1.keeps I.bk) ((h2 x hn).trans hv) h) hd
theorem pe_glob{x:Str}{v:V}{u:Value}{pos:Pos}(hg:Gl X x)(hm:X.mg x=some u)(r:RelV v u)(hd:(x == ("__debug__" : Str))=false:=by decide):PE X (.Name x pos) (tC v) :=
 fun _ _ _ H _ I h=>ld_glob I hg hm ⟨v,H,I,r,h⟩ hd
theorem pe_bltn{x:Str}{v:V}{u:Value}{pos:Pos}(hg:Gl X x)(hm:X.mg x=none)(hv:bootBuiltins x=some u)(r:RelV v u)(hn:x ≠ "__name__" := by decide)(hd:(x == ("__debug__" : Str))=false:=by decide):PE X (.Name x pos) (tC v) :=
 fun _ _ _ H _ I h=>ld_blt I hg hm hv ⟨v,H,I,r,h⟩ hn hd
variable {a b:Expr}{ta tb:TE}{pos:Pos}
def tB(t:TE):TT:=fun σ H Q=>t σ H fun x H1=>∃ c,x=.bl c/\Q c H1
variable {tA tB':TT}{rest:List Expr}
def tAnd(t u:TT):TT:=fun σ H Q=>t σ H fun c H1=>if c=true then u σ H1 Q else Q false H1
theorem pw_and1(ha:PT X a tA):PW X (.BoolOp .And [a] pos) tA:=by
 intro wh pins s σ H Q I h
 refine isTrue_and (thn (ha pins s σ H Q I h) fun c s1 e=>?_)
 cases c with
 | true=>exact isTrue_and_nil e
 | false=>exact e
theorem pw_and(ha:PT X a tA)(hb:PW X (.BoolOp .And (b::rest) pos) tB'):PW X (.BoolOp .And (a::b::rest) pos) (tAnd tA tB'):=by
 intro wh pins s σ H Q I h
 refine isTrue_and (thn (ha pins s σ H _ I h) fun c s1 ⟨H1,I1,q1⟩=>?_)
 cases c with
 | true=>exact hb wh pins s1 σ H1 Q I1 q1
 | false=>exact⟨H1,I1,q1⟩
def tNotV(ta:TE):TE:=fun σ H Q=>ta σ H fun x H1=>∃ c,x=.bl c/\Q (.bl (!c)) H1
theorem pe_not(ha:PE X a ta):PE X (.UnaryOp .Not a pos) (tNotV ta):=by
 intro pins s σ H Q I h
 refine UnaryOp_ (thn (ha pins s σ H _ I h) fun v s1 ⟨x,H1,I1,r1,q1⟩=>?_)
 obtain⟨c,rfl,q1⟩:=q1
 cases r1
 exact not_of (wpAny_truthy_bool ⟨.bl (!c),H1,I1,rfl,q1⟩)
def tIf(t:TT)(ta tb:TE):TE:=fun σ H Q=>t σ H fun c H1=>if c=true then ta σ H1 Q else tb σ H1 Q
theorem pe_ifExp{c:Expr}(hc:PT X c tA)(ha:PE X a ta)(hb:PE X b tb):PE X (.IfExp c a b pos) (tIf tA ta tb):=by
 intro pins s σ H Q I h
 refine wpAny_IfExp (thn (hc pins s σ H _ I h) fun d s1 ⟨H1,I1,q1⟩=>?_)
 cases d with
 | true=>exact ha pins s1 σ H1 Q I1 q1
 | false=>exact hb pins s1 σ H1 Q I1 q1
end
def SqL(K:PySem.W.Frag)(H:Hp)(a:Addr)(xs:List V):Prop :=
 Rd H a (.lst xs) \/
  ∃(o:Obj) (its:Array Value) (n:Nat),K.lookup a=some o/\o.cls=.type "list" /\ o.dict=none/\o.data=.seq its n/\its.size<=sizeLine/\Vals xs its.toList
def SqT(K:PySem.W.Frag)(H:Hp)(a:Addr)(xs:List V):Prop :=
 Rd H a (.tup xs) \/
  ∃(o:Obj) (its:Array Value) (n:Nat),K.lookup a=some o/\o.cls=.type "tuple" /\ o.dict=none/\o.data=.seq its n/\its.size<=sizeLine/\Vals xs its.toList
def absV:Value->Option V
 | .none=>some .non
 | .bool b=>some (.bl b)
 | .int i _=>some (.int i)
 | .str x _=>some (.str x)
 | .bytes b _=>some (.byt b)
 | .float b _=>some (.flt b)
 | .ref a=>some (.ref a)
 | .type n=>some (.ty n)
 | _=>none
theorem RelV.abs{x:V}{u:Value}(r:RelV x u):absV u=some x:=by
 cases x with
 | non=>cases r;rfl
 | bl _=>cases r;rfl
 | int _=>obtain⟨t,rfl⟩:=r;rfl
 | str _=>obtain⟨t,rfl⟩:=r;rfl
 | byt _=>obtain⟨t,rfl⟩:=r;rfl
 | flt _=>obtain⟨t,rfl⟩:=r;rfl
 | ref _=>cases r;rfl
 | ty _=>cases r;rfl
theorem RelV.inj{x y:V}{u:Value}(r:RelV x u)(q:RelV y u):x=y:=Option.some.inj (r.abs.symm.trans q.abs)
theorem Vals.inj:∀{xs ys:List V} {us:List Value},Vals xs us->Vals ys us->xs=ys
 | _,_,_,.nil,.nil=>rfl
 | _,_,_,.cons r t,.cons r' t'=>by rw [r.inj r',Vals.inj t t']
section
variable {X:Cx}{pins:List (Addr×Obj)}{σ:St}{H:Hp}{s:Shared}{a:Addr}{xs ys:List V}
theorem SqL.of{K:PySem.W.Frag}(h:H a=some (.lst xs)):SqL K H a xs:=.inl (.inl h)
theorem SqT.of{K:PySem.W.Frag}(h:H a=some (.tup xs)):SqT K H a xs:=.inl (.inl h)
theorem Inv.list(I:Inv X pins σ H s)(h:SqL X.K H a xs):∃ its:List Value,Vals xs its/\PlainL s.heap a its.toArray/\xs.length<=sizeLine:=by
 rcases h with h | ⟨o,its,n,hk,hc,hd,hs,hz,r⟩
 ·obtain⟨z,its,n,r,e⟩:=h.ok I.hok
  exact⟨its,r,⟨_,n,e,rfl,rfl,rfl⟩,z⟩
 ·refine⟨its.toList,r,⟨o,n,I.kIn a o hk,hc,hd,by simpa using hs⟩,?_⟩
  have e:=r.length
  simp only [Array.length_toList] at e
  omega
theorem Inv.tupleD(I:Inv X pins σ H s)(h:SqT X.K H a xs):∃ its:List Value,Vals xs its/\TupD s.heap a its.toArray/\xs.length<=sizeLine:=by
 rcases h with h | ⟨o,its,n,hk,hc,hd,hs,hz,r⟩
 ·obtain⟨z,its,r,p⟩:=h.ok I.hok
  exact⟨its,r,p,z⟩
 ·refine⟨its.toList,r,⟨o,I.kIn a o hk,hc,⟨n,by simpa using hs⟩,hd⟩,?_⟩
  have e:=r.length
  simp only [Array.length_toList] at e
  omega
theorem Inv.tuple(I:Inv X pins σ H s)(h:SqT X.K H a xs):∃ its:List Value,Vals xs its/\IsTup s.heap a its.toArray/\xs.length<=sizeLine:=by
 obtain⟨its,r,p,z⟩:=I.tupleD h
 exact⟨its,r,p.isTup,z⟩
theorem Inv.list_inj(I:Inv X pins σ H s)(h:SqL X.K H a xs)(h':SqL X.K H a ys):xs=ys:=by
 obtain⟨its,r,⟨o,n,e,_,_,d⟩,_⟩:=I.list h
 obtain⟨its',r',⟨o',n',e',_,_,d'⟩,_⟩:=I.list h'
 rw [e] at e';cases e'
 rw [d] at d'
 injection d' with d1 _
 have:its=its':=by simpa using congrArg Array.toList d1
 subst this
 exact r.inj r'
theorem Inv.tuple_inj(I:Inv X pins σ H s)(h:SqT X.K H a xs)(h':SqT X.K H a ys):xs=ys:=by
 obtain⟨its,r,⟨o,e,_,n,d⟩,_⟩:=I.tuple h
 obtain⟨its',r',⟨o',e',_,n',d'⟩,_⟩:=I.tuple h'
 rw [e] at e';cases e'
 rw [d] at d'
 injection d' with d1 _
 have:its=its':=by simpa using congrArg Array.toList d1
 subst this
 exact r.inj r'
end
abbrev Cx.wish(X:Cx)(E:Value->Shared->Prop):Cx:={ X with xe:=E }
abbrev Cx.nox(X:Cx):Cx:=X.wish fun _ _=>False
theorem Cx.Ok.wish{X:Cx}(ok:X.Ok)(E:Value->Shared->Prop):(X.wish E).Ok :=
 ⟨ok.mod,ok.kind,ok.glob,ok.blt,ok.above,ok.inj,ok.has,ok.cab,ok.hd,ok.frames,ok.stk,ok.exf,ok.bs,ok.bsz,ok.noex,ok.exfs,ok.funs,ok.frf⟩
theorem Cx.Ok.unwish{X:Cx}{E:Value->Shared->Prop}(ok:(X.wish E).Ok):X.Ok :=
 ⟨ok.mod,ok.kind,ok.glob,ok.blt,ok.above,ok.inj,ok.has,ok.cab,ok.hd,ok.frames,ok.stk,ok.exf,ok.bs,ok.bsz,ok.noex,ok.exfs,ok.funs,ok.frf⟩
section
variable {X:Cx}{pins:List (Addr×Obj)}{σ:St}{H:Hp}{s:Shared}{E:Value->Shared->Prop}
theorem Inv.wish(I:Inv X pins σ H s)(E:Value->Shared->Prop):Inv (X.wish E) pins σ H s:=⟨I.ok.wish E,I.os,I.bare,I.base,I.loc,I.cell,I.free,I.freeC,I.pin,I.hok,I.len⟩
theorem Inv.unwish(I:Inv (X.wish E) pins σ H s):Inv X pins σ H s:=⟨I.ok.unwish,I.os,I.bare,I.base,I.loc,I.cell,I.free,I.freeC,I.pin,I.hok,I.len⟩
theorem SP.unwish{D:Ends}{f:Flow}{s':Shared}(h:SP (X.wish E) pins D f s'):SP X pins D f s':=by
 cases f with
 | next=>obtain⟨σ',H',I,q⟩:=h;exact⟨σ',H',I.unwish,q⟩
 | brk=>obtain⟨σ',H',I,q⟩:=h;exact⟨σ',H',I.unwish,q⟩
 | cont=>obtain⟨σ',H',I,q⟩:=h;exact⟨σ',H',I.unwish,q⟩
 | ret u=>obtain⟨v,σ',H',I,r,q⟩:=h;exact⟨v,σ',H',I.unwish,r,q⟩
theorem PSs.nox{st:List Stmt}{t:TS}(h:PSs X.nox st t):PSs X st t:=fun pins s σ H D I hw =>
 wpAny_mono (h pins s σ H D (I.wish _) hw) (fun _ _ q=>q.unwish) fun _ _ z=>False.elim z
end
section
variable {X:Cx}{st:Stmt}{rest:List Stmt}{t u:TS}{e:Expr}{te:TE}{pos:Pos}
def tNext:TS:=fun D σ H=>D.nx σ H
def tSeq(t u:TS):TS:=fun D σ H=>t { D with nx:=u D } σ H
theorem pss_nil:PSs X [] tNext:=fun _ _ σ H _ I h=>wpAny_execs_nil ⟨σ,H,I,h⟩
theorem pss_cons(h1:PS X st t)(h2:PSs X rest u):PSs X (st::rest) (tSeq t u):=by
 intro pins s σ H D I h
 refine wpAny_execs_cons (thn (h1 pins s σ H { D with nx:=u D } I h) fun f s1 q=>?_)
 cases f with
 | next =>
  obtain⟨σ',H',I',q⟩:=q
  exact h2 pins s1 σ' H' D I' q
 | ret v=>exact q
 | brk=>exact q
 | cont=>exact q
theorem pss_one(h1:PS X st t):PSs X [st] t:=by
 intro pins s σ H D I h
 refine wpAny_execs_cons (thn (h1 pins s σ H D I h) fun f s1 q=>?_)
 cases f with
 | next=>exact wpAny_execs_nil q
 | ret v=>exact q
 | brk=>exact q
 | cont=>exact q
theorem Inv.quiet{pins:List (Addr×Obj)}{σ:St}{H:Hp}{s:Shared}(I:Inv X pins σ H s):interactive X.env=false:=by simp [interactive,I.ok.kind]
def tDrop(te:TE):TS:=fun D σ H=>te σ H fun _ H1=>D.nx σ H1
theorem ps_expr(he:PE X e te)(hs:swapsWith e none pos.line X.env=pure false:=by rfl):PS X (.Expr e pos) (tDrop te):=by
 intro pins s σ H D I h
 exact wpAny_Expr_any (thn (he pins s σ H _ I h) fun v s1 ⟨x,H1,I1,r1,q1⟩=>⟨σ,H1,I1,q1⟩) I.quiet hs
def tRet(te:TE):TS:=fun D σ H=>te σ H D.rt
theorem ps_ret(he:PE X e te):PS X (.Return (some e) pos) (tRet te):=by
 intro pins s σ H D I h
 exact wpAny_Return_some (thn (he pins s σ H _ I h) fun v s1 ⟨x,H1,I1,r1,q1⟩=>⟨x,σ,H1,I1,r1,q1⟩)
def tIfS(c:TT)(t u:TS):TS:=fun D σ H=>c σ H fun b H1=>if b=true then t D σ H1 else u D σ H1
theorem ps_if{c:Expr}{a b:List Stmt}{tc:TT}(hc:PT X c tc)(ha:PSs X a t)(hb:PSs X b u):PS X (.If c a b pos) (tIfS tc t u):=by
 intro pins s σ H D I h
 refine wpAny_If (thn (hc pins s σ H _ I h) fun d s1 ⟨H1,I1,q1⟩=>?_)
 cases d with
 | true=>exact ha pins s1 σ H1 D I1 q1
 | false=>exact hb pins s1 σ H1 D I1 q1
end
abbrev TG:=V->St->Hp->(St->Hp->Prop)->Prop
abbrev TGs:=List V->St->Hp->(St->Hp->Prop)->Prop
def PG(X:Cx)(target:Expr)(t:TG):Prop :=
 ∀(pins:List (Addr×Obj)) (s:Shared) (σ:St) (H:Hp) (v:V) (u:Value) (Q:St->Hp->Prop),Inv X pins σ H s->RelV v u->t v σ H Q ->
  wpAny (model X.prog X.w) X.A (assign target X.env u) (fun _ s'=>∃ σ' H',Inv X pins σ' H' s'/\Q σ' H') X.xe s
def PGs(X:Cx)(ts:List Expr)(t:TGs):Prop :=
 ∀(pins:List (Addr×Obj)) (s:Shared) (σ:St) (H:Hp) (vs:List V) (us:List Value) (Q:St->Hp->Prop),Inv X pins σ H s->Vals vs us->t vs σ H Q ->
  wpAny (model X.prog X.w) X.A (assignInOrder ((assignEach ts X.env).map (·.2)) us) (fun _ s'=>∃ σ' H',Inv X pins σ' H' s'/\Q σ' H') X.xe s
abbrev TSet:=V->V->V->Hp->(Hp->Prop)->Prop
def PSet(X:Cx)(t:TSet):Prop :=
 ∀(pins:List (Addr×Obj)) (s:Shared) (σ:St) (H:Hp) (o i v:V) (ov iv u:Value) (Q:Hp->Prop),Inv X pins σ H s->RelV o ov->RelV i iv->RelV v u->t o i v H Q ->
  wpAny (model X.prog X.w) X.A (setItem ov iv u) (fun _ s'=>∃ H',Inv X pins σ H' s'/\Q H') X.xe s
section
variable {X:Cx}{pos:Pos}
def gName(i:Nat):TG:=fun v σ H Q=>Q (σ.set i (some v)) H
theorem pg_name{i:Nat}{x:Str}(hN:X.N.Nodup)(hi:X.N[i]?=some x)(hx:Loc X.env.scope x)(hf:X.fn x=true\/X.env.scope.names.lookup x=some .local:=by first | exact .inl rfl | exact .inr rfl | assumption):PG X (.Name x pos) (gName i):=by
 intro pins s σ H v u Q I r h
 exact wpAny_assign_Name (store_ok I hN hi hx r (fun s' I'=>⟨_,H,I',h⟩) hf)
def gNil:TGs:=fun vs σ H Q=>vs = []/\Q σ H
def gCons(t:TG)(u:TGs):TGs:=fun vs σ H Q=>∃ v r,vs=v::r/\t v σ H fun σ' H'=>u r σ' H' Q
theorem pgs_nil:PGs X [] gNil:=by
 intro pins s σ H vs us Q I r h
 obtain⟨e,h⟩:=h
 subst e
 cases r
 exact assignInOrder_nil ⟨σ,H,I,h⟩
theorem pgs_cons{e:Expr}{es:List Expr}{t:TG}{u:TGs}(h1:PG X e t)(h2:PGs X es u)
  (hs:(assignEach (e::es) X.env).map (·.2)=assign e X.env::(assignEach es X.env).map (·.2):=by rfl):PGs X (e::es) (gCons t u):=by
 intro pins s σ H vs us Q I r h
 obtain⟨v,vr,e1,h⟩:=h
 subst e1
 cases r with
 | cons r rr =>
  rw [hs]
  refine assignInOrder_cons (thn (h1 pins s σ H _ _ _ I r h) fun _ s1 ⟨σ1,H1,I1,q1⟩=>?_)
  exact h2 pins s1 σ1 H1 _ _ Q I1 rr q1
def gSub(to ti:TE)(t:TSet):TG:=fun v σ H Q=>to σ H fun o H1=>ti σ H1 fun i H2=>t o i v H2 fun H3=>Q σ H3
theorem pg_sub{o i:Expr}{to ti:TE}{t:TSet}(ho:PE X o to)(hi:PE X i ti)(hs:PSet X t)
  (ha:∀ v,assign (.Subscript o i pos) X.env v=(do
   let ov <-holding [v] (eval o X.env)
   let iv <-holding [v,ov] (eval i X.env)
   standAt pos
   holding [v,ov,iv] (setItem ov iv v)
   release [v,ov,iv] []):=by intro _;rfl):PG X (.Subscript o i pos) (gSub to ti t):=by
 intro pins s σ H v u Q I r h
 rw [ha]
 refine wpAny_bind (wpAny_holding (thn (ho pins s σ H _ I h) fun ov s1 ⟨x,H1,I1,r1,q1⟩=>?_))
 refine wpAny_bind (wpAny_holding (thn (hi pins s1 σ H1 _ I1 q1) fun iv s2 ⟨y,H2,I2,r2,q2⟩=>?_))
 refine wpAny_bind (wpAny_standAt (wpAny_bind (wpAny_holding (thn (hs pins s2 σ H2 x y v ov iv u _ I2 r1 r2 r q2) fun _ s3 ⟨H3,I3,q3⟩=>?_))))
 exact wpAny_release ⟨σ,H3,I3,q3⟩
def tAsg(te:TE)(g:TG):TS:=fun D σ H=>te σ H fun x H1=>g x σ H1 D.nx
theorem ps_asg{tg e:Expr}{te:TE}{g:TG}(he:PE X e te)(hg:PG X tg g)(hs:swapsWithSole [tg] e pos.line X.env=pure false:=by rfl)(hw:swappedStores [tg] e X.env=pure none:=by rfl)
  (h1:(assignEach [tg] X.env).map (·.2) = [assign tg X.env]:=by rfl):PS X (.Assign [tg] e pos) (tAsg te g):=by
 intro pins s σ H D I h
 refine wpAny_Assign_stores (thn (he pins s σ H _ I h) fun v s1 ⟨x,H1,I1,r1,q1⟩=>?_) hs hw
 rw [h1]
 exact thn (hg pins s1 σ H1 x v _ I1 r1 q1) fun _ s2 q=>q
theorem ps_set{i:Nat}{x:Str}{e:Expr}{te:TE}{pos':Pos}(hN:X.N.Nodup)(hi:X.N[i]?=some x)(hx:Loc X.env.scope x)(he:PE X e te)(hs:swapsWith e (some (.Name x pos')) pos.line X.env=pure false:=by rfl)(hf:X.fn x=true\/X.env.scope.names.lookup x=some .local:=by first | exact .inl rfl | exact .inr rfl | assumption):
  PS X (.Assign [.Name x pos'] e pos) (tAsg te (gName i)):=by
 intro pins s σ H D I h
 refine wpAny_Assign_Name (thn (he pins s σ H _ I h) fun v s1 ⟨y,H1,I1,r1,q1⟩=>?_) hs
 exact store_ok I1 hN hi hx r1 (fun s2 I2=>⟨_,H1,I2,q1⟩) hf
def tPar(i j:Nat)(ta:TA):TS:=fun D σ H=>ta σ H fun vs H1=>∃ v w,vs = [v,w]/\D.nx ((σ.set i (some v)).set j (some w)) H1
theorem ps_par{i j:Nat}{x y:Str}{a b:Expr}{ta:TA}{px py pt:Pos}{kt k2 pt2}(hc:X.calm=true)(hN:X.N.Nodup)(hi:X.N[i]?=some x)(hj:X.N[j]?=some y)(hij:i≠j)
  (hx:X.env.scope.names.lookup x=some .local) (hy:X.env.scope.names.lookup y=some .local) (ha:PA X [a,b] ta)
  (hw:swappedStores [.Tuple [.Name x px,.Name y py] kt pt] (.Tuple [a,b] k2 pt2) X.env=pure (some [x,y]))
  (hs:swapsWithSole [.Tuple [.Name x px,.Name y py] kt pt] (.Tuple [a,b] k2 pt2) pos.line X.env=pure false:=by rfl) :
  PS X (.Assign [.Tuple [.Name x px,.Name y py] kt pt] (.Tuple [a,b] k2 pt2) pos) (tPar i j ta):=by
 intro pins s σ H D I h
 rw [exec_Assign_arm]
 refine wpAny_bind (wpAny_standAt ?_)
 rw [hs]
 refine wpAny_bind (wpAny_pure ?_)
 rw [if_neg (by decide)]
 refine wpAny_bind (Tuple_ (thn (ha _ pins s σ H _ I h) fun us s1 ⟨vs,H1,I1,r1,q1⟩=>?_))
 obtain⟨v,w,e1,q1⟩:=q1
 subst e1
 obtain⟨u1,u2,rfl,rv,rw'⟩:∃ u1 u2,us = [u1,u2]/\RelV v u1/\RelV w u2:=by
  cases r1 with
  | cons p q =>
   cases q with
   | cons p' q' =>
    cases q'
    exact⟨_,_,rfl,p,p'⟩
 refine wpAny_newObj_type ?_ (by show 2<=sizeLine;decide)
 have I2:Inv X pins σ H1 { s1 with heap:=s1.heap.push { cls:=.type "tuple",data:=.seq [u1,u2].toArray } }:=I1.kept (t':=s1.toks) fun b o e=>Heap.get?_push_of_some _ e
 rw [hw]
 refine wpAny_bind (wpAny_pure ?_)
 show wpAny (model X.prog X.w) X.A (do rule "assign.swapped-stores";let items <-unpackItems (.ref s1.heap.objs.size) 2 none;assignInOrder [fun v=>bindName X.env y v,fun v=>bindName X.env x v] items.reverse;pure Flow.next) _ _ _
 refine wpAny_bind (wpAny_rule (wpAny_bind (unpackItems_tuple (items:=#[u1,u2]) (I.ok.hd hc) (IsTup.new s1.heap _) fun h' hx'=>?_)))
 have I3:=I2.kept (h':=h') (t':=s1.toks) fun b o e=>hx' b o (Nat.ne_of_lt (Heap.lt_size e)) e
 show wpAny _ _ (assignInOrder [fun v=>bindName X.env y v,fun v=>bindName X.env x v] [u2,u1] >>= fun _=>pure Flow.next) _ _ _
 refine wpAny_bind (assignInOrder_cons (wpAny_bindName (store_ok I3 hN hj (.inl hy) rw' (fun s2 I4=>?_) (.inr hy))))
 refine assignInOrder_cons (wpAny_bindName (store_ok I4 hN hi (.inl hx) rv (fun s3 I5=>assignInOrder_nil (wpAny_pure ?_)) (.inr hx)))
 rw [List.set_comm _ _ (Ne.symm hij)] at I5
 exact⟨_,H1,I5,q1⟩
end
section
variable {X:Cx}{pos:Pos}
end
structure It where
 go:Nat->Hp->Prop
 yld:Nat->Hp->V->Hp->Prop
 stop:Nat->Hp->Prop
def FpOk(X:Cx)(pins:List (Addr×Obj))(H:Hp)(b:Addr):Prop :=
 H b=none/\b≠X.env.locals/\b∉X.fs/\(b∈X.ex\/X.s₀.heap.objs.size<=b)/\(∀ x c,X.env.cells.lookup x=some c->c≠b)/\∀ p∈X.pn++pins,p.1≠b
theorem Inv.fpOk{X:Cx}{pins:List (Addr×Obj)}{σ:St}{H H':Hp}{s:Shared}{b:Addr}(I:Inv X pins σ H s)(hb:s.heap.objs.size<=b)(hn:H' b=none):FpOk X pins H' b:=by
 refine⟨hn,Nat.ne_of_gt (Nat.lt_of_lt_of_le I.lt hb),I.nofs hb,.inr (Nat.le_trans I.sz hb),fun x c e z=>?_,fun p hp z=>?_⟩
 ·obtain⟨v,q⟩:=I.cell x c e
  exact absurd (Nat.lt_of_lt_of_le q.lt (by rw [z];exact hb)) (Nat.lt_irrefl _)
 ·exact absurd (Nat.lt_of_lt_of_le (Heap.lt_size (I.pin p hp).1) (by rw [z];exact hb)) (Nat.lt_irrefl _)
structure Turn(P:Program)(w:World)(K:PySem.W.Frag)(tg:Expr)(J:It)(fp:List Addr)(it:Addr)(tn:Nat->Heap->Prop):Prop where
 mem:it∈fp
 obj:∀ i h,tn i h->∀ b∈fp,∃ o,h.get? b=some o/\∀ v,o.data ≠ .cell v
 keep:∀ i h h',tn i h->(∀ b∈fp,∀ o,h.get? b=some o->h'.get? b=some o)->tn i h'
 item:∀(X:Cx),X.prog=P->X.w=w->X.K=K->X.calm=true->∀(i:Nat) (pins:List (Addr×Obj)) (s:Shared) (σ:St) (H:Hp) (E:Value->Shared->Prop),Inv X pins σ H s->(∀ b∈fp,FpOk X pins H b)->tn i s.heap->J.go i H ->
  wpAny (model P w) X.A (pyNext (.ref it)) (fun r s1=>∃ u,r=some u /\
   wpAny (model P w) X.A (letOwnedTupleGo tg (.ref it) u) (fun _ s2=>∃ x H',Inv X pins σ H' s2/\RelV x u/\J.yld i H x H'/\tn (i+1) s2.heap/\∀ b∈fp,H' b=none) E s1) E s
 done:∀(X:Cx),X.prog=P->X.w=w->X.K=K->X.calm=true->∀(i:Nat) (pins:List (Addr×Obj)) (s:Shared) (σ:St) (H:Hp) (E:Value->Shared->Prop),Inv X pins σ H s->(∀ b∈fp,FpOk X pins H b)->tn i s.heap->J.stop i H ->
  wpAny (model P w) X.A (pyNext (.ref it)) (fun r s1=>r=none/\Inv X pins σ H s1) E s
 self:∀(A:Around) (i:Nat) (s:Shared) (Q:Value->Shared->Prop) (E:Value->Shared->Prop),tn i s.heap->Q (.ref it) s->wpAny (model P w) A (pyIter (.ref it)) Q E s
abbrev TI:=St->Hp->(It->Hp->Prop)->Prop
def PIE(X:Cx)(pins:List (Addr×Obj))(σ:St)(tg:Expr)(R:It->Hp->Prop)(itv:Value)(s2:Shared):Prop :=
 ∃(it:Addr) (fp:List Addr) (tn:Nat->Heap->Prop) (J:It) (H':Hp),itv=.ref it/\Inv X pins σ H' s2/\Turn X.prog X.w X.K tg J fp it tn/\tn 0 s2.heap/\(∀ b∈fp,FpOk X pins H' b)/\R J H'
def PI(X:Cx)(tg iter:Expr)(wi:TI):Prop :=
 ∀(pins:List (Addr×Obj)) (s:Shared) (σ:St) (H:Hp) (R:It->Hp->Prop),Inv X pins σ H s->wi σ H R ->
  wpAny (model X.prog X.w) X.A (eval iter X.env) (fun v s1=>wpAny (model X.prog X.w) X.A (pyIter v) (PIE X pins σ tg R) X.xe s1) X.xe s
theorem go_of{M:Model}{A:Around}{E:Value->Shared->Prop}{s:Shared}{tg:Expr}{it:Addr}{u:Value}{o:Obj}{n:String}{vs:Array Value}{Q:Unit->Shared->Prop}(ho:s.heap.get? it=some o)(hc:o.cls=.type n)(hd:o.data=.fields vs)
  (hn : ["enumerate", "zip", "dict_itemiterator", "dict_reverseitemiterator", "odict_iterator", "itertools.zip_longest", "itertools.pairwise"].contains n=false) (hQ:Q () s):wpAny M A (letOwnedTupleGo tg (.ref it) u) Q E s:=by
 unfold letOwnedTupleGo
 cases tg <;> first
  | exact wpAny_pure hQ
  | (cases u <;> first
    | exact wpAny_pure hQ
    | (refine wpAny_bind (wpAny_load ho ?_);rw [hc,hd];show wpAny M A (if (["enumerate", "zip", "dict_itemiterator", "dict_reverseitemiterator", "odict_iterator", "itertools.zip_longest", "itertools.pairwise"].contains n && vs[0]? == some (rawInt _))=true then _ else _) Q E s;rw [if_neg (by intro h;rw [hn,Bool.false_and] at h;cases h)];exact wpAny_pure hQ))
def Itl(K:PySem.W.Frag)(a:Addr):It :=
 ⟨fun i H=>∃ xs x,SqL K H a xs/\xs[i]?=some x,fun i H x H'=>H'=H/\∀ xs,SqL K H a xs->xs[i]?=some x,fun i H=>∃ xs,SqL K H a xs/\xs.length<=i⟩
def Itt(K:PySem.W.Frag)(a:Addr):It :=
 ⟨fun i H=>∃ xs x,SqT K H a xs/\xs[i]?=some x,fun i H x H'=>H'=H/\∀ xs,SqT K H a xs->xs[i]?=some x,fun i H=>∃ xs,SqT K H a xs/\xs.length<=i⟩
def Itr(lo:Int)(n:Nat):It:=⟨fun i _=>i<n,fun i H x H'=>H'=H/\x=.int (lo+i),fun i _=>n<=i⟩
theorem turn_list{P:Program}{w:World}{K:PySem.W.Frag}{tg:Expr}(a it:Addr):Turn P w K tg (Itl K a) [it] it (fun i h=>h.IsListIter it a i) where
 mem:=by simp
 obj:=fun i h st b hb=>by
  have e:b=it:=by simpa using hb
  subst e
  obtain⟨o,e,c,d⟩:=st
  exact⟨o,e,fun v z=>by rw [d] at z;cases z⟩
 keep:=fun i h h' st k=>st.at fun o e=>k it (by simp) o e
 item:=by
  intro X hP hw hK hc i pins s σ H E I hf st hg
  subst hP hw hK
  obtain⟨xs,x,hq,hx⟩:=hg
  obtain⟨its,rv,p,hz⟩:=I.list hq
  obtain⟨u,hu,ru⟩:=rv.get hx
  obtain⟨f0,f1,f2,f3,f4,f5⟩:=hf it (by simp)
  refine wpAny_pyNext_list_item st p.isList (x:=u) (by simpa using hu) fun h' st' sb=>?_
  have I1:Inv X pins σ H { s with heap:=h' }:=I.turned (t':=s.toks) (fun b o hb e=>(sb.2 b hb).trans e) f0 f1 f3 f4 f5
  obtain⟨o,e,c,d⟩:=id st'
  exact⟨u,rfl,go_of (s:={ s with heap:=h' }) e c d (by decide) ⟨x,H,I1,ru,⟨rfl,fun ys hy=>by rw [I.list_inj hy hq];exact hx⟩,st',fun b hb=>(hf b hb).1⟩⟩
 done:=by
  intro X hP hw hK hc i pins s σ H E I hf st hg
  subst hP hw hK
  obtain⟨xs,hq,hx⟩:=hg
  obtain⟨its,rv,p,hz⟩:=I.list hq
  obtain⟨f0,f1,f2,f3,f4,f5⟩:=hf it (by simp)
  have hl:=rv.length
  exact wpAny_pyNext_list_end (I.ok.hd hc) st p.isList (by simp;omega) fun h' eb=>⟨rfl,I.turned (t':=s.toks) (fun b o hb e=>eb b o hb e) f0 f1 f3 f4 f5⟩
 self:=fun _ _ _ _ _ st h=>wpAny_pyIter_listiter st h
theorem turn_tuple{P:Program}{w:World}{K:PySem.W.Frag}{tg:Expr}(a it:Addr):Turn P w K tg (Itt K a) [it] it (fun i h=>h.IsTupleIter it a i) where
 mem:=by simp
 obj:=fun i h st b hb=>by
  have e:b=it:=by simpa using hb
  subst e
  obtain⟨o,e,c,d⟩:=st
  exact⟨o,e,fun v z=>by rw [d] at z;cases z⟩
 keep:=fun i h h' st k=>st.at fun o e=>k it (by simp) o e
 item:=by
  intro X hP hw hK hc i pins s σ H E I hf st hg
  subst hP hw hK
  obtain⟨xs,x,hq,hx⟩:=hg
  obtain⟨its,rv,p,hz⟩:=I.tuple hq
  obtain⟨u,hu,ru⟩:=rv.get hx
  obtain⟨f0,f1,f2,f3,f4,f5⟩:=hf it (by simp)
  refine wpAny_pyNext_tuple_item st (show s.heap.IsTuple a its.toArray from p) (x:=u) (by simpa using hu) fun h' st' sb=>?_
  have I1:Inv X pins σ H { s with heap:=h' }:=I.turned (t':=s.toks) (fun b o hb e=>(sb.2 b hb).trans e) f0 f1 f3 f4 f5
  obtain⟨o,e,c,d⟩:=id st'
  exact⟨u,rfl,go_of (s:={ s with heap:=h' }) e c d (by decide) ⟨x,H,I1,ru,⟨rfl,fun ys hy=>by rw [I.tuple_inj hy hq];exact hx⟩,st',fun b hb=>(hf b hb).1⟩⟩
 done:=by
  intro X hP hw hK hc i pins s σ H E I hf st hg
  subst hP hw hK
  obtain⟨xs,hq,hx⟩:=hg
  obtain⟨its,rv,p,hz⟩:=I.tuple hq
  obtain⟨f0,f1,f2,f3,f4,f5⟩:=hf it (by simp)
  have hl:=rv.length
  exact wpAny_pyNext_tuple_end (I.ok.hd hc) st (show s.heap.IsTuple a its.toArray from p) (by simp;omega) fun h' eb=>⟨rfl,I.turned (t':=s.toks) (fun b o hb e=>eb b o hb e) f0 f1 f3 f4 f5⟩
 self:=fun _ _ _ _ _ st h=>wpAny_pyIter_tupleiter st h
theorem turn_range{P:Program}{w:World}{K:PySem.W.Frag}{tg:Expr}(it:Addr)(lo:Int)(n:Nat):Turn P w K tg (Itr lo n) [it] it (fun i h=>IsRangeIter h it (lo+(i:Nat) * 1) ((n:Int)-(i:Nat)) 1) where
 mem:=by simp
 obj:=fun i h st b hb=>by
  have e:b=it:=by simpa using hb
  subst e
  exact⟨_,st,fun v z=>by
   have z':Data.fields _=Data.cell v:=z
   cases z'⟩
 keep:=fun i h h' st k=>k it (by simp) _ st
 item:=by
  intro X hP hw hK hc i pins s σ H E I hf st hg
  subst hP hw hK
  obtain⟨f0,f1,f2,f3,f4,f5⟩:=hf it (by simp)
  have W:=Walks.range (prog:=X.prog) (w:=X.w) (I.ok.hd hc) it lo 1 n
  refine W.item i s _ _ hg st fun v h' tk hv st' kk=>?_
  obtain⟨t,rfl⟩:=hv
  have I1:Inv X pins σ H { s with heap:=h',toks:=tk }:=I.turned (fun b o hb e=>kk b o (by simpa using hb) e) f0 f1 f3 f4 f5
  refine⟨_,rfl,go_of (s:={ s with heap:=h',toks:=tk }) (n := "range_iterator") st' rfl rfl (by decide) ⟨.int (lo+i),H,I1,⟨t,?_⟩,⟨rfl,rfl⟩,st',fun b hb=>(hf b hb).1⟩⟩
  rw [Int.mul_one]
 done:=by
  intro X hP hw hK hc i pins s σ H E I hf st hg
  subst hP hw hK
  obtain⟨f0,f1,f2,f3,f4,f5⟩:=hf it (by simp)
  exact wpAny_pyNext_range_end (I.ok.hd hc) st (by have:n<=i:=hg;omega) fun h' eb=>⟨rfl,I.turned (t':=s.toks) (fun b o hb e=>eb b o hb e) f0 f1 f3 f4 f5⟩
 self:=fun _ _ _ _ _ st h=>wpAny_pyIter_rangeiter st h
section
variable {X:Cx}{tg:Expr}
theorem range_it{pins:List (Addr×Obj)}{σ:St}{H:Hp}{s:Shared}{R:It->Hp->Prop}{E:Value->Shared->Prop}{lo hi:Int}{t u v:Tok}{tk:Nat}(I:Inv X pins σ H s)(h1 : -(2 ^ 62)<=lo)(h2:lo<2 ^ 62)(h3 : -(2 ^ 62)<=hi)(h4:hi<2 ^ 62)
  (q:R (Itr lo (hi-lo).toNat) H):wpAny (model X.prog X.w) X.A (pyIter (.ref s.heap.objs.size)) (PIE X pins σ tg R) E { s with heap:=s.heap.push { cls:=.type "range",data:=.fields #[.int lo t,.int hi u,.int 1 v] },toks:=tk }:=by
 refine wpAny_pyIter_range (IsRange.new ..) (small_one h1 h2 h3 h4) ?_
 have I1:Inv X pins σ H { s with heap:=s.heap.push { cls:=.type "range",data:=.fields #[.int lo t,.int hi u,.int 1 v] },toks:=tk }:=I.kept fun b o e=>Heap.get?_push_of_some _ e
 refine⟨(s.heap.push { cls:=.type "range",data:=.fields #[.int lo t,.int hi u,.int 1 v] }).objs.size,[(s.heap.push { cls:=.type "range",data:=.fields #[.int lo t,.int hi u,.int 1 v] }).objs.size],_,_,H,rfl,
  I1.kept (t':=tk) fun b o e=>Heap.get?_push_of_some _ e,turn_range _ lo (hi-lo).toNat,?_,fun b hb=>?_,q⟩
 ·have e1:lo+((0:Nat):Int) * 1=lo:=by simp
  have e2:(((hi-lo).toNat:Nat):Int)-((0:Nat):Int)=Builtin.Range.rangeSize lo hi 1:=by rw [rangeSize_one];split <;> omega
  show IsRangeIter _ _ (lo+((0:Nat):Int) * 1) ((((hi-lo).toNat:Nat):Int)-((0:Nat):Int)) 1
  rw [e1,e2]
  exact Heap.get?_push_size _ rfl
 ·have e:b=(s.heap.push { cls:=.type "range",data:=.fields #[.int lo t,.int hi u,.int 1 v] }).objs.size:=by simpa using hb
  subst e
  exact I1.fpOk (Nat.le_refl _) (I1.hok.fresh (Nat.le_refl _))
def iRng1(ta:TA):TI:=fun σ H R=>ta σ H fun vs H1=>∃ j:Int,vs = [.int j]/\-(2 ^ 62)<=j/\j<2 ^ 62/\R (Itr 0 j.toNat) H1
theorem pi_range1{a:Expr}{ta:TA}{p pos:Pos}(hg:Gl X "range")(hm:X.mg "range" = none)(ha:PA X [a] ta)(hs:starEach [a] X.env = [(false,eval a X.env)]:=by rfl):PI X tg (.Call (.Name "range" p) [a] [] pos) (iRng1 ta):=by
 intro pins s σ H R I h
 refine Call_ (ld_blt I hg hm boot_range (PyProof.Rows.callWith_type1 (thn (ha pos pins s σ H _ I h) fun us s1 ⟨vs,H1,I1,r1,q1⟩=>?_) hs rfl))
 obtain⟨j,e,q1,q2,q⟩:=q1
 subst e
 cases r1 with
 | cons r rr =>
  cases rr
  obtain⟨t,rfl⟩:=r
  exact call_range_1 (range_it I1 (by omega) (by omega) q1 q2 (by simpa using q))
def tFor(wi:TI)(g:TG)(tb:TS):TS:=fun D σ H=>wi σ H fun J H1=>∃ W:Nat->Nat->St->Hp->Prop,(∃ m,W 0 m σ H1)/\∀ i m σ H,W i m σ H ->
 (J.stop i H/\D.nx σ H)\/(J.go i H/\∃ N:St->Hp->Prop,(∀ σ' H',N σ' H'->∃ m',m' < m/\W (i+1) m' σ' H')/\∀ x H',J.yld i H x H'->g x σ H' fun σ2 H2=>tb { D with nx:=N,ct:=N,bk:=D.nx } σ2 H2)
def pinsAt(fp:List Addr)(h:Heap):List (Addr×Obj):=fp.filterMap fun b=>(h.get? b).map fun o=>(b,o)
theorem mem_pinsAt{fp:List Addr}{h:Heap}{b:Addr}{o:Obj}(hb:b∈fp)(e:h.get? b=some o):(b,o)∈pinsAt fp h:=List.mem_filterMap.mpr ⟨b,hb,by rw [e];rfl⟩
theorem of_pinsAt{fp:List Addr}{h:Heap}{p:Addr×Obj}(hp:p∈pinsAt fp h):p.1∈fp/\h.get? p.1=some p.2:=by
 obtain⟨b,hb,e⟩:=List.mem_filterMap.mp hp
 cases q:h.get? b with
 | none=>rw [q] at e;cases e
 | some o =>
  rw [q] at e
  have e':(b,o)=p:=Option.some.inj e
  subst e'
  exact⟨hb,q⟩
theorem Inv.pinned{pins:List (Addr×Obj)}{σ:St}{H:Hp}{s:Shared}{fp:List Addr}(I:Inv X pins σ H s)(hf:∀ b∈fp,FpOk X pins H b)(ho:∀ b∈fp,∃ o,s.heap.get? b=some o/\∀ v,o.data ≠ .cell v):Inv X (pins++pinsAt fp s.heap) σ H s :=
 I.pins_of fun p hp=>(List.mem_append.mp hp).elim (fun z=>I.pin p (List.mem_append_right _ z)) fun z=>by
  obtain⟨hb,e⟩:=of_pinsAt z
  obtain⟨f0,f1,f2,_⟩:=hf p.1 hb
  obtain⟨o,e',d⟩:=ho p.1 hb
  rw [e] at e';cases e'
  exact⟨e,f0,f1,f2,d⟩
theorem Inv.unpinned{pins pl:List (Addr×Obj)}{σ:St}{H:Hp}{s:Shared}(I:Inv X (pins++pl) σ H s):Inv X pins σ H s:=I.pins_of fun p hp=>I.pin p (List.mem_append_right _ (List.mem_append_left _ hp))
theorem ps_for{iter:Expr}{body:List Stmt}{wi:TI}{g:TG}{tb:TS}{pos:Pos}(hp:PassesOwn (model X.prog X.w) X.A X.env X.xe)(hc:X.calm=true)(hi:PI X tg iter wi)(hg:PG X tg g)(hb:PSs X body tb)
  (hs:∀ x,foldedSetIterable iter X.env x=pure x:=by intro _;rfl):PS X (.For tg iter body [] pos) (tFor wi g tb):=by
 intro pins s σ H D I h
 refine wpAny_For (thn (hi pins s σ H _ I h) fun v s1 h1=>thn h1 fun itv s2 h2=>?_) hs
 obtain⟨it,fp,tn,J,H2,e,I2,T,st2,f2,W,⟨m0,w0⟩,turn⟩:=h2
 subst e
 -- what stays true of the iterator's objects through the loop
 have stat:∀{H':Hp},(∀ b∈fp,H' b=none)->∀ b∈fp,FpOk X pins H' b:=fun hn b hb=>⟨hn b hb,(f2 b hb).2⟩
 refine codeAny_forLoop_any (fun n s'=>∃ i σ' H',Inv X pins σ' H' s'/\tn i s'.heap/\(∀ b∈fp,H' b=none)/\W i n σ' H') ?_ m0 ⟨0,σ,H2,I2,st2,fun b hb=>(f2 b hb).1,w0⟩
 rintro n s3 ⟨i,σ3,H3,I3,st3,fr3,w3⟩
 rcases turn i n σ3 H3 w3 with⟨stop,qn⟩ | ⟨go,N,hN,step⟩
 ·refine wpAny_passesOwn hp (thn (T.done X rfl rfl rfl hc i pins s3 σ3 H3 X.xe I3 (stat fr3) st3 stop) fun r s4 ⟨hr,I4⟩=>?_)
  subst hr
  exact wpAny_execs_nil ⟨σ3,H3,I4,qn⟩
 ·refine wpAny_passesOwn hp (thn (T.item X rfl rfl rfl hc i pins s3 σ3 H3 X.xe I3 (stat fr3) st3 go) fun r s4 ⟨u,hr,h4⟩=>?_)
  subst hr
  refine wpAny_passesOwn hp (thn h4 fun _ s5 ⟨x,H5,I5,r5,y5,st5,fr5⟩=>?_)
  have I5':=I5.pinned (stat fr5) (T.obj _ _ st5)
  refine wpAny_passesOwn hp (thn (hg _ s5 σ3 H5 x u _ I5' r5 (step x H5 y5)) fun _ s6 ⟨σ6,H6,I6,q6⟩=>?_)
  refine wpAny_passesOwn hp (thn (hb _ s6 σ6 H6 _ I6 q6) fun f s7 q7=>?_)
  have again:∀{σ7:St} {H7:Hp},Inv X (pins++pinsAt fp s5.heap) σ7 H7 s7->N σ7 H7->∃ m,m<n/\∃ i σ' H',Inv X pins σ' H' s7/\tn i s7.heap/\(∀ b∈fp,H' b=none)/\W i m σ' H':=fun{σ7 H7} I7 n7=>by
   obtain⟨m',hm,w7⟩:=hN σ7 H7 n7
   refine⟨m',hm,i+1,σ7,H7,I7.unpinned,T.keep _ _ _ st5 fun b hb o e=>(I7.pin (b,o) (List.mem_append_right _ (List.mem_append_right _ (mem_pinsAt hb e)))).1,fun b hb=>?_,w7⟩
   obtain⟨o,e,d⟩:=T.obj _ _ st5 b hb
   exact(I7.pin (b,o) (List.mem_append_right _ (List.mem_append_right _ (mem_pinsAt hb e)))).2.1
  cases f with
  | next=>obtain⟨σ7,H7,I7,n7⟩:=q7;exact again I7 n7
  | cont=>obtain⟨σ7,H7,I7,n7⟩:=q7;exact again I7 n7
  | brk=>obtain⟨σ7,H7,I7,q7⟩:=q7;exact⟨σ7,H7,I7.unpinned,q7⟩
  | ret v=>obtain⟨x7,σ7,H7,I7,r7,q7⟩:=q7;exact⟨x7,σ7,H7,I7.unpinned,r7,q7⟩
end
abbrev R2:=V->V->Hp->VK->Prop
def OpR(X:Cx)(f:Value->Value->Sem Value)(r:R2):Prop :=
 ∀(pins:List (Addr×Obj)) (s:Shared) (σ:St) (H:Hp) (x y:V) (v u:Value) (Q:VK),Inv X pins σ H s->RelV x v->RelV y u->r x y H Q ->
  wpAny (model X.prog X.w) X.A (f v u) (EP X pins σ Q) X.xe s
def UnR(X:Cx)(f:Value->Sem Value)(r:V->Hp->VK->Prop):Prop :=
 ∀(pins:List (Addr×Obj)) (s:Shared) (σ:St) (H:Hp) (x:V) (v:Value) (Q:VK),Inv X pins σ H s->RelV x v->r x H Q ->
  wpAny (model X.prog X.w) X.A (f v) (EP X pins σ Q) X.xe s
def CallR(X:Cx)(f:Value)(r:List V->Hp->VK->Prop):Prop :=
 ∀(pins:List (Addr×Obj)) (s:Shared) (σ:St) (H:Hp) (xs:List V) (us:List Value) (Q:VK),Inv X pins σ H s->Vals xs us->r xs H Q ->
  wpAny (model X.prog X.w) X.A (call f us) (EP X pins σ Q) X.xe s
def TruR(X:Cx)(r:V->Hp->(Bool->Hp->Prop)->Prop):Prop :=
 ∀(pins:List (Addr×Obj)) (s:Shared) (σ:St) (H:Hp) (x:V) (v:Value) (Q:Bool->Hp->Prop),Inv X pins σ H s->RelV x v->r x H Q ->
  wpAny (model X.prog X.w) X.A (truthy v) (TP X pins σ Q) X.xe s
def tOp(r:R2)(ta tb:TE):TE:=fun σ H Q=>ta σ H fun x H1=>tb σ H1 fun y H2=>r x y H2 Q
def tUn(r:V->Hp->VK->Prop)(ta:TE):TE:=fun σ H Q=>ta σ H fun x H1=>r x H1 Q
def rI(C:Int->Int->Prop)(g:Int->Int->V):R2:=fun x y H Q=>∃ i j,x=.int i/\y=.int j/\C i j/\Q (g i j) H
def rI0(g:Int->Int->V):R2:=fun x y H Q=>∃ i j,x=.int i/\y=.int j/\Q (g i j) H
def rU(g:Int->V):V->Hp->VK->Prop:=fun x H Q=>∃ i,x=.int i/\Q (g i) H
section
variable {X:Cx}{a b c:Expr}{ta tb tc:TE}{pos:Pos}
theorem binT(ha:PE X a ta)(hb:PE X b tb){pins:List (Addr×Obj)}{s:Shared}{σ:St}{H:Hp}{R:V->V->Hp->Prop}(I:Inv X pins σ H s)
  (h:ta σ H fun x H1=>tb σ H1 fun y H2=>R x y H2) {Q:Value->Shared->Prop} {f:Value->Value->Sem Value}
  (hf:∀ v u s2 x y H2,Inv X pins σ H2 s2->RelV x v->RelV y u->R x y H2->wpAny (model X.prog X.w) X.A (f v u) Q X.xe s2) :
  wpAny (model X.prog X.w) X.A (eval a X.env) (fun v s₁=>wpAny (model X.prog X.w) X.A (eval b X.env) (fun u s₂=>wpAny (model X.prog X.w) X.A (f v u) Q X.xe s₂) X.xe s₁) X.xe s:=by
 refine thn (ha pins s σ H _ I h) fun v s1 ⟨x,H1,I1,r1,q1⟩=>?_
 refine thn (hb pins s1 σ H1 _ I1 q1) fun u s2 ⟨y,H2,I2,r2,q2⟩=>?_
 exact hf v u s2 x y H2 I2 r1 r2 q2
theorem pe_op{op:Operator}{r:R2}(ho:OpR X (binaryOp op) r)(ha:PE X a ta)(hb:PE X b tb):PE X (.BinOp a op b pos) (tOp r ta tb):=by
 intro pins s σ H Q I h
 exact wpAny_BinOp (binT ha hb I h fun v u s2 x y H2 I2 rx ry q=>ho pins s2 σ H2 x y v u Q I2 rx ry q)
theorem pe_un{op:UnaryOp}{r:V->Hp->VK->Prop}(ho:UnR X (unaryOp op) r)(ha:PE X a ta):PE X (.UnaryOp op a pos) (tUn r ta):=by
 intro pins s σ H Q I h
 exact UnaryOp_ (thn (ha pins s σ H _ I h) fun v s1 ⟨x,H1,I1,r1,q1⟩=>ho pins s1 σ H1 x v Q I1 r1 q1)
theorem opI{f:Value->Value->Sem Value}{C:Int->Int->Prop}{g:Int->Int->Int}
  (rule:∀(i j:Int) (t u:Tok) (s:Shared) (Q:Value->Shared->Prop) (E:Value->Shared->Prop),C i j->Q (.int (g i j) s.toks) { s with toks:=s.toks+1 }->wpAny (model X.prog X.w) X.A (f (.int i t) (.int j u)) Q E s) :
  OpR X f (rI C fun i j=>.int (g i j)):=by
 intro pins s σ H x y v u Q I rx ry h
 obtain⟨i,j,rfl,rfl,hc,q⟩:=h
 obtain⟨t,rfl⟩:=rx
 obtain⟨t',rfl⟩:=ry
 exact rule i j t t' s _ _ hc ⟨.int (g i j),H,I.tok _,⟨_,rfl⟩,q⟩
theorem opI0{f:Value->Value->Sem Value}{g:Int->Int->Int}
  (rule:∀(i j:Int) (t u:Tok) (s:Shared) (Q:Value->Shared->Prop) (E:Value->Shared->Prop),Q (.int (g i j) s.toks) { s with toks:=s.toks+1 }->wpAny (model X.prog X.w) X.A (f (.int i t) (.int j u)) Q E s) :
  OpR X f (rI0 fun i j=>.int (g i j)):=by
 intro pins s σ H x y v u Q I rx ry h
 obtain⟨i,j,rfl,rfl,q⟩:=h
 obtain⟨t,rfl⟩:=rx
 obtain⟨t',rfl⟩:=ry
 exact rule i j t t' s _ _ ⟨.int (g i j),H,I.tok _,⟨_,rfl⟩,q⟩
theorem opB0{f:Value->Value->Sem Value}{g:Int->Int->Bool}
  (rule:∀(i j:Int) (t u:Tok) (s:Shared) (Q:Value->Shared->Prop) (E:Value->Shared->Prop),Q (.bool (g i j)) s->wpAny (model X.prog X.w) X.A (f (.int i t) (.int j u)) Q E s) :
  OpR X f (rI0 fun i j=>.bl (g i j)):=by
 intro pins s σ H x y v u Q I rx ry h
 obtain⟨i,j,rfl,rfl,q⟩:=h
 obtain⟨t,rfl⟩:=rx
 obtain⟨t',rfl⟩:=ry
 exact rule i j t t' s _ _ ⟨.bl (g i j),H,I,rfl,q⟩
def CPow(i j:Int):Prop:=0<=j/\j<=1000000/\i.natAbs<2 ^ 64
def CMul(i j:Int):Prop:=(-(2 ^ 64)<i/\i<2 ^ 64)\/(-(2 ^ 64)<j/\j<2 ^ 64)
theorem CMul.ok{i j:Int}(h:CMul i j):IntMulOk i j:=by
 rcases h with⟨h1,h2⟩ | ⟨h1,h2⟩
 ·exact .of_left (intBits_le_64 h1 h2)
 ·exact .of_right (intBits_le_64 h1 h2)
theorem op_add:OpR X (binaryOp .Add) (rI0 fun i j=>.int (i+j)):=opI0 fun _ _ _ _ _ _ _ q=>add_int q
theorem op_sub:OpR X (binaryOp .Sub) (rI0 fun i j=>.int (i-j)):=opI0 fun _ _ _ _ _ _ _ q=>sub_int q
theorem op_mul:OpR X (binaryOp .Mult) (rI CMul fun i j=>.int (i * j)):=opI fun _ _ _ _ _ _ _ hc q=>mul_int q hc.ok
theorem op_mod:OpR X (binaryOp .Mod) (rI (fun _ j=>0<j) fun i j=>.int (i % j)):=opI fun i j _ _ _ _ _ hc q=>by
 have h1:(0:Int)<j:=hc
 exact mod_int' (by omega) (by rw [Int.fmod_eq_emod_of_nonneg i (by omega)];exact q)
theorem op_pow:OpR X (binaryOp .Pow) (rI CPow fun i j=>.int (i ^ j.toNat)):=opI fun _ _ _ _ _ _ _ hc q=>pow_int_small hc.1 hc.2.1 hc.2.2 q
theorem unI{f:Value->Sem Value}{g:Int->Int}
  (rule:∀(i:Int) (t:Tok) (s:Shared) (Q:Value->Shared->Prop) (E:Value->Shared->Prop),Q (.int (g i) s.toks) { s with toks:=s.toks+1 }->wpAny (model X.prog X.w) X.A (f (.int i t)) Q E s) :
  UnR X f (rU fun i=>.int (g i)):=by
 intro pins s σ H x v Q I rx h
 obtain⟨i,rfl,q⟩:=h
 obtain⟨t,rfl⟩:=rx
 exact rule i t s _ _ ⟨.int (g i),H,I.tok _,⟨_,rfl⟩,q⟩
theorem un_neg:UnR X (unaryOp .USub) (rU fun i=>.int (-i)):=unI fun _ _ _ _ _ q=>neg_int q
end
def scal:V->V->Bool
 | .non,.non=>true | .non,.int _=>true | .int _,.non=>true | .non,.bl _=>true | .bl _,.non=>true | .non,.str _=>true | .str _,.non=>true
 | .int _,.int _=>true | .bl _,.bl _=>true | .str _,.str _=>true | .byt _,.byt _=>true
 | .int _,.str _=>true | .str _,.int _=>true | .bl _,.str _=>true | .str _,.bl _=>true
 | _,_=>false
def rEq:R2:=fun x y H Q=>scal x y=true/\Q (.bl (decide (x=y))) H
def rNe:R2:=fun x y H Q=>scal x y=true/\Q (.bl (!decide (x=y))) H
theorem dec_int{i j:Int}:decide (V.int i=V.int j)=(i == j):=by
 rw [Bool.eq_iff_iff]
 simp
theorem dec_bl{i j:Bool}:decide (V.bl i=V.bl j)=(i == j):=by
 rw [Bool.eq_iff_iff]
 simp
theorem dec_str{i j:Str}:decide (V.str i=V.str j)=(i == j):=by
 rw [Bool.eq_iff_iff]
 simp
theorem dec_byt{i j:Array UInt8}:decide (V.byt i=V.byt j)=(i.toList == j.toList):=by
 rw [Bool.eq_iff_iff]
 cases i
 cases j
 simp
section
variable {X:Cx}{a b c:Expr}{ta tb tc:TE}{pos:Pos}
theorem fin_bl{pins:List (Addr×Obj)}{σ:St}{H:Hp}{s:Shared}{Q:VK}{k k':Bool}(I:Inv X pins σ H s)(q:Q (.bl k) H)(e:k=k'):EP X pins σ Q (.bool k') s:=by
 subst e
 exact⟨.bl k,H,I,rfl,q⟩
theorem op_eq:OpR X (compareOp .Eq) rEq:=by
 intro pins s σ H x y v u Q I rx ry h
 obtain⟨hs,q⟩:=h
 cases x with
 | non =>
  cases rx
  cases y with
  | non=>cases ry;exact PySem.EqNone.eq_none_none (fin_bl I q (by simp))
  | bl j=>cases ry;exact PySem.EqNone.eq_none_bool (fin_bl I q (by simp))
  | int j=>obtain⟨t',rfl⟩:=ry;exact PySem.EqNone.eq_none_int (fin_bl I q (by simp))
  | str j=>obtain⟨t',rfl⟩:=ry;exact PySem.EqNone.eq_none_str (fin_bl I q (by simp))
  | _=>exact absurd (show false=true from hs) Bool.false_ne_true
 | bl i =>
  cases rx
  cases y with
  | non=>cases ry;exact PySem.EqNone.eq_bool_none (fin_bl I q (by simp))
  | bl j=>cases ry;exact eq_bool (fin_bl I q dec_bl)
  | str j=>obtain⟨t',rfl⟩:=ry;exact PySem.EqMixed.eq_bool_str (fin_bl I q (by simp))
  | _=>exact absurd (show false=true from hs) Bool.false_ne_true
 | int i =>
  obtain⟨t,rfl⟩:=rx
  cases y with
  | non=>cases ry;exact PySem.EqNone.eq_int_none (fin_bl I q (by simp))
  | int j=>obtain⟨t',rfl⟩:=ry;exact eq_int (fin_bl I q dec_int)
  | str j=>obtain⟨t',rfl⟩:=ry;exact PySem.EqMixed.eq_int_str (fin_bl I q (by simp))
  | _=>exact absurd (show false=true from hs) Bool.false_ne_true
 | str i =>
  obtain⟨t,rfl⟩:=rx
  cases y with
  | non=>cases ry;exact PySem.EqNone.eq_str_none (fin_bl I q (by simp))
  | bl j=>cases ry;exact PySem.EqMixed.eq_str_bool (fin_bl I q (by simp))
  | int j=>obtain⟨t',rfl⟩:=ry;exact PySem.EqMixed.eq_str_int (fin_bl I q (by simp))
  | str j=>obtain⟨t',rfl⟩:=ry;exact eq_str (fin_bl I q dec_str)
  | _=>exact absurd (show false=true from hs) Bool.false_ne_true
 | byt i =>
  obtain⟨t,rfl⟩:=rx
  cases y with
  | byt j=>obtain⟨t',rfl⟩:=ry;exact PySem.W.eq_bytes (fin_bl I q dec_byt)
  | _=>exact absurd (show false=true from hs) Bool.false_ne_true
 | _=>cases y <;> exact absurd (show false=true from hs) Bool.false_ne_true
theorem op_ne:OpR X (compareOp .NotEq) rNe:=by
 intro pins s σ H x y v u Q I rx ry h
 obtain⟨hs,q⟩:=h
 cases x with
 | non =>
  cases rx
  cases y with
  | non=>cases ry;exact PySem.EqNone.ne_none_none (fin_bl I q (by simp))
  | bl j=>cases ry;exact PySem.EqNone.ne_none_bool (fin_bl I q (by simp))
  | int j=>obtain⟨t',rfl⟩:=ry;exact PySem.EqNone.ne_none_int (fin_bl I q (by simp))
  | str j=>obtain⟨t',rfl⟩:=ry;exact PySem.EqNone.ne_none_str (fin_bl I q (by simp))
  | _=>exact absurd (show false=true from hs) Bool.false_ne_true
 | bl i =>
  cases rx
  cases y with
  | non=>cases ry;exact PySem.EqNone.ne_bool_none (fin_bl I q (by simp))
  | bl j=>cases ry;exact ne_bool (fin_bl I q (congrArg not dec_bl))
  | str j=>obtain⟨t',rfl⟩:=ry;exact PySem.EqMixed.ne_bool_str (fin_bl I q (by simp))
  | _=>exact absurd (show false=true from hs) Bool.false_ne_true
 | int i =>
  obtain⟨t,rfl⟩:=rx
  cases y with
  | non=>cases ry;exact PySem.EqNone.ne_int_none (fin_bl I q (by simp))
  | int j=>obtain⟨t',rfl⟩:=ry;exact ne_int (fin_bl I q (congrArg not dec_int))
  | str j=>obtain⟨t',rfl⟩:=ry;exact PySem.EqMixed.ne_int_str (fin_bl I q (by simp))
  | _=>exact absurd (show false=true from hs) Bool.false_ne_true
 | str i =>
  obtain⟨t,rfl⟩:=rx
  cases y with
  | non=>cases ry;exact PySem.EqNone.ne_str_none (fin_bl I q (by simp))
  | bl j=>cases ry;exact PySem.EqMixed.ne_str_bool (fin_bl I q (by simp))
  | int j=>obtain⟨t',rfl⟩:=ry;exact PySem.EqMixed.ne_str_int (fin_bl I q (by simp))
  | str j=>obtain⟨t',rfl⟩:=ry;exact ne_str (fin_bl I q (congrArg not dec_str))
  | _=>exact absurd (show false=true from hs) Bool.false_ne_true
 | byt i =>
  obtain⟨t,rfl⟩:=rx
  cases y with
  | byt j=>obtain⟨t',rfl⟩:=ry;exact PySem.W.ne_bytes (fin_bl I q (congrArg not dec_byt))
  | _=>exact absurd (show false=true from hs) Bool.false_ne_true
 | _=>cases y <;> exact absurd (show false=true from hs) Bool.false_ne_true
theorem op_lt:OpR X (compareOp .Lt) (rI0 fun i j=>.bl (decide (i<j))):=opB0 fun _ _ _ _ _ _ _ q=>lt_int q
theorem op_le:OpR X (compareOp .LtE) (rI0 fun i j=>.bl (decide (i<=j))):=opB0 fun _ _ _ _ _ _ _ q=>le_int q
theorem op_gt:OpR X (compareOp .Gt) (rI0 fun i j=>.bl (decide (j<i))):=opB0 fun _ _ _ _ _ _ _ q=>gt_int q
theorem op_ge:OpR X (compareOp .GtE) (rI0 fun i j=>.bl (decide (j<=i))):=opB0 fun _ _ _ _ _ _ _ q=>ge_int q
theorem nomark(b:Expr){op:CmpOp}(h:op ≠ .In:=by decide)(h2:op ≠ .NotIn:=by decide):behindInMarks op b=false:=by
 have e1:(op == CmpOp.In)=false:=by cases op <;> first | rfl | exact absurd rfl h
 have e2:(op == CmpOp.NotIn)=false:=by cases op <;> first | rfl | exact absurd rfl h2
 cases b <;> simp [behindInMarks,e1,e2]
def tTest(t:TE):TT:=fun σ H Q=>t σ H fun x H'=>∃ k,x=.bl k/\Q k H'
theorem pt_cmpR{op:CmpOp}{r:R2}(ho:OpR X (compareOp op) r)(ha:PE X a ta)(hb:PE X b tb)(hm:behindInMarks op b=false):PT X (.Compare a [op] [b] pos) (tTest (tOp r ta tb)):=by
 intro pins s σ H Q I h
 refine wpAny_isTrue_Compare1 (thn (ha pins s σ H _ I h) fun v s1 ⟨x,H1,I1,r1,q1⟩=>thn (hb pins s1 σ H1 _ I1 q1) fun u s2 ⟨y,H2,I2,r2,q2⟩ =>
  thn (ho pins s2 σ H2 x y v u _ I2 r1 r2 q2) fun c s3 ⟨z,H3,I3,r3,k,e,q3⟩=>?_) hm
 subst e
 cases r3
 exact wpAny_truthy_bool ⟨H3,I3,q3⟩
def TruV(K:PySem.W.Frag)(x:V)(H:Hp)(k:Bool):Prop :=
 match x with
 | .non=>k=false
 | .bl b=>k=b
 | .int i=>k=(i != 0)
 | .str y=>y.length<=sizeLine/\k=((y.length:Int) != 0)
 | .byt y=>y.size<=sizeLine/\k=((y.size:Int) != 0)
 | .ref p=>(∃ xs,SqL K H p xs/\k = !xs.isEmpty)\/(∃ xs,SqT K H p xs/\k = !xs.isEmpty)\/∃ kvs,H p=some (.dK kvs)/\k = !kvs.isEmpty
 | _=>False
theorem isEmpty_kv{κ:Type}{kvs:List (κ×V)}{vs:List (κ×Value)}(r:KV kvs vs):(!vs.isEmpty) = !kvs.isEmpty:=by
 cases r <;> rfl
theorem isEmpty_of{xs:List V}{its:List Value}(r:Vals xs its):(!its.toArray.isEmpty) = !xs.isEmpty:=by
 cases r <;> simp
theorem line63:(sizeLine:Nat)<2 ^ 63:=by rw [sizeLine_eq];decide
theorem tru_ok:TruR X (fun x H Q=>∃ k,TruV X.K x H k/\Q k H):=by
 intro pins s σ H x v Q I rx h
 obtain⟨k,e,q⟩:=h
 have hl:=line63
 have hs:sizeLine=16777216:=sizeLine_eq
 cases x with
 | non =>
  cases rx
  have e':k=false:=e
  subst e'
  exact truthy_none ⟨H,I,q⟩
 | bl b =>
  cases rx
  have e':k=b:=e
  subst e'
  exact wpAny_truthy_bool ⟨H,I,q⟩
 | int i =>
  obtain⟨t,rfl⟩:=rx
  have e':k=(i != 0):=e
  subst e'
  exact PySem.P.truthy_int ⟨H,I,q⟩
 | str y =>
  obtain⟨t,rfl⟩:=rx
  obtain⟨hy,e'⟩:y.length<=sizeLine/\k=((y.length:Int) != 0):=e
  subst e'
  exact PySem.P.truthy_str (by omega) ⟨H,I.tok _,q⟩
 | byt y =>
  obtain⟨t,rfl⟩:=rx
  obtain⟨hy,e'⟩:y.size<=sizeLine/\k=((y.size:Int) != 0):=e
  subst e'
  exact PySem.W.truthy_bytes (by omega) ⟨H,I.tok _,q⟩
 | ref p =>
  cases rx
  have e':(∃ xs,SqL X.K H p xs/\k = !xs.isEmpty)\/(∃ xs,SqT X.K H p xs/\k = !xs.isEmpty)\/∃ kvs,H p=some (.dK kvs)/\k = !kvs.isEmpty:=e
  rcases e' with⟨xs,hx,e'⟩ | ⟨xs,hx,e'⟩ | ⟨kvs,hx,e'⟩
  ·subst e'
   obtain⟨its,r,pl,hz⟩:=I.list hx
   have hlen:=r.length
   exact wpAny_truthy_list pl.isList (by simp only [List.size_toArray];omega) ⟨H,I.tok _,by rw [isEmpty_of r];exact q⟩
  ·subst e'
   obtain⟨its,r,pl,hz⟩:=I.tuple hx
   have hlen:=r.length
   exact truthy_tuple pl (by simp only [List.size_toArray];omega) ⟨H,I.tok _,by rw [isEmpty_of r];exact q⟩
  ·subst e'
   obtain⟨hz,hS,vs,r,m⟩:kvs.length<=sizeLine/\(p == sysModules)=false/\∃ vs,KV kvs vs/\s.heap.DictOf (mixKind X.prog X.w) p vs:=I.hok p _ hx
   have hlen:kvs.length=vs.length:=Paired.length r
   exact wpAny_truthy_dict hS m (by omega) ⟨H,I.tok _,by rw [isEmpty_kv r];exact q⟩
 | _=>exact(show False from e).elim
theorem pt_truth(ha:PE X a ta)(he:∀ whole,isTrue a X.env whole=(do let v <-whole;standAt a.pos;holding [v] (truthy v))):
  PT X a (fun σ H Q=>ta σ H fun x H'=>∃ k,TruV X.K x H' k/\Q k H'):=by
 intro pins s σ H Q I h
 exact isTrue_plain (thn (ha pins s σ H _ I h) fun v s1 ⟨x,H1,I1,r1,q1⟩=>tru_ok pins s1 σ H1 x v Q I1 r1 q1) (he _)
theorem op_add_str:OpR X (binaryOp .Add) (fun x y H Q=>∃ i j,x=.str i/\y=.str j/\i.length+j.length<=sizeLine/\Q (.str (i++j)) H):=by
 intro pins s σ H x y v u Q I rx ry h
 obtain⟨i,j,rfl,rfl,hz,q⟩:=h
 obtain⟨t,rfl⟩:=rx
 obtain⟨t',rfl⟩:=ry
 exact add_str (fun t' tk=>⟨.str (i++j),H,I.tok _,⟨_,rfl⟩,q⟩) hz
theorem vals1{x:V}{us:List Value}(r:Vals [x] us):∃ u,us = [u]/\RelV x u:=by
 cases r with
 | cons r1 r2=>cases r2;exact⟨_,rfl,r1⟩
theorem vals2{x y:V}{us:List Value}(r:Vals [x,y] us):∃ u w',us = [u,w']/\RelV x u/\RelV y w':=by
 cases r with
 | cons r1 r2 =>
  cases r2 with
  | cons r3 r4=>cases r4;exact⟨_,_,rfl,r1,r3⟩
theorem call_max2(hc:X.calm=true):CallR X (.builtin "max") (fun xs H Q=>∃ i j,xs = [.int i,.int j]/\Q (.int (if j > i then j else i)) H):=by
 intro pins s σ H xs us Q I r h
 obtain⟨i,j,rfl,q⟩:=h
 obtain⟨u,w',rfl,⟨t,rfl⟩,⟨t',rfl⟩⟩:=vals2 r
 refine max_two_ints (I.ok.hd hc) fun h' tk k=>⟨_,H,I.kept k,?_,q⟩
 by_cases hj:j > i
 ·rw [if_pos hj,if_pos hj];exact⟨_,rfl⟩
 ·rw [if_neg hj,if_neg hj];exact⟨_,rfl⟩
theorem call_int1:CallR X (.type "int") (fun xs H Q=>(∃ i,xs = [.int i]/\Q (.int i) H)\/∃ k,xs = [.bl k]/\Q (.int (if k then 1 else 0)) H):=by
 intro pins s σ H xs us Q I r h
 rcases h with⟨i,rfl,q⟩ | ⟨k,rfl,q⟩
 ·obtain⟨u,rfl,t,rfl⟩:=vals1 r
  exact call_int_int ⟨.int i,H,I,⟨_,rfl⟩,q⟩
 ·obtain⟨u,rfl,r1⟩:=vals1 r
  cases r1
  exact call_int_bool ⟨.int (if k then 1 else 0),H,I.tok _,⟨_,rfl⟩,q⟩
def LenV(K:PySem.W.Frag)(x:V)(H:Hp)(n:Nat):Prop :=
 match x with
 | .str y=>y.length<=sizeLine/\n=y.length
 | .byt y=>y.size<=sizeLine/\n=y.size
 | .ref p=>(∃ xs,SqL K H p xs/\n=xs.length)\/∃ xs,SqT K H p xs/\n=xs.length
 | _=>False
theorem call_len:CallR X (.builtin "len") (fun xs H Q=>∃ x n,xs = [x]/\LenV X.K x H n/\Q (.int n) H):=by
 intro pins s σ H xs us Q I r h
 obtain⟨x,n,rfl,e,q⟩:=h
 obtain⟨u,rfl,rx⟩:=vals1 r
 have hl:=line63
 have hs:sizeLine=16777216:=sizeLine_eq
 cases x with
 | str y =>
  obtain⟨t,rfl⟩:=rx
  obtain⟨hy,e'⟩:y.length<=sizeLine/\n=y.length:=e
  subst e'
  exact len_str (by omega) ⟨.int _,H,I.tok _,⟨_,rfl⟩,q⟩
 | byt y =>
  obtain⟨t,rfl⟩:=rx
  obtain⟨hy,e'⟩:y.size<=sizeLine/\n=y.size:=e
  subst e'
  exact PySem.W.len_bytes (by omega) ⟨.int _,H,I.tok _,⟨_,rfl⟩,q⟩
 | ref p =>
  cases rx
  have e':(∃ xs,SqL X.K H p xs/\n=xs.length)\/∃ xs,SqT X.K H p xs/\n=xs.length:=e
  rcases e' with⟨xs,hx,e'⟩ | ⟨xs,hx,e'⟩
  ·subst e'
   obtain⟨its,r',pl,hz⟩:=I.list hx
   have hlen:=r'.length
   exact Calls.call_len_list pl.isList (by simp only [List.size_toArray];omega) ⟨.int xs.length,H,I.tok _,⟨_,by simp only [List.size_toArray];rw [hlen]⟩,q⟩
  ·subst e'
   obtain⟨its,r',pl,hz⟩:=I.tuple hx
   have hlen:=r'.length
   exact len_tuple pl (by simp only [List.size_toArray];omega) ⟨.int xs.length,H,I.tok _,⟨_,by simp only [List.size_toArray];rw [hlen]⟩,q⟩
 | _=>exact(show False from e).elim
end
structure ObjM(h:Heap)(x dx C:Addr)(mA:Str->Option Value):Prop where
 obj:h.get? x=some (PySem.W.instObj C dx)
 ns:h.Ns1 dx mA
 ne:dx≠x
theorem lookIn_ns{h:Heap}{dx:Addr}{mA:Str->Option Value}(n:h.Ns1 dx mA):∃ od,h.get? dx=some od/\∀ name,PySem.W.lookIn name od=some (mA name):=by
 obtain⟨o,es,ep,ho,hd,hk,_,hm⟩:=n
 refine⟨o,ho,fun name=>?_⟩
 have e:=hm name
 unfold nsFind findBy at e
 rw [<-Array.find?_toList] at e
 unfold PySem.W.lookIn
 rw [hd]
 dsimp only
 split
 ·rename_i y q
  rw [q] at e
  exact congrArg some e
 ·rename_i q
  rw [q] at e
  have a:es.toList.any (·.refKey)=false:=by
   rw [List.any_eq_false]
   intro y hy
   obtain⟨z,t,hkey⟩:=hk y (Array.mem_toList_iff.mp hy)
   simp [DictEntry.refKey,hkey]
  have a':¬ es.toList.any (·.refKey)=true:=by rw [a];exact Bool.false_ne_true
  rw [if_neg a']
  exact congrArg some e
section
variable {prog:Program}{w:World}{A:Around}{E:Value->Shared->Prop}{s:Shared}{K:PySem.W.Frag}{x dx C f:Addr}{mA:Str->Option Value}{name:Str}{v:Value}
end
section
variable {P:Program}{w:World}{H H':Hp}{h h':Heap}{a C dx:Addr}{fs fs':List (Str×V)}
end
structure Cls(K:PySem.W.Frag)(C:Addr):Prop where
 pg:PySem.W.plainGet K C Str.empty=true
 hd:PySem.W.hasDictIn K C=true
 po:PySem.W.plainOver K C=true
 sa:PySem.W.findIn K (.ref C) "__setattr__" = some (some (.builtin "object.__setattr__"))
def NoAttr(K:PySem.W.Frag)(C:Addr)(f:Str):Prop:=PySem.W.findIn K (.ref C) f=some none
structure Con(K:PySem.W.Frag)(C:Addr)(f:Str)(v:V)(u:Value):Prop where
 at_:PySem.W.findIn K (.ref C) f=some (some u)
 rel:RelV v u
 get:PySem.W.specialIn K u "__get__" = some none
 cp:PySem.W.copiedNames.contains f=false
structure Meth(K:PySem.W.Frag)(C:Addr)(m:Str)(f:Addr):Prop where
 at_:PySem.W.findIn K (.ref C) m=some (some (.ref f))
 fn:PySem.W.isFn K (.ref f)=true
 kp:PySem.W.keepIn K (.ref f)=true
section
variable {X:Cx}{pins:List (Addr×Obj)}{σ:St}{H:Hp}{s:Shared}{a C dx:Addr}{fs:List (Str×V)}{f:Str}{v:V}{A:Around}{E:Value->Shared->Prop}
theorem attr_of{prog:Program}{w:World}{env:Env}{e:Expr}{f:Str}{pos:Pos}{s:Shared}{Q:Value->Shared->Prop}(hb:attributeBase e f env (eval e env)=eval e env)
  (h:wpAny (model prog w) A (eval e env) (fun o s₁=>wpAny (model prog w) A (getAttr o f true) Q E s₁) E s):wpAny (model prog w) A (eval (.Attribute e f pos) env) Q E s :=
 Attribute_any_ h (by rw [arm_eval_Attribute,hb])
end
section
variable {X:Cx}{o e value:Expr}{f:Str}{pos pos' tpos:Pos}{ta tv:TE}
end
section
variable {X:Cx}{pins:List (Addr×Obj)}{σ:St}{H:Hp}{s:Shared}{A:Around}{E:Value->Shared->Prop}{Q:Value->Shared->Prop}{c:Value}{b:Bool}
inductive TyOf(K:PySem.W.Frag)(H:Hp):V->Value->Prop where
 | non:TyOf K H .non (.type "NoneType")
 | bl (x:Bool):TyOf K H (.bl x) (.type "bool")
 | int (i:Int):TyOf K H (.int i) (.type "int")
 | str (x:Str):TyOf K H (.str x) (.type "str")
 | flt (x:UInt64):TyOf K H (.flt x) (.type "float")
 | lst {a:Addr} {xs:List V} (e:H a=some (.lst xs)):TyOf K H (.ref a) (.type "list")
 | frz {a:Addr} {o:Obj} {xs:List V} (e:H a=some (.frz o (.lst xs))):TyOf K H (.ref a) (.type "list")
 | tup {a:Addr} {xs:List V} (e:H a=some (.tup xs)):TyOf K H (.ref a) (.type "tuple")
 | dK {a:Addr} {kvs:List (Key×V)} (e:H a=some (.dK kvs)):TyOf K H (.ref a) (.type "dict")
 | dT {a:Addr} {kvs:List (List Key×V)} (e:H a=some (.dT kvs)):TyOf K H (.ref a) (.type "dict")
 | ins {a C dx:Addr} {fs:List (Str×V)} (e:H a=some (.ins C dx fs)) (cl:Cls K C) (ha:PySem.W.findIn K (.ref C) "__class__" = some (some (.builtin "object.__class__")))
   (hn:PySem.W.specialIn K (.builtin "object.__class__") "__get__" = some (some (.builtin "getset_descriptor.__get__"))) (htk:PySem.W.takesIn K (.builtin "object.__class__")=some true)
   (hm:PySem.W.mroIn K C (.type "object")=some true):TyOf K H (.ref a) (.ref C)
end
structure Room(k:Nat)(A:Around):Prop where
 hd:A.handled=none
 dp:A.depth+3 * k+5<recursionLimit
 un:A.units+16 * k+200<cLine
 gd:A.guards=some []
theorem Room.mono{j k:Nat}{A:Around}(r:Room k A)(h:j<=k):Room j A:=⟨r.hd,by have:=r.dp;omega,by have:=r.un;omega,r.gd⟩
theorem Room.deeper{k:Nat}{A:Around}(r:Room (k+1) A)(env:Env):Room k (A.deeper env) :=
 ⟨r.hd,by have:=r.dp;show A.depth+1+3 * k+5<_;omega,by have:=r.un;show A.units+3+16 * k+200<_;omega,r.gd⟩
theorem make_depth{A:Around}{C:Addr}{us:List Value}{kw:List (Str×Value)}:(A.under (.builtin "type.__call__" ⟨.ref C::us,kw⟩)).depth=A.depth+1:=by
 first | rfl | simp [Around.under,Code.weight,Code.isCreation,Code.isGuard,Code.isCaller,Code.frames,Code.isFrame,guardIds]
theorem make_units{A:Around}{C:Addr}{us:List Value}{kw:List (Str×Value)}:(A.under (.builtin "type.__call__" ⟨.ref C::us,kw⟩)).units=A.units+1:=by
 first | rfl | simp [Around.under,Code.cUnits,Code.frames,Code.isFrame]
theorem Room.make{k:Nat}{A:Around}(r:Room (k+1) A)(C:Addr)(us:List Value)(kw:List (Str×Value)):Room k (A.under (.builtin "type.__call__" ⟨.ref C::us,kw⟩)) :=
 ⟨r.hd,by have:=r.dp;rw [make_depth];omega,by have:=r.un;rw [make_units];omega,by first | exact r.gd | (simp [Around.under,Code.isGuard,guardIds];exact r.gd)⟩
theorem Room.depth{k:Nat}{A:Around}(r:Room k A):A.depth<recursionLimit:=by have:=r.dp;omega
theorem Room.units{k:Nat}{A:Around}(r:Room k A):A.units+64<cLine:=by have:=r.un;omega
def tNil:TA:=fun _ H Q=>Q [] H
def tCons(ta:TE)(tr:TA):TA:=fun σ H Q=>ta σ H fun x H1=>tr σ H1 fun xs H2=>Q (x::xs) H2
section
variable {X:Cx}{e:Expr}{es:List Expr}{te:TE}{t:TA}{pos:Pos}
theorem pa_nil:PA X [] tNil:=fun _ _ _ _ H Q I h=>Calls.spliced_nil ⟨[],H,I,.nil,h⟩
theorem pa_cons(ha:PE X e te)(hr:PA X es t)(hs:starEach (e::es) X.env=(false,eval e X.env)::starEach es X.env:=by rfl):PA X (e::es) (tCons te t):=by
 intro pos pins s σ H Q I h
 rw [hs]
 show wpAny _ _ (spliced ((false,eval e X.env)::backTo pos (starEach es X.env))) _ _ s
 refine Calls.spliced_cons (thn (ha pins s σ H _ I h) fun u s1 ⟨x,H1,I1,r1,q1⟩=>?_)
 exact thn (hr pos pins s1 σ H1 _ I1 q1) fun us s2 ⟨xs,H2,I2,r2,q2⟩=>⟨x::xs,H2,I2,.cons r1 r2,q2⟩
def tTup(t:TA):TE:=fun σ H Q=>t σ H fun xs H1=>xs.length<=sizeLine/\∀ p,H1 p=none->Q (.ref p) (upd H1 p (.tup xs))
def tLst(t:TA):TE:=fun σ H Q=>t σ H fun xs H1=>xs.length<=sizeLine/\∀ p,H1 p=none->Q (.ref p) (upd H1 p (.lst xs))
theorem pe_tup{x1}(h:PA X es t):PE X (.Tuple es x1 pos) (tTup t):=by
 intro pins s σ H Q I hq
 refine wpAny_Tuple_spliced (thn (h pos pins s σ H _ I hq) fun us s1 ⟨xs,H1,I1,r,z,q⟩=>⟨by rw [<-r.length];exact z,?_⟩)
 have hf:H1 s1.heap.objs.size=none:=I1.hok.fresh (Nat.le_refl _)
 refine⟨.ref s1.heap.objs.size,upd H1 s1.heap.objs.size (.tup xs),I1.laid (t':=s1.toks) (fun b u e=>Heap.get?_push_of_some _ e) (Nat.le_refl _) ?_,rfl,q _ hf⟩
 exact⟨z,us,r,⟨_,Heap.get?_push_size _ rfl,rfl,⟨_,rfl⟩,rfl⟩⟩
theorem pe_lst(h:PA X es t):PE X (.List es pos) (tLst t):=by
 intro pins s σ H Q I hq
 refine wpAny_List_spliced (thn (h pos pins s σ H _ I hq) fun us s1 ⟨xs,H1,I1,r,z,q⟩=>⟨by rw [<-r.length];exact z,?_⟩)
 have hf:H1 s1.heap.objs.size=none:=I1.hok.fresh (Nat.le_refl _)
 refine⟨.ref s1.heap.objs.size,upd H1 s1.heap.objs.size (.lst xs),I1.laid (t':=s1.toks) (fun b u e=>Heap.get?_push_of_some _ e) (Nat.le_refl _) ?_,rfl,q _ hf⟩
 exact⟨z,us,0,r,Heap.get?_push_size _ rfl⟩
end
abbrev Sp:=List V->Hp->VK->XK->Prop
abbrev CXT:=List Env->Hp->Shared->XK->Value->Shared->Prop
structure Env0(P:Program)(w:World)(K:PySem.W.Frag)(mg:Str->Option Value)(base:Heap)(A:Around)(outer:List Env)(s:Shared)(H:Hp):Prop where
 frames:A.frames=some outer
 mod:Mod K mg base
 bs:∀ b o,base.get? b=some o->s.heap.get? b=some o/\H b=none
 bsz:base.objs.size<=s.heap.objs.size
 funs:s.heap.FunFrames base outer
 frf:∀ b∈frs outer,H b=none
 hok:HOk P w H s.heap
 bare:AllBare s.gens
def CE(outer:List Env)(P:Program)(w:World)(H:Hp)(s:Shared)(Q:VK)(u:Value)(s':Shared):Prop :=
 ∃ v H',s'.os=s.os/\AllBare s'.gens/\Un (frs outer) [] H H' s.heap s'.heap/\HOk P w H' s'.heap/\RelV v u/\Q v H'
def CR(CX:CXT)(outer:List Env)(P:Program)(w:World)(H:Hp)(s:Shared)(Q:VK)(E:XK)(r:Result)(s':Shared):Prop :=
 match r with
 | .ok (.ret u)=>CE outer P w H s Q u s'
 | .ok _=>False
 | .error e=>CX outer H s E e s'
structure FnOk(P:Program)(w:World)(K:PySem.W.Frag)(mg:Str->Option Value)(base:Heap)(CX:CXT)(k:Nat)(f:Addr)(fd:FuncData)(ps:List Str)(sp:Sp):Prop where
 len:∀ vs H Q E,sp vs H Q E->vs.length=ps.length
 run:∀(A:Around) (outer:List Env) (s:Shared) (H:Hp) (args:Args) (us:List Value) (vs:List V) (Q:VK) (E:XK),Room k A->Env0 P w K mg base A outer s H->BindsTo s fd args (ps.zip us)->Vals vs us->sp vs H Q E ->
  codeAny (model P w) A (.call (.ref f) args) (CR CX outer P w H s Q E) s
theorem FnOk.mono{P:Program}{w:World}{K:PySem.W.Frag}{mg:Str->Option Value}{base:Heap}{CX:CXT}{j k:Nat}{f:Addr}{fd:FuncData}{ps:List Str}{sp:Sp}(F:FnOk P w K mg base CX j f fd ps sp)(h:j<=k):
  FnOk P w K mg base CX k f fd ps sp:=⟨F.len,fun A outer s H args us vs Q E hr=>F.run A outer s H args us vs Q E (hr.mono h)⟩
theorem FnOk.imp{P:Program}{w:World}{K:PySem.W.Frag}{mg:Str->Option Value}{base:Heap}{CX:CXT}{k:Nat}{f:Addr}{fd:FuncData}{ps:List Str}{sp sp':Sp}(F:FnOk P w K mg base CX k f fd ps sp)
  (h:∀ vs H Q E,sp' vs H Q E->sp vs H Q E):FnOk P w K mg base CX k f fd ps sp' :=
 ⟨fun vs H Q E q=>F.len vs H Q E (h _ _ _ _ q),fun A outer s H args us vs Q E hr he hb hv hs=>F.run A outer s H args us vs Q E hr he hb hv (h _ _ _ _ hs)⟩
theorem Env0.make{P:Program}{w:World}{K:PySem.W.Frag}{mg:Str->Option Value}{base:Heap}{A:Around}{outer:List Env}{s:Shared}{H:Hp}(e:Env0 P w K mg base A outer s H)(C:Addr)(us:List Value)(kw:List (Str×Value)):
  Env0 P w K mg base (A.under (.builtin "type.__call__" ⟨.ref C::us,kw⟩)) outer s H:=⟨by first | exact e.frames | (simpa [Around.under,Code.envs,Code.isFrame,pushEnvs] using e.frames),e.mod,e.bs,e.bsz,e.funs,e.frf,e.hok,e.bare⟩
section
variable {X:Cx}{pins:List (Addr×Obj)}{σ:St}{H:Hp}{s s':Shared}
theorem Inv.env0(I:Inv X pins σ H s):Env0 X.prog X.w X.K X.mg X.base X.A X.stack s H :=
 ⟨I.ok.frames,I.ok.mod,I.bs,Nat.le_trans I.ok.bsz I.sz,I.stack,I.stkFree,I.hok,I.bare⟩
theorem Inv.after{Q:VK}{u:Value}(I:Inv X pins σ H s)(h:CE X.stack X.prog X.w H s Q u s'):EP X pins σ Q u s':=by
 obtain⟨v,H',os,bare,un,hok,r,q⟩:=h
 obtain⟨hh,g,d,t,os'⟩:=s'
 obtain rfl:os'=s.os:=os
 exact⟨v,H',I.call (h':=hh) (g':=g) (d':=d) (t':=t) (ch:=[]) un hok bare (fun b z=>absurd z (by simp)),r,q⟩
end
def tCall(sp:Sp)(dvs:List V)(E:XK)(t:TA):TE:=fun σ H Q=>t σ H fun vs H1=>sp (vs++dvs) H1 Q E
def Binds(K:PySem.W.Frag)(fd:FuncData)(ps:List Str)(ds:List Value):Prop :=
 ∀(s:Shared) (us:List Value),K.In s.heap->(us++ds).length=ps.length->BindsTo s fd ⟨us,[]⟩ (ps.zip (us++ds))
theorem Binds.all{K:PySem.W.Frag}{fd:FuncData}{ps:List Str}(h:∀ us:List Value,us.length=ps.length->bindArgs fd ⟨us,[]⟩=pure (ps.zip us)):Binds K fd ps []:=fun s us _ hl=>by
 rw [List.append_nil] at hl ⊢
 exact .of_eq (h us hl)
def Passes(CX:CXT)(X:Cx)(E:XK):Prop:=∀(pins:List (Addr×Obj)) (σ:St) (H:Hp) (s:Shared) (e:Value) (s':Shared),Inv X pins σ H s->CX X.stack H s E e s'->X.xe e s'
section
variable {X:Cx}{CX:CXT}{k:Nat}{f C:Addr}{fd:FuncData}{ps:List Str}{sp:Sp}{dvs:List V}{ds:List Value}{E:XK}{x m:Str}{p pos apos:Pos}{e o:Expr}{es:List Expr}{ta:TE}{t:TA}
theorem run_fn{pins:List (Addr×Obj)}{σ:St}{H:Hp}{s:Shared}{Q:VK}{us:List Value}{vs:List V}(F:FnOk X.prog X.w X.K X.mg X.base CX k f fd ps sp)(hr:Room k X.A)(hb:Binds X.K fd ps ds)(hd:Vals dvs ds)(hx:Passes CX X E)
  (I:Inv X pins σ H s) (r:Vals vs us) (h:sp (vs++dvs) H Q E):wpAny (model X.prog X.w) X.A (call (.ref f) us) (EP X pins σ Q) X.xe s:=by
 have r2:Vals (vs++dvs) (us++ds):=r.append hd
 have hl:(us++ds).length=ps.length:=by rw [<-r2.length];exact F.len _ _ _ _ h
 refine wpAny_call (codeAny_mono (F.run X.A X.stack s H ⟨us,[]⟩ (us++ds) (vs++dvs) Q E hr I.env0 (hb s us I.kIn hl) r2 h) fun r s' hq=>?_)
 cases r with
 | error e=>exact hx pins σ H s e s' I hq
 | ok fl =>
  cases fl with
  | ret u=>exact I.after hq
  | next=>exact False.elim hq
  | brk=>exact False.elim hq
  | cont=>exact False.elim hq
theorem pe_call(F:FnOk X.prog X.w X.K X.mg X.base CX k f fd ps sp)(hr:Room k X.A)(hg:Gl X x)(hm:X.mg x=some (.ref f))(hk:PySem.W.keepIn X.K (.ref f)=true)(hb:Binds X.K fd ps ds)(hd:Vals dvs ds)(hx:Passes CX X E)
  (ha:PA X (e::es) t) (hdb:(x == ("__debug__" : Str))=false:=by decide) (he:starEach (e::es) X.env=(false,eval e X.env)::starEach es X.env:=by rfl) (hpl:(backTo pos (starEach es X.env)).any (·.1)=false:=by rfl) :
  PE X (.Call (.Name x p) (e::es) [] pos) (tCall sp dvs E t):=by
 intro pins s σ H Q I h
 refine wpAny_Call_Name_kw (ld_glob I hg hm ?_ hdb)
 refine PySem.W.callWith_K (h₀:=X.base) I.ok.mod.kin hk (thn (ha pos pins s σ H _ I h) fun us s1 ⟨vs,H1,I1,r,q⟩=>⟨I1.kIn,?_⟩) he hpl
 exact run_fn F hr hb hd hx I1 r q
structure Mk(K:PySem.W.Frag)(C f:Addr):Prop where
 makes:PySem.W.makesIn K C=true
 init:PySem.W.findIn K (.ref C) "__init__" = some (some (.ref f))
 fn:PySem.W.isFn K (.ref f)=true
 kp:PySem.W.keepIn K (.ref C)=true
end
section
variable {X:Cx}{CX:CXT}{k:Nat}{f C:Addr}{fd:FuncData}{ps ks:List Str}{sp:Sp}{E:XK}{x m:Str}{p pos apos kpos:Pos}{e o:Expr}{es:List Expr}{kws:List Keyword}{te ta:TE}{t tk:TA}{nm:Option Str}
structure KBinds(K:PySem.W.Frag)(fd:FuncData)(ps ks:List Str)(g:List Value->List Value->List Value)(gV:List V->List V->List V):Prop where
 to:∀(s:Shared) (us ws:List Value),K.In s.heap->(g us ws).length=ps.length->BindsTo s fd ⟨us,ks.zip ws⟩ (ps.zip (g us ws))
 rel:∀{vs:List V} {us:List Value} {zs:List V} {ws:List Value},Vals vs us->Vals zs ws->Vals (gV vs zs) (g us ws)
variable {g:List Value->List Value->List Value}{gV:List V->List V->List V}
end
structure FnScope(N P:List Str)(sc:Scope):Prop where
 kind:sc.kind=.function
 co:sc.isCoroutine=false
 gen:sc.isGenerator=false
 nd:N.Nodup
 pre:N.take P.length=P
 par:∀ x∈P,sc.names.lookup x=some .local\/sc.names.lookup x=some .cell
 nofree:∀ y∈sc.names,y.2 ≠ .free
theorem bindL_out{kindOf:Str->Option NameKind}{x:Str}:∀{binds:List (Str×Value)} {m:Str->Option Value},(∀ v,(x,v)∉binds)->bindL kindOf binds m x=m x
 | [],_,_=>rfl
 | (n,v)::r,m,h=>by
  unfold bindL
  rw [bindL_out fun w hw=>h w (List.mem_cons_of_mem _ hw)]
  split
  ·have:x≠n:=by rintro rfl;exact h v List.mem_cons_self
   simp [this]
  ·rfl
theorem bindC_out{kindOf:Str->Option NameKind}{x:Str}:∀{binds:List (Str×Value)} {m:Str->Option Value},(∀ v,(x,v)∉binds)->bindC kindOf binds m x=m x
 | [],_,_=>rfl
 | (n,v)::r,m,h=>by
  unfold bindC
  rw [bindC_out fun w hw=>h w (List.mem_cons_of_mem _ hw)]
  split
  ·rfl
  ·have:x≠n:=by rintro rfl;exact h v List.mem_cons_self
   simp [this]
theorem bindL_get{kindOf:Str->Option NameKind}{x:Str}{v:Value}:∀{P:List Str} {vs:List Value} {i:Nat} {m:Str->Option Value},P.Nodup->P[i]?=some x->vs[i]?=some v->kindOf x=some .local ->
  bindL kindOf (P.zip vs) m x=some v
 | [],_,_,_,_,h,_,_=>by simp at h
 | _::_,[],_,_,_,_,h,_=>by simp at h
 | p::P,w::vs,0,m,nd,h1,h2,hk=>by
  simp at h1 h2;subst h1;subst h2
  show bindL kindOf ((p,w)::P.zip vs) m p=_
  unfold bindL
  rw [bindL_out fun v hv=>(List.nodup_cons.mp nd).1 (List.of_mem_zip hv).1,if_pos hk]
  simp
 | p::P,w::vs,i+1,m,nd,h1,h2,hk=>by
  show bindL kindOf ((p,w)::P.zip vs) m x=_
  unfold bindL
  exact bindL_get (i:=i) (List.nodup_cons.mp nd).2 (by simpa using h1) (by simpa using h2) hk
theorem bindC_get{kindOf:Str->Option NameKind}{x:Str}{v:Value}:∀{P:List Str} {vs:List Value} {i:Nat} {m:Str->Option Value},P.Nodup->P[i]?=some x->vs[i]?=some v->kindOf x≠some .local ->
  bindC kindOf (P.zip vs) m x=some v
 | [],_,_,_,_,h,_,_=>by simp at h
 | _::_,[],_,_,_,_,h,_=>by simp at h
 | p::P,w::vs,0,m,nd,h1,h2,hk=>by
  simp at h1 h2;subst h1;subst h2
  show bindC kindOf ((p,w)::P.zip vs) m p=_
  unfold bindC
  rw [bindC_out fun v hv=>(List.nodup_cons.mp nd).1 (List.of_mem_zip hv).1,if_neg hk]
  simp
 | p::P,w::vs,i+1,m,nd,h1,h2,hk=>by
  show bindC kindOf ((p,w)::P.zip vs) m x=_
  unfold bindC
  exact bindC_get (i:=i) (List.nodup_cons.mp nd).2 (by simpa using h1) (by simpa using h2) hk
def start(N:List Str)(vs:List V):St:=vs.map some++List.replicate (N.length-vs.length) none
def cxOf(CX:CXT)(P:Program)(w:World)(K:PySem.W.Frag)(mg:Str->Option Value)(base:Heap)(N:List Str)(qual:Str)(scope:Scope)(f:Addr)(cd:Value)(A:Around)(outer:List Env)(s:Shared)(H:Hp)(E:XK):Cx where
 prog:=P
 w:=w
 K:=K
 mg:=mg
 base:=base
 A:=A.deeper (envOfC qual scope s.heap.objs.size f cd)
 N:=N
 s₀:=s
 H₀:=H
 env:=envOfC qual scope s.heap.objs.size f cd
 outer:=outer
 stack:=envOfC qual scope s.heap.objs.size f cd::outer
 ex:=[]
 calm:=true
 fn:=fun _=>true
 pn:=[]
 xe:=fun e s'=>wpAny (model P w) (A.deeper (envOfC qual scope s.heap.objs.size f cd)) (leaving (envOfC qual scope s.heap.objs.size f cd) e) (fun _ s''=>CX outer H s E e s'') (fun e' s''=>CX outer H s E e' s'') s'
theorem cell_has{sc:Scope}{n:Nat}{x:Str}(h:sc.names.lookup x=some .cell):∃ c,(cellsFrom n sc.names []).lookup x=some c:=by
 have q:=PySem.W.cellsFrom_some sc.names n [] (.inl h)
 exact Option.isSome_iff_exists.mp q
theorem inv_start{CX:CXT}{P:Program}{w:World}{K:PySem.W.Frag}{mg:Str->Option Value}{base:Heap}{N ps:List Str}{qual:Str}{scope:Scope}{f:Addr}{cd:Value}{A:Around}{outer:List Env}{s s1:Shared}{H:Hp}{E:XK}{us:List Value}{vs:List V}
  (S:FnScope N ps scope) (hd:A.handled=none) (e0:Env0 P w K mg base A outer s H) (hl:vs.length=ps.length) (r:Vals vs us)
  (x:InCallC s s.heap.objs.size (bindL (envOfC qual scope s.heap.objs.size f cd).kindOf (ps.zip us) fun _=>none) (cellsFrom (s.heap.objs.size+1) scope.names []) (bindC (envOfC qual scope s.heap.objs.size f cd).kindOf (ps.zip us) fun _=>none) s1) :
  Inv (cxOf CX P w K mg base N qual scope f cd A outer s H E) [] (start N vs) H s1:=by
 have hpl:ps.length<=N.length:=by have:=congrArg List.length S.pre;rw [List.length_take] at this;omega
 obtain⟨h1,tk,rfl,hk⟩:=x.done
 have noA:∀ b:Addr,b∉(cxOf CX P w K mg base N qual scope f cd A outer s H E).ex:=fun b z=>absurd (show b∈([]:List Addr) from z) (by simp)
 refine⟨⟨e0.mod,S.kind,rfl,rfl,Nat.le_refl _,fun y z c h1 h2=>?_,fun y hy=>?_,fun y c _ h=>?_,fun _=>hd,Around.frames_deeper e0.frames,.inr ⟨rfl,rfl⟩,fun b z=>absurd z (noA b),e0.bs,e0.bsz,fun b _ _=>noA b,fun b z=>absurd z (noA b),e0.funs,e0.frf⟩,
  rfl,e0.bare,Un.kept hk,⟨_,x.toInCall.ns,fun i y v h1 h2 h3=>?_⟩,fun y c h=>⟨_,x.cell y c h⟩,e0.hok.fresh (Nat.le_refl _),fun y c h=>?_,fun p hp=>absurd (show p∈([]:List (Addr×Obj)) from hp) (by simp),e0.hok.kept hk,?_⟩
 ·exact name_of_addr x.apart (PySem.mem_of_lookup h1) (PySem.mem_of_lookup h2)
 ·have hy:scope.names.lookup y=some .cell\/scope.names.lookup y=some .free:=hy
  rcases hy with hy | hy
  ·exact cell_has hy
  ·exact absurd rfl (S.nofree _ (PySem.mem_of_lookup hy))
 ·exact Nat.le_of_lt (x.above y c (PySem.mem_of_lookup h))
 ·have hi:i<vs.length:=by
   unfold start at h2
   by_cases hi:i<vs.length
   ·exact hi
   ·rw [List.getElem?_append_right (by simpa using hi)] at h2
    rw [List.getElem?_replicate] at h2
    split at h2 <;> cases h2
  have ha:vs[i]?=some v:=by
   unfold start at h2
   rw [List.getElem?_append_left (by simpa using hi),List.getElem?_map] at h2
   cases e:vs[i]? with
   | none=>rw [e] at h2;cases h2
   | some a=>rw [e] at h2;cases h2;rfl
  obtain⟨u,hu,rv⟩:=r.get ha
  have hp:ps[i]?=some y:=by
   rw [<-S.pre,List.getElem?_take_of_lt (by omega)];exact h1
  have ndP:ps.Nodup:=by rw [<-S.pre];exact S.nd.sublist (List.take_sublist _ _)
  refine⟨u,rv,?_⟩
  rcases S.par y (List.mem_of_getElem? hp) with k | k
  ·exact .inl ⟨k,bindL_get ndP hp hu k⟩
  ·obtain⟨c,e⟩:=cell_has (n:=s.heap.objs.size+1) k
   refine .inr ⟨.inl k,c,e,?_⟩
   have q:=x.cell y c e
   rw [bindC_get ndP hp hu (by show scope.names.lookup y≠_;rw [k];decide)] at q
   exact q
 ·exact e0.hok.fresh (Nat.le_of_lt (x.above y c (PySem.mem_of_lookup h)))
 ·unfold start
  show _=N.length
  rw [List.length_append,List.length_map,List.length_replicate]
  omega
theorem fn_of{CX:CXT}{P:Program}{w:World}{K:PySem.W.Frag}{mg:Str->Option Value}{base:Heap}{k:Nat}{f:Addr}{name qual:Str}{params:Arguments}{body:List Stmt}{scope:Scope}{dV kV doc pm cdv ct oc:Value}{an od:Option Addr}
  {osl:Array (Option Value)} {N ps:List Str} {sp:Sp} (lk:K.lookup f=some ⟨oc,od,.func (PySem.W.fnOf name qual params body scope dV kV doc pm an cdv ct),osl⟩) (hcd:PySem.W.codeIn K cdv qual=true) (S:FnScope N ps scope)
  (len:∀ vs H Q E,sp vs H Q E->vs.length=ps.length)
  (hbody:∀(A:Around) (outer:List Env) (s:Shared) (H:Hp) (vs:List V) (Q:VK) (E:XK),Room k (A.deeper (envOfC qual scope s.heap.objs.size f cdv))->sp vs H Q E ->
   ∃ t,PSs (cxOf CX P w K mg base N qual scope f cdv A outer s H E) body t/\t { nx:=fun _ H'=>Q .non H',rt:=Q } (start N vs) H) :
  FnOk P w K mg base CX (k+1) f (PySem.W.fnOf name qual params body scope dV kV doc pm an cdv ct) ps sp:=by
 refine⟨len,fun A outer s H args us vs Q E hr e0 hb r hsp=>?_⟩
 have hl:=len _ _ _ _ hsp
 have KX:K.In s.heap:=e0.mod.kin.keeps fun b o e=>(e0.bs b o e).1
 have lim:s.heap.NoLimit:=e0.mod.nolimit.keeps fun b o e=>(e0.bs b o e).1
 have hkind:∀ y∈ps.zip us,scope.names.lookup y.1=some .local\/(scope.names.lookup y.1=some .cell/\((cellsFrom (s.heap.objs.size+1) scope.names []).lookup y.1).isSome=true):=fun⟨n,v⟩ hy=>by
  rcases S.par n (List.of_mem_zip hy).1 with q | q
  ·exact .inl q
  ·exact .inr ⟨q,PySem.W.cellsFrom_some _ _ _ (.inl q)⟩
 refine codeAny_call_function hr.depth (KX _ _ lk) rfl S.co S.gen rfl (PySem.W.codeRec_of KX hcd) (hb _ _ _ _ ?_)
 refine wpAny_newFunctionEnv_cells S.kind hkind fun env he s1 x=>?_
 subst he
 refine⟨lim.keeps x.toInCall.keep,codeAny_func ?_⟩
 obtain⟨t,ht,hq⟩:=hbody A outer s H vs Q E (hr.deeper _) hsp
 have I:Inv (cxOf CX P w K mg base N qual scope f cdv A outer s H E) [] (start N vs) H s1:=inv_start S hr.hd e0 hl r x
 refine wpAny_mono (ht [] s1 (start N vs) H _ I hq) (fun fl s' hs=>?_) fun e s' hs=>hs
 have fin:∀{σ':St} {H':Hp} {v:V} {u:Value},Inv (cxOf CX P w K mg base N qual scope f cdv A outer s H E) [] σ' H' s'->RelV v u->Q v H'->CE outer P w H s Q u s' :=
  fun{σ' H' v u} J rv q=>⟨v,H',J.os,J.bare,J.base,J.hok,rv,q⟩
 cases fl with
 | ret u =>
  obtain⟨v,σ',H',J,rv,q⟩:=hs
  exact fin J rv q
 | next =>
  obtain⟨σ',H',J,q⟩:=hs
  exact fin (v:=V.non) (u:=Value.none) J rfl q
 | brk =>
  obtain⟨_,_,_,q⟩:=hs
  exact False.elim q
 | cont =>
  obtain⟨_,_,_,q⟩:=hs
  exact False.elim q
section
variable {X:Cx}{x:Str}{p pos:Pos}{e:Expr}{es:List Expr}{t:TA}{id T:String}{r:List V->Hp->VK->Prop}
def tCB(r:List V->Hp->VK->Prop)(t:TA):TE:=fun σ H Q=>t σ H fun vs H1=>r vs H1 Q
theorem pe_callB(hc:CallR X (.builtin id) r)(hg:Gl X x)(hm:X.mg x=none)(hv:bootBuiltins x=some (.builtin id))(ha:PA X (e::es) t)(hn:x ≠ "__name__" := by decide)(hdb:(x == ("__debug__" : Str))=false:=by decide)
  (he:starEach (e::es) X.env=(false,eval e X.env)::starEach es X.env:=by rfl) (hpl:(backTo pos (starEach es X.env)).any (·.1)=false:=by rfl):PE X (.Call (.Name x p) (e::es) [] pos) (tCB r t):=by
 intro pins s σ H Q I h
 refine wpAny_Call_Name_kw (ld_blt I hg hm hv ?_ hn hdb)
 exact PyProof.Rows.callWith_builtin1 (thn (ha pos pins s σ H _ I h) fun us s1 ⟨vs,H1,I1,r1,q1⟩=>hc pins s1 σ H1 vs us Q I1 r1 q1) he hpl
theorem pe_callTy(hc:CallR X (.type T) r)(hg:Gl X x)(hm:X.mg x=none)(hv:bootBuiltins x=some (.type T))(ha:PA X (e::es) t)(hn:x ≠ "__name__" := by decide)(hdb:(x == ("__debug__" : Str))=false:=by decide)
  (he:starEach (e::es) X.env=(false,eval e X.env)::starEach es X.env:=by rfl) (hpl:(backTo pos (starEach es X.env)).any (·.1)=false:=by rfl):PE X (.Call (.Name x p) (e::es) [] pos) (tCB r t):=by
 intro pins s σ H Q I h
 refine wpAny_Call_Name_kw (ld_blt I hg hm hv ?_ hn hdb)
 exact PyProof.Rows.callWith_type1 (thn (ha pos pins s σ H _ I h) fun us s1 ⟨vs,H1,I1,r1,q1⟩=>hc pins s1 σ H1 vs us Q I1 r1 q1) he hpl
end
end L2
namespace HT
open PySem PyProof.Rows
section
open PySem.SeqAt
open PySem.AutoSeq1 (wpAny_loadPart')
open PySem.MeetsSeq PySem.MeetsSeq2 PySem.MeetsSeq3
end
section
variable {prog:Program}{w:World}{A:Around}{E:Value->Shared->Prop}{s:Shared}
theorem cat_tup{t b:Addr}{vs ws:List Value}{Q:Value->Shared->Prop}(ht:IsTup s.heap t vs.toArray)(hb:IsTup s.heap b ws.toArray)(hv:vs ≠ [])
  (h1:ws = []->Q (.ref t) s) (h2:ws ≠ []->Q (.ref s.heap.objs.size) { s with heap:=s.heap.push { cls:=.type "tuple",data:=.seq (vs++ws).toArray } })
  (hsz:vs.length+ws.length<=sizeLine):wpAny (model prog w) A (binaryOp .Add (.ref t) (.ref b)) Q E s:=by
 obtain⟨⟨cls,dd,data,sl⟩,ho,hc,n,hd⟩:=id ht
 obtain⟨⟨cls2,dd2,data2,sl2⟩,ho2,hc2,n2,hd2⟩:=id hb
 simp only at hc hd hc2 hd2
 subst hc hd hc2 hd2
 have e:vs.toArray++ws.toArray=(vs++ws).toArray:=by simp
 by_cases hw:ws = []
 ·exact concat_meets ⟨_,ho,rfl⟩ ⟨_,ho2,rfl⟩ noFill_tuple_add seq_tuple_add PySem.F.slot_tuple_add PySem.F.entry_tuple_add (PySem.F.args_tuple_add_2 _ _)
   (tuple_addW1 t b vs.toArray ws.toArray n n2 dd dd2 sl sl2 (by simpa using hv) (by simp [hw])) ⟨ho,ho2,h1 hw⟩
 ·refine concat_meets ⟨_,ho,rfl⟩ ⟨_,ho2,rfl⟩ noFill_tuple_add seq_tuple_add PySem.F.slot_tuple_add PySem.F.entry_tuple_add (PySem.F.args_tuple_add_2 _ _)
   (tuple_addW2 t b vs.toArray ws.toArray n n2 dd dd2 sl sl2 (by simpa using hv) (by simpa using hw) (by rw [List.size_toArray,List.size_toArray];exact hsz)) ⟨ho,ho2,?_⟩
  rw [e]
  exact h2 hw
def sIx(n d:Nat):Option Int->Nat
 | none=>d
 | some v=>if v<0 then (v+(n:Int)).toNat else min v.toNat n
theorem sIx_none(n d:Nat):sIx n d none=d:=rfl
theorem sIx_nat(n d k:Nat):sIx n d (some (k:Int))=min k n:=by
 show(if (k:Int)<0 then ((k:Int)+(n:Int)).toNat else min (k:Int).toNat n)=min k n
 rw [if_neg (by omega),Int.toNat_natCast]
theorem sIx_le(n d:Nat)(hd:d<=n)(o:Option Int):sIx n d o<=n:=by
 cases o with
 | none=>exact hd
 | some v =>
  show(if v<0 then (v+(n:Int)).toNat else min v.toNat n)<=n
  by_cases hv:v<0
  ·rw [if_pos hv];omega
  ·rw [if_neg hv];exact Nat.min_le_right _ _
theorem clip_eq(v:Int)(n d:Nat):(if v<0 then max (v+(n:Int)) 0 else min v (n:Int))=((sIx n d (some v):Nat):Int):=by
 show(if v<0 then max (v+(n:Int)) 0 else min v (n:Int))=(((if v<0 then (v+(n:Int)).toNat else min v.toNat n):Nat):Int)
 by_cases hv:v<0
 ·simp only [if_pos hv];omega
 ·simp only [if_neg hv];omega
theorem adjust_gen(lo hi:Option Int)(n:Nat):Builtin.Slice.sliceAdjust lo hi 1 (n:Int)=(((sIx n 0 lo:Nat):Int),((sIx n n hi:Nat):Int)):=by
 have h1:¬ ((1:Int)<0):=by omega
 unfold Builtin.Slice.sliceAdjust
 simp only [h1,if_false]
 refine Prod.ext ?_ ?_
 ·cases lo with
  | none=>rfl
  | some v=>exact clip_eq v n 0
 ·cases hi with
  | none=>rfl
  | some v=>exact clip_eq v n n
theorem places_gen(i j:Nat):Builtin.Slice.slicePlaces (i:Int) (j:Int) 1=j-i:=by
 unfold Builtin.Slice.slicePlaces
 have h1:(1:Int) > 0:=by omega
 simp only [h1,if_true,Int.ediv_one]
 split <;> omega
theorem slicePart_{v:Value}{o:Option Int}{Q:Option Int->Shared->Prop}(p:IsPart v o)(h:Q o s):wpAny (model prog w) A (Builtin.Slice.slicePartIndex v) Q E s:=by
 cases p with
 | none=>exact slicePart_none h
 | int i t=>exact slicePart_int h
theorem sliceApplied_gen{sl:Addr}{vl vu:Value}{lo hi:Option Int}{n:Nat}{Q:Int×Int×Nat->Shared->Prop}(hs:s.heap.IsSliceOf sl vl vu .none)(pl:IsPart vl lo)(pu:IsPart vu hi)
  (h:Q (((sIx n 0 lo:Nat):Int),1,sIx n n hi-sIx n 0 lo) s):wpAny (model prog w) A (Builtin.Slice.sliceApplied (.ref sl) (pure (n:Int))) Q E s:=by
 obtain⟨os,hos,hcs,hds⟩:=id hs
 unfold Builtin.Slice.sliceApplied Builtin.Slice.sliceFields
 refine wpAny_bind (wpAny_bind (wpAny_field hos hds (x:=vl) rfl (wpAny_bind (wpAny_field hos hds (x:=vu) rfl (wpAny_bind (wpAny_field hos hds (x:=.none) rfl (wpAny_pure ?_)))))))
 refine wpAny_bind (slicePart_none ?_)
 show wpAny _ _ (if ((1:Int) == 0)=true then _ else _) _ _ s
 rw [if_neg (by decide)]
 refine wpAny_bind (slicePart_ pl (wpAny_bind (slicePart_ pu (wpAny_bind (wpAny_pure ?_)))))
 show wpAny _ _ (match Builtin.Slice.sliceAdjust lo hi 1 (n:Int) with | (lo,hi)=>pure (lo,(1:Int),Builtin.Slice.slicePlaces lo hi 1)) _ _ s
 rw [adjust_gen lo hi n]
 show wpAny _ _ (pure (((sIx n 0 lo:Nat):Int),(1:Int),Builtin.Slice.slicePlaces ((sIx n 0 lo:Nat):Int) ((sIx n n hi:Nat):Int) 1)) _ _ s
 rw [places_gen]
 exact wpAny_pure h
theorem pick_gen(xs:Array Value)(i k:Nat):((List.range k).filterMap fun(m:Nat)=>xs[((i:Int)+(m:Int) * 1).toNat]?).toArray=((xs.toList.drop i).take k).toArray:=by
 have e:(fun(m:Nat)=>xs[((i:Int)+(m:Int) * 1).toNat]?)=fun m=>xs[i+m]?:=by
  funext m
  have:((i:Int)+(m:Int) * 1).toNat=i+m:=by omega
  rw [this]
 rw [e]
 have:=pick_run xs i k
 rw [List.filterMap_map] at this
 have e2:((fun x=>xs[x]?) ∘ fun x=>i+x)=fun m=>xs[i+m]?:=rfl
 rw [e2] at this
 rw [this]
theorem getItem_tuple_cut{t sl:Addr}{items:Array Value}{vl vu:Value}{lo hi:Option Int}{Q:Value->Shared->Prop}(ht:IsTup s.heap t items)(hs:s.heap.IsSliceOf sl vl vu .none)(pl:IsPart vl lo)(pu:IsPart vu hi)
  (hw:¬ (sIx items.size 0 lo=0/\sIx items.size items.size hi=items.size))
  (h:Q (.ref s.heap.objs.size) { s with heap:=s.heap.push { cls:=.type "tuple",data:=.seq ((items.toList.drop (sIx items.size 0 lo)).take (sIx items.size items.size hi-sIx items.size 0 lo)).toArray } })
  (hsz:items.size<=sizeLine):wpAny (model prog w) A (getItem (.ref t) (.ref sl)) Q E s:=by
 have htake:sizeOk (.seq ((items.toList.drop (sIx items.size 0 lo)).take (sIx items.size items.size hi-sIx items.size 0 lo)).toArray):=by
  show((items.toList.drop (sIx items.size 0 lo)).take (sIx items.size items.size hi-sIx items.size 0 lo)).toArray.size<=sizeLine
  rw [List.size_toArray,List.length_take,List.length_drop,Array.length_toList]
  omega
 have hj:sIx items.size items.size hi<=items.size:=sIx_le _ _ (Nat.le_refl _) hi
 obtain⟨os,hos,hcs,hds⟩:=id hs
 have hTs:s.TypeIs (.ref sl) "slice" :=⟨os,hos,hcs⟩
 unfold getItem
 try with_reducible refine wpAny_holding ?_
 first | refine wpAny_bind (wpAny_pure ?_) | skip
 refine wpAny_bind (wpAny_sequenceKey ht.typeIs (by decide) ?_)
 refine wpAny_bind (wpAny_callSpecial?_slot (name:=Str.ofString "__getitem__") ht.typeIs PyProof.Rows.slot_tuple_getitem
  (wpAny_call_entry PyProof.Rows.slot_tuple_getitem ht.typeIs entry_tuple_getitem ?_ (args_tuple_getitem _ _)))
 show wpAny _ _ (Builtin.Tuple.tupleItemsOf (.ref t) >>= _) _ _ s
 refine wpAny_bind (tupleItemsOf_ ht ?_)
 refine wpAny_bind (wpAny_typeOf hTs ?_)
 rw [if_pos (by decide)]
 refine wpAny_bind (sliceApplied_gen hs pl pu ?_)
 have hno:¬ ((((sIx items.size 0 lo:Nat):Int) == 0 && (1:Int) == 1 && (sIx items.size items.size hi-sIx items.size 0 lo) == items.size)=true):=by
  intro q
  rw [Bool.and_eq_true,Bool.and_eq_true] at q
  have q1:((sIx items.size 0 lo:Nat):Int)=0:=eq_of_beq q.1.1
  have q2:sIx items.size items.size hi-sIx items.size 0 lo=items.size:=eq_of_beq q.2
  exact hw ⟨by omega,by omega⟩
 show wpAny _ _ (if (((sIx items.size 0 lo:Nat):Int) == 0 && (1:Int) == 1 && (sIx items.size items.size hi-sIx items.size 0 lo) == items.size)=true then _ else _) _ _ s
 rw [if_neg hno,pick_gen]
 first
  | exact wpAny_bind (m:=Builtin.Tuple.tupleExact _) (wpAny_newObj_type (wpAny_pure ⟨_,rfl,wpAny_pure h⟩) htake)
  | exact wpAny_bind (m:=Builtin.Tuple.tupleExact _) (wpAny_newObj_type (wpAny_bind (wpAny_pure (wpAny_pure ⟨_,rfl,wpAny_pure h⟩))) htake)
  | exact wpAny_bind (wpAny_bind (m:=Builtin.Tuple.tupleExact _) (wpAny_newObj_type (wpAny_pure (wpAny_pure ⟨_,rfl,wpAny_pure h⟩)) htake))
  | exact wpAny_bind (wpAny_bind (m:=Builtin.Tuple.tupleExact _) (wpAny_newObj_type (wpAny_pure ⟨_,rfl,wpAny_pure h⟩) htake))
end
end HT
namespace L2
open PySem PySem.Spec PyProof.Rows
abbrev TO:=St->Hp->(Option Int->Hp->Prop)->Prop
def PO(X:Cx)(e:Option Expr)(t:TO):Prop :=
 ∀(pins:List (Addr×Obj)) (s:Shared) (σ:St) (H:Hp) (Q:Option Int->Hp->Prop),Inv X pins σ H s->t σ H Q ->
  wpAny (model X.prog X.w) X.A (evalPart e X.env) (fun u s'=>∃ o H',Inv X pins σ H' s'/\IsPart u o/\Q o H') X.xe s
def tNoPart:TO:=fun _ H Q=>Q none H
def tPart(t:TE):TO:=fun σ H Q=>t σ H fun x H1=>∃ i,x=.int i/\Q (some i) H1
section
variable {X:Cx}{e:Expr}{te:TE}{lo hi:Option Expr}{tl th:TO}{pos p2:Pos}
theorem po_none:PO X none tNoPart:=by
 intro pins s σ H Q I h
 rw [evalPart_none]
 exact wpAny_pure ⟨none,H,I,.none,h⟩
theorem po_some(h:PE X e te):PO X (some e) (tPart te):=by
 intro pins s σ H Q I hw
 rw [evalPart_some]
 refine thn (h pins s σ H _ I hw) fun u s1 ⟨x,H1,I1,r1,q1⟩=>?_
 obtain⟨i,rfl,q⟩:=q1
 obtain⟨t,rfl⟩:=r1
 exact⟨some i,H1,I1,.int i t,q⟩
def SlR(X:Cx)(r:V->Option Int->Option Int->Hp->VK->Prop):Prop :=
 ∀(pins:List (Addr×Obj)) (s:Shared) (σ:St) (H:Hp) (x:V) (v vl vu:Value) (lo hi:Option Int) (sl:Addr) (Q:VK),Inv X pins σ H s->RelV x v->s.heap.IsSliceOf sl vl vu .none->IsPart vl lo->IsPart vu hi->r x lo hi H Q ->
  ∃ T id,typeLookup (.type T) "__getitem__" = pure (some (.builtin id))/\s.TypeIs v T/\wpAny (model X.prog X.w) X.A (getItem v (.ref sl)) (EP X pins σ Q) X.xe s
theorem SlR.or{r r':V->Option Int->Option Int->Hp->VK->Prop}(h:SlR X r)(h':SlR X r'):SlR X (fun x lo hi H Q=>r x lo hi H Q\/r' x lo hi H Q):=by
 intro pins s σ H x v vl vu lo hi sl Q I rx hs pl pu q
 rcases q with q | q
 ·exact h pins s σ H x v vl vu lo hi sl Q I rx hs pl pu q
 ·exact h' pins s σ H x v vl vu lo hi sl Q I rx hs pl pu q
def tSl(r:V->Option Int->Option Int->Hp->VK->Prop)(te:TE)(tl th:TO):TE:=fun σ H Q=>te σ H fun x H1=>tl σ H1 fun l H2=>th σ H2 fun u H3=>r x l u H3 Q
theorem pe_slice{r:V->Option Int->Option Int->Hp->VK->Prop}(hr:SlR X r)(he:PE X e te)(hl:PO X lo tl)(hu:PO X hi th):PE X (.Subscript e (.Slice lo hi none p2) pos) (tSl r te tl th):=by
 intro pins s σ H Q I h
 refine Subscript_ (thn (he pins s σ H _ I h) fun v s1 ⟨x,H1,I1,r1,q1⟩=>?_)
 refine wpAny_Slice (thn (hl pins s1 σ H1 _ I1 q1) fun vl s2 ⟨l,H2,I2,pl,q2⟩=>thn (hu pins s2 σ H2 _ I2 q2) fun vu s3 ⟨u,H3,I3,pu,q3⟩=>?_)
 rw [evalPart_none]
 refine wpAny_pure ?_
 have I4:Inv X pins σ H3 { s3 with heap:=s3.heap.push { cls:=.type "slice",data:=.fields #[vl,vu,.none] } }:=I3.kept (t':=s3.toks) fun b ob q=>Heap.get?_push_of_some _ q
 obtain⟨T,id,hT,ht,hg⟩:=hr pins { s3 with heap:=s3.heap.push { cls:=.type "slice",data:=.fields #[vl,vu,.none] } } σ H3 x v vl vu l u s3.heap.objs.size Q I4 r1 (Heap.IsSliceOf.new ..) pl pu q3
 show wpAny (model X.prog X.w) X.A (subscriptTail e (.Slice lo hi none p2) v (.ref s3.heap.objs.size)) (EP X pins σ Q) X.xe { s3 with heap:=s3.heap.push { cls:=.type "slice",data:=.fields #[vl,vu,.none] } }
 exact tail_any (ops:=[.ref s3.heap.objs.size,v]) ht hT hg (by with_unfolding_all rfl)
def cutV(xs:List V)(lo hi:Option Int):List V:=(xs.drop (HT.sIx xs.length 0 lo)).take (HT.sIx xs.length xs.length hi-HT.sIx xs.length 0 lo)
theorem cutV_length(xs:List V)(lo hi:Option Int):(cutV xs lo hi).length<=xs.length:=by
 unfold cutV
 rw [List.length_take,List.length_drop]
 omega
def rSlT(K:PySem.W.Frag):V->Option Int->Option Int->Hp->VK->Prop:=fun x lo hi H Q=>∃ a xs,x=.ref a/\SqT K H a xs /\
 ¬ (HT.sIx xs.length 0 lo=0/\HT.sIx xs.length xs.length hi=xs.length)/\∀ p,H p=none->Q (.ref p) (upd H p (.tup (cutV xs lo hi)))
theorem sl_tup:SlR X (rSlT X.K):=by
 intro pins s σ H x v vl vu lo hi sl Q I rx hs pl pu h
 obtain⟨a,xs,rfl,hx,hw,q⟩:=h
 cases rx
 obtain⟨its,r,ht,hz⟩:=I.tuple hx
 have hlen:its.toArray.size=xs.length:=by rw [List.size_toArray];exact r.length.symm
 refine⟨"tuple",_,PyProof.Rows.slot_tuple_getitem.lookup,ht.typeIs,?_⟩
 refine HT.getItem_tuple_cut ht hs pl pu (by rw [hlen];exact hw) ?_ (by rw [hlen];exact hz)
 rw [hlen]
 refine⟨.ref s.heap.objs.size,_,I.laid (t':=s.toks) (o:=.tup (cutV xs lo hi)) (fun b ob q=>Heap.get?_push_of_some _ q) (Nat.le_refl _) ?_,rfl,q _ (I.hok.fresh (Nat.le_refl _))⟩
 exact⟨Nat.le_trans (cutV_length xs lo hi) hz,_,(r.drop (HT.sIx xs.length 0 lo)).take (HT.sIx xs.length xs.length hi-HT.sIx xs.length 0 lo),TupD.new _ _⟩
theorem Vals.nil_iff{xs:List V}{us:List Value}(r:Vals xs us):us = []↔xs = []:=by
 cases r with
 | nil=>simp
 | cons _ _=>simp
end
def ixN(n:Nat)(i:Int):Option Nat:=if 0<=i then (if i<n then some i.toNat else none) else if -(n:Int)<=i then some (i+n).toNat else none
def atI{α:Type}(xs:List α)(i:Int):Option α:=(ixN xs.length i).bind fun j=>xs[j]?
theorem ixN_seq{n:Nat}{i:Int}{j:Nat}(h:ixN n i=some j):seqIndex? i n=some j/\j<n/\-(n:Int)<=i/\i<n:=by
 unfold ixN at h
 by_cases h0:0<=i
 ·rw [if_pos h0] at h
  by_cases h1:i<n
  ·rw [if_pos h1] at h
   have e:i.toNat=j:=Option.some.inj h
   exact⟨by rw [seqIndex_of h0 h1,e],by omega,by omega,h1⟩
  ·rw [if_neg h1] at h;cases h
 ·rw [if_neg h0] at h
  by_cases h1 : -(n:Int)<=i
  ·rw [if_pos h1] at h
   have e:(i+n).toNat=j:=Option.some.inj h
   exact⟨by rw [seqIndex_neg (by omega) h1,e],by omega,h1,by omega⟩
  ·rw [if_neg h1] at h;cases h
theorem atI_get{α:Type}{xs:List α}{i:Int}{v:α}(h:atI xs i=some v):∃ j,seqIndex? i xs.length=some j/\xs[j]?=some v/\j<xs.length/\-(xs.length:Int)<=i/\i<xs.length:=by
 unfold atI at h
 cases e:ixN xs.length i with
 | none=>rw [e] at h;cases h
 | some j =>
  rw [e] at h
  obtain⟨h1,h2,h3,h4⟩:=ixN_seq e
  exact⟨j,h1,h,h2,h3,h4⟩
theorem atI_nat{α:Type}{xs:List α}{j:Nat}{v:α}(h:xs[j]?=some v):atI xs (j:Int)=some v:=by
 have hj:j<xs.length:=(List.getElem?_eq_some_iff.mp h).1
 have e:ixN xs.length (j:Int)=some j:=by
  unfold ixN
  rw [if_pos (by omega),if_pos (by omega)];simp
 unfold atI;rw [e];exact h
def PlainIx(b:Expr):Prop:=∀ o i,subscripted b false o i=operate [o,i] (getItem o i)
def IxR(X:Cx)(r:R2):Prop :=
 ∀(value slice:Expr) (pins:List (Addr×Obj)) (s:Shared) (σ:St) (H:Hp) (x y:V) (v u:Value) (Q:VK),Inv X pins σ H s->RelV x v->RelV y u->r x y H Q ->
  subscripted slice false v u=operate [v,u] (getItem v u)->wpAny (model X.prog X.w) X.A (subscriptTail value slice v u) (EP X pins σ Q) X.xe s
def MtR(X:Cx)(id:String)(r:V->List V->Hp->VK->Prop):Prop :=
 ∀(pins:List (Addr×Obj)) (s:Shared) (σ:St) (H:Hp) (x:V) (xs:List V) (v:Value) (us:List Value) (Q:VK),Inv X pins σ H s->RelV x v->Vals xs us->r x xs H Q ->
  wpAny (model X.prog X.w) X.A (call (.builtin id) (v::us)) (EP X pins σ Q) X.xe s
section
variable {X:Cx}{a b:Expr}{ta tb:TE}{pos:Pos}
theorem IxR.or{r r':R2}(h:IxR X r)(h':IxR X r'):IxR X (fun x y H Q=>r x y H Q\/r' x y H Q):=by
 intro value slice pins s σ H x y v u Q I rx ry q hs
 rcases q with q | q
 ·exact h value slice pins s σ H x y v u Q I rx ry q hs
 ·exact h' value slice pins s σ H x y v u Q I rx ry q hs
theorem pe_ix{r:R2}(hr:IxR X r)(ha:PE X a ta)(hb:PE X b tb)(hs:PlainIx b):PE X (.Subscript a b pos) (tOp r ta tb):=by
 intro pins s σ H Q I h
 exact Subscript_ (binT ha hb I h fun v u s2 x y H2 I2 rx ry q=>hr a b pins s2 σ H2 x y v u Q I2 rx ry q (hs _ _))
def rIxL(K:PySem.W.Frag):R2:=fun x y H Q=>∃ p xs i v,x=.ref p/\y=.int i/\SqL K H p xs/\atI xs i=some v/\Q v H
def rIxT(K:PySem.W.Frag):R2:=fun x y H Q=>∃ p xs i v,x=.ref p/\y=.int i/\SqT K H p xs/\atI xs i=some v/\Q v H
def rIxS:R2:=fun x y H Q=>∃ z i c,x=.str z/\y=.int i/\z.length<=sizeLine/\atI z.cps.toList i=some c/\Q (.str ⟨#[c]⟩) H
theorem ix_list:IxR X (rIxL X.K):=by
 intro value slice pins s σ H x y v u Q I rx ry h hs
 obtain⟨p,xs,i,z,rfl,rfl,hq,he,q⟩:=h
 cases rx
 obtain⟨t,rfl⟩:=ry
 obtain⟨its,r,pl,hz⟩:=I.list hq
 obtain⟨j,h1,h2,h3,h4,h5⟩:=atI_get he
 obtain⟨w,ew,rw'⟩:=r.get h2
 have hl:=r.length
 have hn:=line63
 have fin:EP X pins σ Q w s:=⟨z,H,I,rw',q⟩
 by_cases h0:0<=i
 ·have hj:i.toNat=j:=by
   rw [seqIndex_of h0 h5] at h1
   exact Option.some.inj h1
  exact item_listR pl.isList h0 (by omega) (by rw [hj];simpa using ew) fin hs
 ·have hj:(i+(its.toArray.size:Int)).toNat=j:=by
   rw [seqIndex_neg (by omega) h4] at h1
   rw [List.size_toArray,<-hl]
   exact Option.some.inj h1
  exact subscriptTail_builtinR (x:=w) pl.isList.typeIs slot_list_getitem.lookup
   (wpAny_getItem_list_neg (Q:=fun r s'=>r=w/\EP X pins σ Q r s') pl.isList (by omega) (by rw [List.size_toArray] <;> omega) (by omega) (by rw [hj];simpa using ew) ⟨rfl,fin⟩) hs
theorem ix_tup:IxR X (rIxT X.K):=by
 intro value slice pins s σ H x y v u Q I rx ry h hs
 obtain⟨p,xs,i,z,rfl,rfl,hq,he,q⟩:=h
 cases rx
 obtain⟨t,rfl⟩:=ry
 obtain⟨its,r,pl,hz⟩:=I.tuple hq
 obtain⟨j,h1,h2,h3,h4,h5⟩:=atI_get he
 obtain⟨w,ew,rw'⟩:=r.get h2
 have hl:=r.length
 have hn:=line63
 have fin:EP X pins σ Q w s:=⟨z,H,I,rw',q⟩
 exact subscriptTail_builtinR (x:=w) pl.typeIs slot_tuple_getitem.lookup
  (getItem_tuple (j:=j) (Q:=fun r s'=>r=w/\EP X pins σ Q r s') pl (by omega) (by omega) (by rw [List.size_toArray,<-hl];exact h1) (by simpa using ew) ⟨rfl,fin⟩) hs
theorem ix_str:IxR X rIxS:=by
 intro value slice pins s σ H x y v u Q I rx ry h hs
 obtain⟨z,i,c,rfl,rfl,hz,he,q⟩:=h
 obtain⟨t,rfl⟩:=rx
 obtain⟨t',rfl⟩:=ry
 obtain⟨j,h1,h2,h3,h4,h5⟩:=atI_get he
 have hl:z.cps.toList.length=z.length:=by simp [Str.length]
 rw [hl] at h1 h4 h5
 have hn:=line63
 exact tail_any (typeIs_str s z t) slot_str_getitem.lookup (getItem_str (c:=c) (by
  have e1:decide (i < -(2 ^ 63:Int))=false:=decide_eq_false (by omega)
  have e2:decide (i ≥ 2 ^ 63)=false:=decide_eq_false (by omega)
  rw [e1,e2,Bool.or_false]) (by rw [h1];simpa using h2) ⟨.str ⟨#[c]⟩,H,I.tok _,⟨_,rfl⟩,q⟩) hs
def rIx(K:PySem.W.Frag):R2:=fun x y H Q=>rIxL K x y H Q\/rIxT K x y H Q\/rIxS x y H Q
theorem ix_seq:IxR X (rIx X.K):=ix_list.or (ix_tup.or ix_str)
theorem mapSeq_set(its:List Value)(n j:Nat)(u:Value):Obj.mapSeq (·.setIfInBounds j u) { cls:=.type "list",data:=.seq its.toArray n } = { cls:=.type "list",data:=.seq (its.set j u).toArray n }:=by
 simp [Obj.mapSeq]
theorem Inv.lst{pins:List (Addr×Obj)}{σ:St}{H:Hp}{s:Shared}{p:Addr}{xs:List V}(I:Inv X pins σ H s)(h:H p=some (.lst xs)):
  ∃(its:List Value) (n:Nat),Vals xs its/\s.heap.get? p=some { cls:=.type "list",data:=.seq its.toArray n }/\xs.length<=sizeLine:=by
 obtain⟨z,its,n,r,e⟩:=I.hok p _ h
 exact⟨its,n,r,e,z⟩
theorem Inv.lstUpd{pins:List (Addr×Obj)}{σ:St}{H:Hp}{s:Shared}{p:Addr}{xs ys:List V}{its its':List Value}{n n':Nat}{f:Obj->Obj}(I:Inv X pins σ H s)(h:H p=some (.lst xs))
  (ho:s.heap.get? p=some { cls:=.type "list",data:=.seq its.toArray n }) (hf:f { cls:=.type "list",data:=.seq its.toArray n } = { cls:=.type "list",data:=.seq its'.toArray n' }) (r:Vals ys its') (hz:ys.length<=sizeLine) (t:Nat) :
  Inv X pins σ (upd H p (.lst ys)) { s with heap:=s.heap.update p f,toks:=t }:=by
 have e:(s.heap.update p f).get? p=some { cls:=.type "list",data:=.seq its'.toArray n' }:=by
  rw [Heap.get?_update_self f ho (by rw [hf] <;> rfl),hf]
 refine I.write (x:=p) (e:=p) (by rw [h];trivial) (.inl rfl) (fun b u hb q=>(Heap.get?_update_other _ _ (Ne.symm hb)).trans q) ⟨_,e⟩ ?_
 exact⟨hz,its',n',r,e⟩
def rSetL:V->V->V->Hp->(Hp->Prop)->Prop:=fun o i v H Q=>∃ p xs k j,o=.ref p/\i=.int k/\H p=some (.lst xs)/\ixN xs.length k=some j/\Q (upd H p (.lst (xs.set j v)))
theorem set_list:PSet X rSetL:=by
 intro pins s σ H o i v ov iv u Q I ro ri rv h
 obtain⟨p,xs,k,j,rfl,rfl,hp,hj,q⟩:=h
 cases ro
 obtain⟨t,rfl⟩:=ri
 obtain⟨its,n,r,ho,hz⟩:=I.lst hp
 obtain⟨h1,h2,h3,h4⟩:=ixN_seq hj
 have hl:=r.length
 have hn:=line63
 have I':Inv X pins σ (upd H p (.lst (xs.set j v))) { s with heap:=s.heap.update p (Obj.mapSeq (·.setIfInBounds j u)) } :=
  I.lstUpd hp ho (mapSeq_set its n j u) (r.set rv j) (by rw [List.length_set];exact hz) s.toks
 by_cases h0:0<=k
 ·have hk:k.toNat=j:=by
   rw [seqIndex_of h0 h4] at h1
   exact Option.some.inj h1
  exact PySem.W.ki_setAt ho h0 (by omega) (by rw [List.size_toArray,<-hl];exact h4) (by rw [hk];exact⟨_,I',q⟩)
 ·have hk:(k+(its.toArray.size:Int)).toNat=j:=by
   rw [seqIndex_neg (by omega) h3] at h1
   rw [List.size_toArray,<-hl]
   exact Option.some.inj h1
  exact PySem.W.ki_setBack ho (by omega) (by rw [List.size_toArray,<-hl];exact h3) (by omega) (by rw [hk];exact⟨_,I',q⟩)
theorem slice_bounds(lo hi:Option Int)(n:Nat):(sliceBounds lo hi none n).1=((HT.sIx n 0 lo:Nat):Int)/\(sliceBounds lo hi none n).2.1=((HT.sIx n n hi:Nat):Int)/\(sliceBounds lo hi none n).2.2=1:=by
 refine⟨?_,?_,rfl⟩
 ·cases lo with
  | none=>simp [sliceBounds,HT.sIx]
  | some i =>
   simp only [sliceBounds,HT.sIx,Option.getD_none,show(1:Int) > 0 by decide,if_true]
   by_cases h:i<0
   ·simp only [h,if_true] <;> omega
   ·simp only [h,if_false] <;> omega
 ·cases hi with
  | none=>simp [sliceBounds,HT.sIx]
  | some i =>
   simp only [sliceBounds,HT.sIx,Option.getD_none,show(1:Int) > 0 by decide,if_true]
   by_cases h:i<0
   ·simp only [h,if_true] <;> omega
   ·simp only [h,if_false] <;> omega
theorem slicePick_cut(its:List Value)(lo hi:Option Int):slicePick its.toArray lo hi none=((its.drop (HT.sIx its.length 0 lo)).take (HT.sIx its.length its.length hi-HT.sIx its.length 0 lo)).toArray:=by
 obtain⟨h1,h2,h3⟩:=slice_bounds lo hi its.toArray.size
 unfold slicePick
 rw [h1,h2,h3]
 simp only [sliceRange_one,pick_run,List.size_toArray] <;> rfl
def rSlL(K:PySem.W.Frag):V->Option Int->Option Int->Hp->VK->Prop:=fun x lo hi H Q=>∃ a xs,x=.ref a/\SqL K H a xs/\∀ p,H p=none->Q (.ref p) (upd H p (.lst (cutV xs lo hi)))
theorem sl_list:SlR X (rSlL X.K):=by
 intro pins s σ H x v vl vu lo hi sl Q I rx hs pl pu h
 obtain⟨a,xs,rfl,hx,q⟩:=h
 cases rx
 obtain⟨its,r,ht,hz⟩:=I.list hx
 have hlen:=r.length
 refine⟨"list",_,slot_list_getitem.lookup,ht.isList.typeIs,?_⟩
 refine wpAny_getItem_list_slice ht.isList hs pl pu .none (by simp) ?_ (by rw [List.size_toArray] <;> omega)
 rw [slicePick_cut,<-hlen]
 refine⟨.ref s.heap.objs.size,_,I.laid (t':=s.toks) (o:=.lst (cutV xs lo hi)) (fun b ob q=>Heap.get?_push_of_some _ q) (Nat.le_refl _) ?_,rfl,q _ (I.hok.fresh (Nat.le_refl _))⟩
 exact⟨Nat.le_trans (cutV_length xs lo hi) hz,_,0,(r.drop (HT.sIx xs.length 0 lo)).take (HT.sIx xs.length xs.length hi-HT.sIx xs.length 0 lo),Heap.get?_push_size _ rfl⟩
theorem call_len_seq:CallR X (.builtin "len") (fun xs H Q=>∃ p ys,xs = [.ref p]/\(SqL X.K H p ys\/SqT X.K H p ys)/\Q (.int ys.length) H):=by
 intro pins s σ H xs us Q I r h
 obtain⟨p,ys,rfl,hq,q⟩:=h
 obtain⟨u,rfl,rx⟩:=vals1 r
 cases rx
 have hn:=line63
 rcases hq with hq | hq
 ·obtain⟨its,r',pl,hz⟩:=I.list hq
  have hlen:=r'.length
  exact Calls.call_len_list pl.isList (by simp only [List.size_toArray] <;> omega) ⟨.int ys.length,H,I.tok _,⟨s.toks+1,by rw [List.size_toArray,hlen]⟩,q⟩
 ·obtain⟨its,r',pl,hz⟩:=I.tuple hq
  have hlen:=r'.length
  exact len_tuple pl (by simp only [List.size_toArray] <;> omega) ⟨.int ys.length,H,I.tok _,⟨s.toks+1,by rw [List.size_toArray,hlen]⟩,q⟩
theorem call_list_of:CallR X (.type "list") (fun xs H Q=>∃ p ys,xs = [.ref p]/\(SqL X.K H p ys\/SqT X.K H p ys)/\∀ l,H l=none->Q (.ref l) (upd H l (.lst ys))):=by
 intro pins s σ H xs us Q I r h
 obtain⟨p,ys,rfl,hq,q⟩:=h
 obtain⟨u,rfl,rx⟩:=vals1 r
 cases rx
 have fin:∀(its:List Value),Vals ys its->ys.length<=sizeLine->∀(h':Heap) (c':Nat),(∀ b o',s.heap.get? b=some o'->h'.get? b=some o') ->
   h'.get? s.heap.objs.size=some { cls:=.type "list",dict:=none,data:=.seq its.toArray c',slots:=#[] }->EP X pins σ Q (.ref s.heap.objs.size) { s with heap:=h' }:=fun its r' hz h' c' kp e =>
  ⟨.ref s.heap.objs.size,_,I.laid (t':=s.toks) kp (Nat.le_refl _) (show ObjOk X.prog X.w _ h' _ (.lst ys) from⟨hz,its,c',r',e⟩),rfl,q _ (I.hok.fresh (Nat.le_refl _))⟩
 rcases hq with hq | hq
 ·obtain⟨its,r',pl,hz⟩:=I.list hq
  have hlen:=r'.length
  obtain⟨o,ho,hc,n,hd⟩:=pl.isList
  exact call_list_seq p (.inl rfl) ho hc hd (fun h' c' kp e=>fin its r' hz h' c' kp e) (by simp only [List.size_toArray] <;> omega)
 ·obtain⟨its,r',pl,hz⟩:=I.tuple hq
  have hlen:=r'.length
  obtain⟨o,ho,hc,n,hd⟩:=pl
  exact call_list_seq p (.inr rfl) ho hc hd (fun h' c' kp e=>fin its r' hz h' c' kp e) (by simp only [List.size_toArray] <;> omega)
theorem call_tuple_of:CallR X (.type "tuple") (fun xs H Q=>∃ p ys,xs = [.ref p]/\((SqL X.K H p ys/\∀ l,H l=none->Q (.ref l) (upd H l (.tup ys)))\/(SqT X.K H p ys/\Q (.ref p) H))):=by
 intro pins s σ H xs us Q I r h
 obtain⟨p,ys,rfl,h⟩:=h
 obtain⟨u,rfl,rx⟩:=vals1 r
 cases rx
 rcases h with⟨hq,q⟩ | ⟨hq,q⟩
 ·obtain⟨its,r',pl,hz⟩:=I.list hq
  have hlen:=r'.length
  refine call_tuple_list pl.isList (fun h' kp=>?_) (by simp only [List.size_toArray] <;> omega)
  have I1:Inv X pins σ H { s with heap:=h' }:=I.kept (t':=s.toks) kp
  have I2:Inv X pins σ (upd H h'.objs.size (.tup ys)) { s with heap:=h'.push { cls:=.type "tuple",data:=.seq its.toArray } } :=
   I1.laid (t':=s.toks) (fun b o e=>Heap.get?_push_of_some _ e) (Nat.le_refl _) (show ObjOk X.prog X.w _ _ _ (.tup ys) from⟨hz,its,r',TupD.new _ _⟩)
  exact⟨.ref h'.objs.size,_,I2,rfl,q _ (I1.hok.fresh (Nat.le_refl _))⟩
 ·obtain⟨its,r',pl,hz⟩:=I.tuple hq
  exact call_tuple_same pl ⟨.ref p,H,I,rfl,q⟩
def tyV(K:PySem.W.Frag)(T:String)(x:V)(H:Hp):Prop:=match x with
 | .str _=>T = "str"
 | .int _=>T = "int"
 | .ref p=>(T = "list" /\ ∃ xs,SqL K H p xs)\/(T = "tuple" /\ ∃ xs,SqT K H p xs) \/
   (T = "dict" /\((∃ kvs,H p=some (.dK kvs))\/∃ kvs,H p=some (.dT kvs)))\/(T = "set" /\ ∃ S n,H p=some (.set S n))
 | _=>False
theorem tyV_is{pins:List (Addr×Obj)}{σ:St}{H:Hp}{s:Shared}{T:String}{x:V}{v:Value}(I:Inv X pins σ H s)(r:RelV x v)(ty:tyV X.K T x H):
  s.TypeIs v T/\∀ a,v=.ref a->∃ ob,s.heap.get? a=some ob/\ob.dict=none:=by
 cases x with
 | str z =>
  obtain⟨t,rfl⟩:=r
  cases (show T = "str" from ty)
  exact⟨typeIs_str s z t,fun _ e=>nomatch e⟩
 | int i =>
  obtain⟨t,rfl⟩:=r
  cases (show T = "int" from ty)
  exact⟨typeIs_int s i t,fun _ e=>nomatch e⟩
 | ref p =>
  cases r
  rcases ty with⟨rfl,xs,hq⟩ | ⟨rfl,xs,hq⟩ | ⟨rfl,hk⟩ | ⟨rfl,S,n,hk⟩
  ·obtain⟨its,_,pl,_⟩:=I.list hq
   refine⟨pl.isList.typeIs,fun a e=>?_⟩
   cases e
   obtain⟨o,n,e,c,hd,_⟩:=pl
   exact⟨o,e,hd⟩
  ·obtain⟨its,_,pl,_⟩:=I.tupleD hq
   refine⟨pl.isTup.typeIs,fun a e=>?_⟩
   cases e
   obtain⟨o,e,_,_,hd⟩:=pl
   exact⟨o,e,hd⟩
  ·have z:∃ o,s.heap.get? p=some o/\o.ExactDict:=by
    rcases hk with⟨kvs,hk⟩ | ⟨kvs,hk⟩
    ·obtain⟨_,_,_,_,o,_,_,e,ex,_⟩:=I.hok p _ hk
     exact⟨o,e,ex⟩
    ·obtain⟨_,_,_,_,o,_,_,e,ex,_⟩:=I.hok p _ hk
     exact⟨o,e,ex⟩
   obtain⟨o,e,ex⟩:=z
   refine⟨⟨o,e,ex.1⟩,fun a e2=>?_⟩
   cases e2
   exact⟨o,e,ex.2.1⟩
  ·obtain⟨o,_,_,_,e,ex,_⟩:=I.hok p _ hk
   refine⟨⟨o,e,ex.1⟩,fun a e2=>?_⟩
   cases e2
   exact⟨o,e,ex.2.1⟩
 | _=>exact False.elim ty
def tBM0(K:PySem.W.Frag)(T:String)(r:V->List V->Hp->VK->Prop)(to:TE):TE:=fun σ H Q=>to σ H fun x H1=>tyV K T x H1/\r x [] H1 Q
def tBM(K:PySem.W.Frag)(T:String)(r:V->List V->Hp->VK->Prop)(to:TE)(t:TA):TE:=fun σ H Q=>to σ H fun x H1=>tyV K T x H1/\t σ H1 fun xs H2=>r x xs H2 Q
variable {o e:Expr}{es:List Expr}{to:TE}{t:TA}{name:Str}{apos cpos:Pos}{T id:String}{r:V->List V->Hp->VK->Prop}
theorem pe_bm0(pa:PlainAttrs T)(slot:Slot T name id)(hty:typeOf (.builtin id)=pure (.type "method_descriptor"))(hm:MtR X id r)(ho:PE X o to)
  (hbase:attributeBase o name X.env (eval o X.env)=eval o X.env:=by rfl) (hline:(apos.endLine == cpos.line)=true:=by rfl):PE X (.Call (.Attribute o name apos) [] [] cpos) (tBM0 X.K T r to):=by
 intro pins s σ H Q I h
 refine wpAny_Call_method0_late hbase hline (thn (ho pins s σ H _ I h) fun v s1 ⟨x,H1,I1,r1,ty,q1⟩=>?_)
 obtain⟨h1,h2⟩:=tyV_is I1 r1 ty
 exact⟨T,id,pa,slot,hty,h1,h2,Calls.callWith_builtin rfl (PySem.evalArgs_none (hm pins s1 σ H1 x [] v [] Q I1 r1 .nil q1))⟩
theorem pe_bm(pa:PlainAttrs T)(slot:Slot T name id)(hty:typeOf (.builtin id)=pure (.type "method_descriptor"))(hm:MtR X id r)(ho:PE X o to)(ha:PA X (e::es) t)
  (hbase:attributeBase o name X.env (eval o X.env)=eval o X.env:=by rfl)
  (hfew:((backTo cpos (starEach (e::es) X.env)).all (fun x=>!x.1) && (backToKw cpos (keywordEach [] X.env)).all (fun x=>x.1.isSome)
   && decide ((e::es).length+([]:List Keyword).length+(if ([]:List Keyword).isEmpty then 0 else 1)<30))=true:=by rfl)
  (hline:(apos.endLine == cpos.line)=true:=by rfl) (hs:starEach (e::es) X.env=(false,eval e X.env)::starEach es X.env:=by rfl) (hplain:(backTo cpos (starEach es X.env)).any (·.1)=false:=by rfl) :
  PE X (.Call (.Attribute o name apos) (e::es) [] cpos) (tBM X.K T r to t):=by
 intro pins s σ H Q I h
 refine wpAny_Call_method_late hbase hfew hline rfl (thn (ho pins s σ H _ I h) fun v s1 ⟨x,H1,I1,r1,ty,q1⟩=>?_)
 obtain⟨h1,h2⟩:=tyV_is I1 r1 ty
 refine⟨T,id,pa,slot,hty,h1,h2,?_⟩
 have hA:=ha cpos pins s1 σ H1 _ I1 q1
 rw [hs] at hA ⊢
 refine Calls.callWith_builtin (by show(false || (backTo cpos (starEach es X.env)).any (·.1))=false;rw [hplain] <;> rfl) (Calls.evalArgs_plain ?_)
 exact thn hA fun us s2 ⟨vs,H2,I2,r2,q2⟩=>hm pins s2 σ H2 x vs v us Q I2 r1 r2 q2
end
def MtM(X:Cx)(id:String)(r:V->List V->Hp->VK->Prop):Prop :=
 ∀(pins:List (Addr×Obj)) (s:Shared) (σ:St) (H:Hp) (x:V) (xs:List V) (v:Value) (us:List Value) (Q:VK),Inv X pins σ H s->RelV x v->Vals xs us->r x xs H Q ->
  wpAny (model X.prog X.w) X.A (call (.builtin id) (v::us)) (EP X pins σ Q) X.xe s
theorem Vals.one:∀{x:V} {us:List Value},Vals [x] us->∃ u,us = [u]/\RelV x u
 | _,_,.cons r .nil=>⟨_,rfl,r⟩
theorem Vals.two:∀{x y:V} {us:List Value},Vals [x,y] us->∃ u v,us = [u,v]/\RelV x u/\RelV y v
 | _,_,_,.cons r (.cons q .nil)=>⟨_,_,rfl,r,q⟩
theorem Vals.zero:∀{us:List Value},Vals [] us->us = []
 | _,.nil=>rfl
theorem Vals.reverse{xs:List V}{us:List Value}(h:Vals xs us):Vals xs.reverse us.reverse:=by
 induction h with
 | nil=>exact .nil
 | cons r t ih=>rw [List.reverse_cons,List.reverse_cons];exact Vals.append ih (.cons r .nil)
theorem Vals.rep{xs:List V}{us:List Value}(h:Vals xs us):∀ k:Nat,Vals (List.replicate k xs).flatten (List.replicate k us).flatten
 | 0=>.nil
 | k+1=>by
  rw [List.replicate_succ,List.replicate_succ,List.flatten_cons,List.flatten_cons]
  exact Vals.append h (Vals.rep h k)
theorem foldl_rep(its:List Value):∀(k:Nat) (acc:List Value),
  List.foldl (fun x1 x2=>x1++x2) acc.toArray (List.replicate k its.toArray)=(acc++(List.replicate k its).flatten).toArray
 | 0,acc=>by simp
 | k+1,acc=>by
  have e:acc.toArray++its.toArray=(acc++its).toArray:=by simp
  have e2:(acc++its)++(List.replicate k its).flatten=acc++(List.replicate (k+1) its).flatten:=by
   rw [List.replicate_succ,List.flatten_cons,List.append_assoc]
  rw [<-e2,<-foldl_rep its k (acc++its),<-e,List.replicate_succ,List.foldl_cons]
section
variable {X:Cx}{pins:List (Addr×Obj)}{σ:St}{H:Hp}{s:Shared}{l b:Addr}{xs ys zs:List V}
theorem Inv.lset{its its':List Value}{n:Nat}{f:Array Value->Array Value}{t':Nat}(I:Inv X pins σ H s)(hH:H l=some (.lst xs))
  (e:s.heap.get? l=some { cls:=.type "list",data:=.seq its.toArray n }) (hf:f its.toArray=its'.toArray) (hv:Vals ys its') (hz:ys.length<=sizeLine) :
  Inv X pins σ (upd H l (.lst ys)) { s with heap:=s.heap.update l (Obj.mapSeq f),toks:=t' }:=by
 have q:=PySem.IsL.update e f
 rw [hf] at q
 refine I.write (x:=l) (e:=l) (by rw [hH];exact trivial) (.inl rfl) (fun b' u hb hu=>(Heap.get?_update_other s.heap (Obj.mapSeq f) (Ne.symm hb)).trans hu) ⟨_,q⟩ ?_
 exact⟨hz,its',_,hv,q⟩
theorem Inv.lnew{its:List Value}{t':Nat}(I:Inv X pins σ H s)(hv:Vals ys its)(hz:ys.length<=sizeLine):
  Inv X pins σ (upd H s.heap.objs.size (.lst ys)) { s with heap:=s.heap.push { cls:=.type "list",data:=.seq its.toArray },toks:=t' } :=
 I.laid (fun _ _ q=>Heap.get?_push_of_some _ q) (Nat.le_refl _) ⟨hz,its,0,hv,Heap.get?_push_size _ rfl⟩
theorem Inv.fresh(I:Inv X pins σ H s):H s.heap.objs.size=none:=I.hok.fresh (Nat.le_refl _)
theorem Inv.lstM(I:Inv X pins σ H s)(hH:H l=some (.lst xs)):xs.length<=sizeLine/\∃(its:List Value) (n:Nat),Vals xs its/\xs.length=its.length/\s.heap.get? l=some { cls:=.type "list",data:=.seq its.toArray n }:=by
 obtain⟨z,its,n,r,e⟩:=I.hok l _ hH
 exact⟨z,its,n,r,r.length,e⟩
theorem notLongL{n:Nat}(h:n<=sizeLine):Builtin.List.listTooLong n=false:=by
 unfold Builtin.List.listTooLong
 exact decide_eq_false (by omega)
end
section
variable {X:Cx}
def rAppend:V->List V->Hp->VK->Prop:=fun x vs H Q=>∃ l xs y,x=.ref l/\vs = [y]/\H l=some (.lst xs)/\xs.length<sizeLine/\Q .non (upd H l (.lst (xs ++ [y])))
theorem mt_append:MtM X "list.append" rAppend:=by
 intro pins s σ H x vs v us Q I rx rv h
 obtain⟨l,xs,y,rfl,rfl,hH,hz,q⟩:=h
 cases rx
 obtain⟨u,rfl,ru⟩:=rv.one
 obtain⟨z,its,n,r,hl,e⟩:=I.lstM hH
 refine call_meets F.slot_list_append ⟨_,e,rfl⟩ F.entry_list_append (F.args_list_append_2 _ _) (PySem.list_append l its.toArray n u (by rw [List.size_toArray];omega)) ⟨e,?_⟩
 refine⟨.non,_,I.lset (its':=its ++ [u]) hH e (by simp) (r.append (.cons ru .nil)) ?_,rfl,q⟩
 rw [List.length_append,List.length_singleton]
 omega
theorem len_rep{α:Type}(xs:List α)(k:Nat):(List.replicate k xs).flatten.length=k * xs.length:=by
 induction k with
 | zero=>simp
 | succ k ih=>rw [List.replicate_succ,List.flatten_cons,List.length_append,ih,Nat.succ_mul,Nat.add_comm]
end
section
variable {prog:Program}{w:World}{A:Around}{E:Value->Shared->Prop}{s:Shared}
end
section
variable {X:Cx}
end
end L2
namespace Att
open PySem PySem.W PySem.Calls PyProof.Rows
theorem ints_of_wellAll{P:Params}{h:Heap}:∀(ns:List Int) (vs:List Value),WellAll P h vs (ns.map WData.int)->IntsAre vs ns:=by
 intro ns
 induction ns with
 | nil =>
  intro vs w
  rw [List.map_nil] at w
  cases w
  exact .nil
 | cons n ns ih =>
  intro vs w
  rw [List.map_cons] at w
  cases w with
  | cons a b =>
   cases a
   exact .cons _ _ (ih _ b)
theorem script_of{l:OpenLaw}{n:Nat}(hn:l.most=some n){P:Params}{h:Heap}{args:List WData}{vals:List Value}
  (hpre:l.row.toRowW.claim.pre args=true) (hwl:WellAll P h vals args) :
  ∃ a vs ns,vals = [Value.ref a]/\args = [WData.list (ns.map WData.int)]/\h.get? a=some { cls:=.type "list",data:=.seq vs.toArray }/\IntsAre vs ns/\ns.length<=n:=by
 have hsh:WShape.hasAll [] args [.list .int]=true:=(pre_splitW hpre).1
 have hc:l.pre.holds [] { args:=args }=true:=(pre_splitW hpre).2
 obtain⟨d,r,rfl,h1,h2⟩:=hasAllW_cons hsh
 obtain rfl:=hasAllW_nil h2
 obtain⟨xs,rfl,h3⟩:=hasW_list h1
 obtain⟨ns,rfl⟩:=items_int h3
 have hlen:ns.length<=n:=by
  unfold OpenLaw.pre at hc
  have h4:(WTm.not (.lt (.lit (.int (n:Int))) (.len (.arg 0)))).holds [] { args:=[.list (ns.map .int)] }=true:=by
   have h4:=(holds_andW hc).1
   rw [hn] at h4
   exact h4
  have h5:=condW_of h4 (w_not (w_lt w_lit (w_len_list (w_arg rfl))))
  rw [List.length_map] at h5
  refine Nat.le_of_not_lt fun q=>?_
  have q':(n:Int)<((ns.length:Nat):Int):=by omega
  first
   | (rw [decide_eq_true q'] at h5;exact absurd h5 (by decide))
   | (simp at h5;omega)
 cases hwl with
 | cons w1 w2 =>
  cases w2
  cases w1 with
  | list ho hall=>exact⟨_,_,ns,rfl,rfl,ho,ints_of_wellAll ns _ hall,hlen⟩
theorem post_true(l:OpenLaw)(args:List WData):l.row.toRowW.claim.post args (.bool true) args=true :=
 postW_of (r:=l.row.toRowW) (X:=(true == true))
  (show WShape.has [] (.bool true) .bool=true by first | rfl | decide | simp [WShape.has,WShape.arms,WShape.armsAll])
  (show(WTm.eq .res (.lit (.bool true))).value [] { args:=args,res:=some (.bool true),after:=args }=some (.bool (true == true)) from w_eq_bool (w_res rfl) w_lit) rfl
theorem attach_call{l:OpenLaw}{n:Nat}{q:Program}{loose:List Str}{XP:(Str->Option Value)->Heap->Prop}{YP:World->Heap->Prop}{d:DefRec}
  (hn:l.most=some n) (hdf:d.params.defaults = [])
  (call:∀(w:World) (s₀ s₁:Shared) (mg mb:Str->Option Value) (fa:Addr) (o:Obj) (pm cd doc:Value) (a:Addr) (vs:List Value) (ns:List Int),
   Ground q loose [] XP w s₀ mg mb s₁.heap->YP w s₁.heap ->
   s₁.heap.get? fa=some o->o.data=.func (docDef d.name d.params d.body d.scope pm cd doc)->s₁.heap.CodeRec cd d.name->mg d.name=some (.ref fa) ->
   s₁.heap.get? a=some { cls:=.type "list",data:=.seq vs.toArray }->IntsAre vs ns->ns.length<=n->s₁.gens = #[] ->
   codeAny (model l.prog w) callerA (.call (.ref fa) ⟨[.ref a],[]⟩) (fun r s'=>r=.ok (.ret (.bool true))/\OldK s₁.heap s'.heap/\s'.os=s₁.os/\AllBare s'.gens) s₁) :
  WalkO q loose XP YP l.row.toRowW d [] (fun f vs=>PySem.call f vs):=by
 intro w s₀ s₁ mg mb G Y fa o pm cd doc dV kV ho hd hcd hD hmg hg args vals as hpre hlay hrd hwl hlo
 obtain rfl:dV=.none:=Dflts.none hD hdf
 obtain rfl:kV=.none:=Dflts.noKw hD
 obtain⟨a,vs,ns,rfl,rfl,hobj,hints,hlen⟩:=script_of hn hpre hwl
 refine enter_call (codeAny_mono (call w s₀ s₁ mg mb fa o pm cd doc a vs ns G Y ho (fd_plain hd) hcd hmg hobj hints hlen hg) fun r s' hq=>?_)
 obtain⟨rfl,h2,h3,h4⟩:=hq
 exact⟨.inl ⟨.bool true,.bool true,[],rfl,fun _=>rfl,.bool true,post_true l _,fun _=>⟨List.Pairwise.nil,fun _ hm=>(nomatch hm)⟩⟩,h2,h3,h4⟩
section
variable {prog:Program}{w:World}{A:Around}{E:Value->Shared->Prop}{s:Shared}{K:Frag}
end
end Att
namespace L2
open PySem PySem.Spec PyProof.Rows
theorem vals_ints:∀{vs:List Value} {ns:List Int},IntsAre vs ns->Vals (ns.map V.int) vs
 | _,_,.nil=>.nil
 | _,_,.cons n t h=>.cons ⟨t,rfl⟩ (vals_ints h)
def Only(H:Hp):Prop:=∀ b,H b=none\/∃ o xs,H b=some (.frz o (.lst xs))
theorem law_call{P:Program}{w:World}{K:PySem.W.Frag}{mg mb:Str->Option Value}{CX:CXT}{k:Nat}{fa a:Addr}{fd:FuncData}{x:Str}{sp:Sp}{s₁:Shared}{vs:List Value}{ns:List Int}
  (KX:K.In s₁.heap) (hns:s₁.heap.Ns mainGlobals mg) (hb:s₁.heap.Ns builtinsNs mb) (hbb:∀ x:Str,x ≠ "__name__" -> mb x=bootBuiltins x) (hlim:s₁.heap.NoLimit) (hg:s₁.gens = #[])
  (ha:s₁.heap.get? a=some { cls:=.type "list",data:=.seq vs.toArray }) (hi:IntsAre vs ns) (hl:ns.length<=sizeLine) (hr:Room k callerA)
  (F:∀ base:Heap,K.In base->base.Ns mainGlobals mg->FnOk P w K mg base CX k fa fd [x] sp) (hbind:∀(s:Shared) (u:Value),BindsTo s fd ⟨[u],[]⟩ [(x,u)])
  (hsp:∀ H:Hp,Only H->SqL K H a (ns.map V.int)->sp [.ref a] H (fun v _=>v=.bl true) fun _ _ _=>False)
  (hCX:∀ H e s',CX [] H s₁ (fun _ _ _=>False) e s'->False) :
  codeAny (model P w) callerA (.call (.ref fa) ⟨[.ref a],[]⟩) (fun r s'=>r=.ok (.ret (.bool true))/\OldK s₁.heap s'.heap/\s'.os=s₁.os/\AllBare s'.gens) s₁:=by
 have rv:=vals_ints hi
 have lenV:=hi.length
 -- from an abstract heap in which nothing but the script may be tracked
 have core:∀ H:Hp,Only H->SqL K H a (ns.map V.int)->HOk P w H s₁.heap->(∀ b,H b≠none->b=a)->(H a≠none->K.lookup a=none) ->
   codeAny (model P w) callerA (.call (.ref fa) ⟨[.ref a],[]⟩) (fun r s'=>r=.ok (.ret (.bool true))/\OldK s₁.heap s'.heap/\s'.os=s₁.os/\AllBare s'.gens) s₁:=by
  intro H hO hS hok hA hK
  have base_of:∀{b:Addr} {o:Obj},s₁.heap.get? b=some o->H b=none->(hidT s₁.heap H).get? b=some o:=fun e n=>hidT_get e n
  have noA:∀{b:Addr} {o:Obj} {es:Array DictEntry} {ep:Nat},s₁.heap.get? b=some o->o.data=.dict es ep->H b=none:=fun{b o es ep} e d=>by
   cases q:H b with
   | none=>rfl
   | some u =>
    have e':b=a:=hA b (by rw [q];simp)
    subst e'
    rw [ha] at e;cases e
    have d':Data.seq vs.toArray _=Data.dict es ep:=d
    cases d'
  have nsK:∀{b:Addr} {m:Str->Option Value},s₁.heap.Ns b m->(hidT s₁.heap H).Ns b m:=fun{b m} ⟨o,es,ep,e,d,r⟩=>⟨o,es,ep,base_of e (noA e d),d,r⟩
  have hKb:K.In (hidT s₁.heap H):=fun b o e=>base_of (KX b o e) (by
   cases q:H b with
   | none=>rfl
   | some u =>
    have e':b=a:=hA b (by rw [q];simp)
    subst e'
    rw [hK (by rw [q];simp)] at e;cases e)
  have hM:Mod K mg (hidT s₁.heap H):=⟨hKb,nsK hns,⟨mb,nsK hb,hbb⟩,let ⟨mc,h1,h2⟩:=hlim;⟨mc,nsK h1,h2⟩⟩
  have e0:Env0 P w K mg (hidT s₁.heap H) callerA [] s₁ H:=⟨rfl,hM,fun b o e=>of_hidT e,Nat.le_of_eq (hidT_size _ _),trivial,fun b hb=>absurd (show b∈([]:List Addr) from hb) (by simp),hok,.of_eq hg⟩
  refine codeAny_mono ((F _ hKb (nsK hns)).run callerA [] s₁ H ⟨[.ref a],[]⟩ [.ref a] [.ref a] _ _ hr e0 (hbind s₁ (.ref a)) (.cons rfl .nil) (hsp H hO hS)) fun r s' h=>?_
  cases r with
  | error e=>exact(hCX H e s' h).elim
  | ok fl =>
   cases fl with
   | next=>exact False.elim h
   | brk=>exact False.elim h
   | cont=>exact False.elim h
   | ret u =>
    obtain⟨v,H',os,bare,un,hok',r',q⟩:=h
    have q':v=.bl true:=q
    subst q'
    obtain rfl:u=Value.bool true:=r'
    refine⟨rfl,OldK.of_keep fun b o e=>?_,os,bare⟩
    cases q:H b with
    | none=>exact un.keep b o e q (by intro z;exact absurd (show b∈([]:List Addr) from z) (by simp)) (by simp)
    | some u =>
     rcases hO b with z | ⟨ob,xs,z⟩
     ·rw [q] at z;cases z
     ·have z2:=un.frzs b ob _ z
      obtain⟨e1,_⟩:=hok b _ z
      obtain⟨e2,_⟩:=hok' b _ z2
      rw [e] at e1;cases e1
      exact e2
 cases hk:K.lookup a with
 | some o =>
  -- the script is one of the module's own objects
  have e:=KX a o hk
  rw [ha] at e
  cases e
  refine core (fun _=>none) (fun _=>.inl rfl) (.inr ⟨_,vs.toArray,_,hk,rfl,rfl,rfl,by rw [List.size_toArray,lenV];exact hl,by simpa using rv⟩) (fun b u z=>by have z':(none:Option HO)=some u:=z;cases z') (fun b z=>absurd rfl z) fun z=>absurd rfl z
 | none =>
  refine core (fun b=>if b=a then some (.frz { cls:=.type "list",data:=.seq vs.toArray } (.lst (ns.map V.int))) else none) (fun b=>?_) (.inl (.inr ⟨{ cls:=.type "list",data:=.seq vs.toArray },if_pos rfl⟩)) (fun b u z=>?_) (fun b z=>?_) fun _=>hk
  ·by_cases hb:b=a
   ·exact .inr ⟨_,_,if_pos hb⟩
   ·exact .inl (if_neg hb)
  ·by_cases hb:b=a
   ·have z':=(if_pos hb).symm.trans z
    cases z'
    subst hb
    exact⟨ha,by rw [List.length_map];exact hl,vs,_,rv,ha⟩
   ·have z':=(if_neg hb).symm.trans z
    cases z'
  ·by_cases hb:b=a
   ·exact hb
   ·exact absurd (if_neg hb) z
theorem walk_of{l:PySem.W.OpenLaw}{n k:Nat}{q:Program}{loose:List Str}{XP:(Str->Option Value)->Heap->Prop}{YP:World->Heap->Prop}{d:DefRec}{K:Params->PySem.W.Frag}{CX:World->CXT}{sp:World->Sp}{x:Str}
  (hn:l.most=some n) (hn2:n<=sizeLine) (hdf:d.params.defaults = []) (hr:Room k callerA)
  (hY:∀(w:World) (h:Heap),YP w h->(K w.params).In h)
  (F:∀(w:World) (mg:Str->Option Value) (fa:Addr) (h:Heap),(K w.params).In h->h.Ns mainGlobals mg->mg d.name=some (.ref fa) ->
   ∃ fd:FuncData,(∀(s:Shared) (u:Value),BindsTo s fd ⟨[u],[]⟩ [(x,u)]) /\
    ∀ base:Heap,(K w.params).In base->base.Ns mainGlobals mg->FnOk l.prog w (K w.params) mg base (CX w) k fa fd [x] (sp w))
  (hsp:∀(w:World) (H:Hp) (a:Addr) (ns:List Int),ns.length<=n->Only H->SqL (K w.params) H a (ns.map V.int)->sp w [.ref a] H (fun v _=>v=.bl true) fun _ _ _=>False)
  (hCX:∀(w:World) (H:Hp) (s:Shared) (e:Value) (s':Shared),CX w [] H s (fun _ _ _=>False) e s'->False) :
  PySem.W.WalkO q loose XP YP l.row.toRowW d [] (fun f vs=>PySem.call f vs):=by
 refine Att.attach_call hn hdf fun w s₀ s₁ mg mb fa o pm cd doc a vs ns G Y ho hd hcd hmg hobj hints hlen hg=>?_
 have KX:=hY w _ Y
 obtain⟨fd,hb,hF⟩:=F w mg fa _ KX G.T.g hmg
 exact law_call KX G.T.g G.T.b G.T.builtins G.T.nolimit hg hobj hints (Nat.le_trans hlen hn2) hr hF hb (fun H hO hS=>hsp w H a ns hlen hO hS) fun H e s'=>hCX w H s₁ e s'
def inClass(s:Stmt)(j:Nat):Stmt:=match s with
 | .ClassDef _ _ _ body _ _ _ _ _ _ _=>body.getD j (.Pass ⟨0,0,0,0⟩)
 | _=>.Pass ⟨0,0,0,0⟩
def defArgs(s:Stmt):Arguments:=match s with
 | .FunctionDef _ a _ _ _ _ _ _ _ _=>a
 | _=>{ posonlyargs:=[],args:=[],vararg:=none,kwonlyargs:=[],kw_defaults:=[],kwarg:=none,defaults:=[] }
def defBody(s:Stmt):List Stmt:=match s with
 | .FunctionDef _ _ b _ _ _ _ _ _ _=>b
 | _=>[]
def defScope(s:Stmt):Scope:=match s with
 | .FunctionDef _ _ _ _ _ _ sc _ _ _=>sc
 | _=>{ kind:=.function,names:=[],isGenerator:=false,isCoroutine:=false }
abbrev CX0:CXT:=fun _ _ _ _ _ _=>False
abbrev E0:XK:=fun _ _ _=>False
theorem pass0{X:Cx}:Passes CX0 X E0:=fun _ _ _ _ _ _ _ h=>h.elim
structure Fun(K:PySem.W.Frag)(x qual:Str)(st:Stmt)(f:Addr)(fd:FuncData):Prop where
 ex:∃(oc:Value) (od:Option Addr) (kV doc pm:Value) (an:Option Addr) (cdv ct:Value) (osl:Array (Option Value)),
  fd=PySem.W.fnOf x qual (defArgs st) (defBody st) (defScope st) .none kV doc pm an cdv ct/\K.lookup f=some ⟨oc,od,.func fd,osl⟩/\PySem.W.codeIn K cdv qual=true
 kp:PySem.W.keepIn K (.ref f)=true
section
variable {P:Program}{w:World}{K:PySem.W.Frag}{mg:Str->Option Value}{base:Heap}
theorem Fun.ok{x qual:Str}{st:Stmt}{f:Addr}{fd:FuncData}{N ps:List Str}{k:Nat}{sp:Sp}(F:Fun K x qual st f fd)(S:FnScope N ps (defScope st))(len:∀ vs H Q E,sp vs H Q E->vs.length=ps.length)
  (hbody:∀(cdv:Value) (A:Around) (outer:List Env) (s:Shared) (H:Hp) (vs:List V) (Q:VK) (E:XK),Room k (A.deeper (envOfC qual (defScope st) s.heap.objs.size f cdv))->sp vs H Q E ->
   ∃ t,PSs (cxOf CX0 P w K mg base N qual (defScope st) f cdv A outer s H E).nox (defBody st) t/\t { nx:=fun _ H'=>Q .non H',rt:=Q } (start N vs) H):FnOk P w K mg base CX0 (k+1) f fd ps sp:=by
 obtain⟨oc,od,kV,doc,pm,an,cdv,ct,osl,rfl,lk,hcd⟩:=F.ex
 refine fn_of lk hcd S len fun A outer s H vs Q E hr hsp=>?_
 obtain⟨t,h,q⟩:=hbody cdv A outer s H vs Q E hr hsp
 exact⟨t,h.nox,q⟩
theorem Fun.binds{x qual:Str}{st:Stmt}{f:Addr}{fd:FuncData}{ps:List Str}(F:Fun K x qual st f fd)
  (h:∀(kV doc pm:Value) (an:Option Addr) (cdv ct:Value) (us:List Value),us.length=ps.length->bindArgs (PySem.W.fnOf x qual (defArgs st) (defBody st) (defScope st) .none kV doc pm an cdv ct) ⟨us,[]⟩=pure (ps.zip us)):Binds K fd ps []:=by
 obtain⟨oc,od,kV,doc,pm,an,cdv,ct,osl,rfl,lk,hcd⟩:=F.ex
 exact .all (h kV doc pm an cdv ct)
theorem fun_mk{x qual:Str}{st:Stmt}{f:Addr}{oc:Value}{od an:Option Addr}{osl:Array (Option Value)}{kV doc pm cdv ct:Value}(l:K.lookup f=some ⟨oc,od,.func (PySem.W.fnOf x qual (defArgs st) (defBody st) (defScope st) .none kV doc pm an cdv ct),osl⟩)
  (c:PySem.W.codeIn K cdv qual=true) (k:PySem.W.keepIn K (.ref f)=true):Fun K x qual st f (PySem.W.fnOf x qual (defArgs st) (defBody st) (defScope st) .none kV doc pm an cdv ct):=⟨⟨oc,od,kV,doc,pm,an,cdv,ct,osl,rfl,l,c⟩,k⟩
end
section
variable {X:Cx}
theorem pv(i:Nat){x:Str}{pos:Pos}(hN:X.N[i]?=some x:=by rfl)(hv:Vis X.env.scope x:=by first | exact Or.inl rfl | exact Or.inr (Or.inl rfl) | exact Or.inr (Or.inr rfl))(hd:(x == ("__debug__" : Str))=false:=by decide)
  (hcd:(x == ("__classdict__" : Str))=false:=by decide):PE X (.Name x pos) (tVar i):=pe_var hN hv hd hcd
end
theorem iteF{A B:Prop}(h:B):if false=true then A else B:=by
 rw [if_neg Bool.false_ne_true]
 exact h
theorem ite2{c A B:Prop}[Decidable c](h1:c->A)(h2:¬ c->B):if c then A else B:=by
 by_cases h:c
 ·rw [if_pos h]
  exact h1 h
 ·rw [if_neg h]
  exact h2 h
def Same(H H':Hp):Prop:=∀ b o,H b=some o->H' b=some o
theorem Same.refl(H:Hp):Same H H:=fun _ _ h=>h
theorem Same.trans{H H1 H2:Hp}(a:Same H H1)(b:Same H1 H2):Same H H2:=fun c o h=>b c o (a c o h)
theorem Same.free{H H':Hp}(e:Same H H'){l:Addr}(h:H' l=Option.none):H l=Option.none:=by
 cases q:H l with
 | none=>rfl
 | some o =>
  rw [e l o q] at h
  cases h
theorem Same.seq{K:PySem.W.Frag}{H H':Hp}{a:Addr}{xs:List V}(e:Same H H')(h:SqL K H a xs):SqL K H' a xs:=by
 rcases h with(h | ⟨o,h⟩) | h
 ·exact .inl (.inl (e _ _ h))
 ·exact .inl (.inr ⟨o,e _ _ h⟩)
 ·exact .inr h
theorem compLoop_any{prog:Program}{w:World}{A:Around}{R:Result->Shared->Prop}{s:Shared}{elt target iter:Expr}{ifs:List Expr}{scope:Scope}{pos:Pos}{it acc:Value}{env:Env}(I:Nat->Shared->Prop)
  (turn:∀ n s,I n s->wpAny (model prog w) A (pyNext it) (fun r s1=>match r with
   | none=>R (.ok .next) s1
   | some v=>wpAny (model prog w) A (letOwnedTupleGo target it v) (fun _ s1'=>wpAny (model prog w) A (assign target env v) (fun _ s2 =>
     wpAny (model prog w) A (forIn ifs true fun c r=>if r=true then do let ok <-isTrue c env (eval c env);pure (ForInStep.yield ok) else pure (ForInStep.yield r)) (fun ok s3 =>
      if ok=true then wpAny (model prog w) A (eval elt env) (fun x s4 =>
       wpAny (model prog w) A (call (.builtin "list.append") [acc,x]) (fun _ s5=>∃ m,m<n/\I m s5) (fun _ _=>False) s4) (fun _ _=>False) s3
      else ∃ m,m<n/\I m s3) (fun _ _=>False) s2) (fun _ _=>False) s1') (fun _ _=>False) s1) (fun _ _=>False) s)
  (n:Nat) (h:I n s) :
  codeAny (model prog w) A (.compLoop (.ListComp elt [⟨target,iter,ifs,0⟩] scope pos) 0 it acc env) R s:=by
 refine codeAny_loop rfl I (fun n s hI=>?_) n h
 show wpAny _ A ((compTurn (.ListComp elt [⟨target,iter,ifs,0⟩] scope pos) 0 it acc env).onRaise (fun x=>do noteFrame x env;theTreesLotGoes x)) _ _ s
 refine wpAny_noted ?_
 rw [compTurn_list]
 refine wpAny_bind (wpAny_standAt (wpAny_bind (wpAny_mono (turn n s hI) (fun r s₁ h₁=>?_) fun _ _ h'=>h'.elim)))
 cases r with
 | none=>exact wpAny_pure h₁
 | some v =>
  refine wpAny_bind (wpAny_mono h₁ (fun _ s₁' h₁'=>?_) fun _ _ h'=>h'.elim)
  refine wpAny_bind (wpAny_mono h₁' (fun _ s₂ h₂=>wpAny_bind (wpAny_mono h₂ (fun ok s₃ h₃=>?_) fun _ _ h'=>h'.elim)) fun _ _ h'=>h'.elim)
  cases ok with
  | false=>exact wpAny_pure ⟨rfl,h₃⟩
  | true =>
   exact wpAny_bind (wpAny_bind (wpAny_mono h₃ (fun x s₄ h₄=>wpAny_bind (wpAny_mono h₄ (fun _ s₅ h₅=>wpAny_pure (wpAny_pure ⟨rfl,h₅⟩)) fun _ _ h'=>h'.elim)) fun _ _ h'=>h'.elim))
inductive Capt(X:Cx)(scope:Scope)(cl:List (Str×Addr)):List Str->List Nat->Prop
 | nil:Capt X scope cl [] []
 | cons {x:Str} {j:Nat} {xs:List Str} {js:List Nat} (h1:X.N[j]?=some x) (h2:X.env.kindOf x=some .cell\/X.env.kindOf x=some .free) (h3:cl.lookup x=X.env.cells.lookup x)
  (h4:(relabel scope X.env).names.lookup x=some .cell\/(relabel scope X.env).names.lookup x=some .free) (t:Capt X scope cl xs js):Capt X scope cl (x::xs) (j::js)
theorem Capt.get{X:Cx}{scope:Scope}{cl:List (Str×Addr)}:∀{xs:List Str} {js:List Nat},Capt X scope cl xs js->xs.length=js.length/\∀(i:Nat) (x:Str) (j:Nat),xs[i]?=some x->js[i]?=some j->X.N[j]?=some x/\(X.env.kindOf x=some .cell\/X.env.kindOf x=some .free)/\cl.lookup x=X.env.cells.lookup x /\
  ((relabel scope X.env).names.lookup x=some .cell\/(relabel scope X.env).names.lookup x=some .free)
 | _,_,.nil=>⟨rfl,fun i x j h=>by simp at h⟩
 | _,_,.cons h1 h2 h3 h4 t=>⟨by simp [t.get.1],fun i x j hx hj=>by
  cases i with
  | zero=>simp at hx hj;subst hx hj;exact⟨h1,h2,h3,h4⟩
  | succ i=>exact t.get.2 i x j (by simpa using hx) (by simpa using hj)⟩
inductive SubC(X:Cx):List (Str×Addr)->Prop
 | nil:SubC X []
 | cons {x:Str} {c:Addr} {cl:List (Str×Addr)} (h:X.env.cells.lookup x=some c) (t:SubC X cl):SubC X ((x,c)::cl)
theorem SubC.of{X:Cx}:∀{cl:List (Str×Addr)},SubC X cl->∀ x c,cl.lookup x=some c->X.env.cells.lookup x=some c
 | _,.nil,x,c,h=>by simp at h
 | _,.cons (x:=y) (c:=d) h0 t,x,c,h=>by
  rw [List.lookup_cons] at h
  cases e:x == y with
  | true =>
   rw [e] at h
   have:x=y:=by simpa using e
   subst this
   rw [h0];simpa using h
  | false=>rw [e] at h;exact t.of x c (by simpa using h)
def cxLC(X:Cx)(N':List Str)(scope:Scope)(cl:List (Str×Addr))(C:Addr)(fp:List Addr)(s2:Shared)(H2:Hp):Cx where
 prog:=X.prog
 w:=X.w
 K:=X.K
 mg:=X.mg
 base:=X.base
 A:=X.A
 N:=N'
 s₀:=s2
 H₀:=H2
 env:=compEnvC scope cl C X.env
 outer:=X.stack
 stack:=X.stack
 ex:=fp
 fn:=fun _=>false
 calm:=true
 pn:=[]
 xe:=fun _ _=>False
def startLC(k:Nat)(js:List Nat)(σ:St):St:=List.replicate k none++js.map fun j=>(σ[j]?).join
def PTs(X:Cx)(ifs:List Expr)(t:TT):Prop :=
 ∀(pins:List (Addr×Obj)) (s:Shared) (σ:St) (H:Hp) (Q:Bool->Hp->Prop),Inv X pins σ H s->t σ H Q ->
  wpAny (model X.prog X.w) X.A (forIn ifs true fun c r=>if r=true then do let ok <-isTrue c X.env (eval c X.env);pure (ForInStep.yield ok) else pure (ForInStep.yield r)) (TP X pins σ Q) X.xe s
def tTrue:TT:=fun _ H Q=>Q true H
theorem pts_nil{X:Cx}:PTs X [] tTrue:=fun _ _ _ H _ I h=>wpAny_tests_nil ⟨H,I,h⟩
def lcTurns(J:It)(D:Addr)(g:TG)(tt:TT)(te:TE)(σ0:St)(H1:Hp)(Q:VK):Prop :=
 ∃ W:Nat->Nat->St->Hp->Prop,(∃ m,W 0 m σ0 (upd H1 D (.lst [])))/\∀ i m σ H,W i m σ H ->
  (J.stop i H/\Q (.ref D) H)\/(J.go i H/\∀ x H',J.yld i H x H'->g x σ H' fun σ2 H2=>tt σ2 H2 fun b H3 =>
   if b=true then te σ2 H3 fun y H4=>∃ ys,H4 D=some (.lst ys)/\ys.length<sizeLine/\∃ m',m' < m/\W (i+1) m' σ2 (upd H4 D (.lst (ys ++ [y])))
   else ∃ m',m' < m/\W (i+1) m' σ2 H3)
def tLC(k:Nat)(js:List Nat)(wi:TI)(g:TG)(tt:TT)(te:TE):TE:=fun σ H Q=>wi σ H fun J H1=>∀ D,H1 D=none->lcTurns J D g tt te (startLC k js σ) H1 Q
section
variable {X:Cx}
theorem lc_ok{N':List Str}{scope:Scope}{cl:List (Str×Addr)}{fp:List Addr}{pins:List (Addr×Obj)}{σ:St}{H2:Hp}{s2:Shared}{C:Addr}(I:Inv X pins σ H2 s2)(hc:X.calm=true)(hkind:scope.kind=.function)(hC:s2.heap.objs.size<=C)
  (hsub:SubC X cl) (hhas:(relabel scope X.env).names.all (fun p=>(p.2 != .cell && p.2 != .free) || (cl.lookup p.1).isSome)=true)
  (hf:∀ b∈fp,FpOk X pins H2 b) (ho:∀ b∈fp,∃ o,s2.heap.get? b=some o/\∀ v,o.data ≠ .cell v):(cxLC X N' scope cl C fp s2 H2).Ok where
 mod:=I.ok.mod
 kind:=hkind
 glob:=I.ok.glob
 blt:=I.ok.blt
 above:=hC
 inj:=fun x y c h1 h2=>I.ok.inj x y c (hsub.of x c h1) (hsub.of y c h2)
 has:=fun x hx=>by
  have hx:(relabel scope X.env).names.lookup x=some .cell\/(relabel scope X.env).names.lookup x=some .free:=hx
  have key:∀ k,(relabel scope X.env).names.lookup x=some k->(k=.cell\/k=.free)->∃ c,cl.lookup x=some c:=fun k hk hkk=>by
   have hm:=PySem.mem_of_lookup hk
   have:=List.all_eq_true.mp hhas _ hm
   rcases hkk with rfl | rfl <;> exact Option.isSome_iff_exists.mp (by simpa using this)
  rcases hx with hx | hx
  ·exact key _ hx (.inl rfl)
  ·exact key _ hx (.inr rfl)
 cab:=fun x c h=>by cases h
 hd:=fun _=>I.ok.hd hc
 frames:=I.ok.frames
 stk:=.inl rfl
 exf:=fun b hb=>by
  obtain⟨o,e,_⟩:=ho b hb
  obtain⟨f0,f1,f2,f3,f4,f5⟩:=hf b hb
  exact⟨Nat.ne_of_lt (Nat.lt_of_lt_of_le (Heap.lt_size e) hC),fun x c h=>f4 x c (hsub.of x c h)⟩
 bs:=I.bs
 bsz:=Nat.le_trans I.ok.bsz I.sz
 noex:=fun b o e hb=>by
  obtain⟨f0,f1,f2,f3,f4,f5⟩:=hf b hb
  rcases f3 with z | z
  ·exact I.ok.noex b o e z
  ·exact absurd (Nat.lt_of_lt_of_le (Heap.lt_size e) (Nat.le_trans I.ok.bsz z)) (Nat.lt_irrefl _)
 exfs:=fun b hb z=>by
  obtain⟨f0,f1,f2,f3,f4,f5⟩:=hf b hb
  exact(List.mem_cons.mp (I.stkSub b z)).elim f1 f2
 funs:=I.stack
 frf:=I.stkFree
theorem lc_start{N' capt:List Str}{k:Nat}{js:List Nat}{scope:Scope}{cl:List (Str×Addr)}{fp:List Addr}{pins:List (Addr×Obj)}{σ:St}{H2:Hp}{s2:Shared}{D C:Addr}{h4:Heap}{t4:Nat}{m:Str->Option Value}(I:Inv X pins σ H2 s2)(ok:(cxLC X N' scope cl C fp s2 H2).Ok)
  (hD:s2.heap.objs.size<=D) (hC:s2.heap.objs.size<=C) (hDC:D≠C) (keep:∀ b o,s2.heap.get? b=some o->h4.get? b=some o) (hns:h4.Ns C m)
  (hl:h4.get? D=some { cls:=.type "list",data:=.seq #[] 0 })
  (hsub:SubC X cl) (hcap:Capt X scope cl capt js) (hN:N'=N'.take k++capt) (hk:k<=N'.length) :
  Inv (cxLC X N' scope cl C fp s2 H2) [] (startLC k js σ) (upd H2 D (.lst [])) { s2 with heap:=h4,toks:=t4 }:=by
 have below:∀ b o,s2.heap.get? b=some o->b≠D/\b≠C:=fun b o e=>⟨Nat.ne_of_lt (Nat.lt_of_lt_of_le (Heap.lt_size e) hD),Nat.ne_of_lt (Nat.lt_of_lt_of_le (Heap.lt_size e) hC)⟩
 have hlen:N'.length=k+capt.length:=by
  have:=congrArg List.length hN
  rw [List.length_append,List.length_take] at this
  omega
 refine⟨ok,rfl,I.bare,Un.laid keep hD (I.hok.fresh hD),⟨m,hns,fun i x v h1 h2 h3=>?_⟩,fun x c h=>?_,?_,fun x c h=>?_,fun p hp=>absurd (show p∈([]:List (Addr×Obj)) from hp) (by simp),?_,?_⟩
 ·have h1:N'[i]?=some x:=h1
  unfold startLC at h2
  by_cases hi:i<k
  ·rw [List.getElem?_append_left (by simpa using hi),List.getElem?_replicate] at h2
   rw [if_pos hi] at h2
   cases h2
  ·rw [List.getElem?_append_right (by simpa using hi),List.length_replicate,List.getElem?_map] at h2
   have hx:capt[i-k]?=some x:=by
    rw [hN,List.getElem?_append_right (by rw [List.length_take];omega),List.length_take] at h1
    rw [show min k N'.length=k by omega] at h1
    exact h1
   cases ej:js[i-k]? with
   | none=>rw [ej] at h2;cases h2
   | some j =>
    rw [ej] at h2
    have h2':(σ[j]?).join=some v:=Option.some.inj h2
    obtain⟨q1,q2,q3,q4⟩:=hcap.get.2 _ _ _ hx ej
    have hv:σ[j]?=some (some v):=by
     cases e:σ[j]? with
     | none=>rw [e] at h2';cases h2'
     | some o=>rw [e] at h2';cases o with
      | none=>cases h2'
      | some v'=>simpa using h2'
    obtain⟨m0,hn0,hl0⟩:=I.loc
    obtain⟨u,r,l⟩:=hl0 j x v q1 hv (by rcases q2 with z | z;exact .inr (.inl z);exact .inr (.inr z))
    refine⟨u,r,?_⟩
    rcases l with⟨z,_⟩ | ⟨_,c,e,o,z1,z2⟩
    ·rcases q2 with q | q <;> · rw [q] at z;cases z
    ·exact .inr ⟨q4,c,q3.trans e,o,keep c o z1,z2⟩
 ·obtain⟨v,o,z1,z2⟩:=I.cell x c (hsub.of x c h)
  exact⟨v,o,keep c o z1,z2⟩
 ·show upd H2 D (.lst []) C=none
  rw [upd_ne (Ne.symm hDC)]
  exact I.hok.fresh hC
 ·obtain⟨v,o,z1,z2⟩:=I.cell x c (hsub.of x c h)
  show upd H2 D (.lst []) c=none
  rw [upd_ne (below c o z1).1]
  exact I.freeC x c (hsub.of x c h)
 ·exact I.hok.laid keep hD ⟨Nat.zero_le _,[],0,.nil,hl⟩
 ·show(startLC k js σ).length=N'.length
  unfold startLC
  rw [List.length_append,List.length_replicate,List.length_map,hlen,hcap.get.1]
structure LCok(X:Cx)(scope:Scope)(cl:List (Str×Addr))(N' capt:List Str)(k:Nat)(js:List Nat):Prop where
 clos:closureFor scope X.env=pure cl
 cell:∀ y∈scope.names,y.2 ≠ .cell
 kind:scope.kind=.function
 names:∀ y∈scope.names,y.2=.local->scope.names.lookup y.1=some .local
 sub:SubC X cl
 has:(relabel scope X.env).names.all (fun p=>(p.2 != .cell && p.2 != .free) || (cl.lookup p.1).isSome)=true
 cap:Capt X scope cl capt js
 hN:N'=N'.take k++capt
 hk:k<=N'.length
def LcEnd(X:Cx)(pins:List (Addr×Obj))(σ:St)(Q:VK)(acc:Value)(C:Addr)(r:Result)(s':Shared):Prop :=
 ∃(f:Flow) (D:Addr) (H':Hp) (m:Str->Option Value),r=.ok f/\acc=.ref D/\Inv X pins σ H' s'/\Q (.ref D) H'/\s'.heap.Ns C m/\H' C=none/\C≠X.env.locals/\X.s₀.heap.objs.size<=C/\(∀ x c,X.env.cells.lookup x=some c->c≠C)/\∀ p∈X.pn++pins,p.1≠C
theorem LcEnd.let_go{pins:List (Addr×Obj)}{σ':St}{H':Hp}{C:Addr}{s'':Shared}{h':Heap}(I:Inv X pins σ' H' s'')(hn:H' C=none)(h1:C≠X.env.locals)(h2:X.s₀.heap.objs.size<=C)(h3:∀ x c,X.env.cells.lookup x=some c->c≠C)(h4:∀ p∈X.pn++pins,p.1≠C)
  (hs:Heap.SameBut C s''.heap h'):Inv X pins σ' H' { s'' with heap:=h' } :=
 I.turned (t':=s''.toks) (fun b o hb e=>(hs.2 b hb).trans e) hn h1 (.inr h2) h3 h4
theorem lc_block{elt tg iter:Expr}{ifs:List Expr}{scope:Scope}{pos:Pos}{cl:List (Str×Addr)}{N' capt:List Str}{k:Nat}{js:List Nat}{g:TG}{tt:TT}{te:TE}{J:It}{fp:List Addr}{tn:Nat->Heap->Prop}{it:Addr}
  {pins:List (Addr×Obj)} {σ:St} {H2:Hp} {s2:Shared} {Q:VK} {E:Value->Shared->Prop} (hc:X.calm=true) (L:LCok X scope cl N' capt k js)
  (hg:∀ C fp s2 H2,PG (cxLC X N' scope cl C fp s2 H2) tg g) (ht:∀ C fp s2 H2,PTs (cxLC X N' scope cl C fp s2 H2) ifs tt) (he:∀ C fp s2 H2,PE (cxLC X N' scope cl C fp s2 H2) elt te)
  (I2:Inv X pins σ H2 s2) (T:Turn X.prog X.w X.K tg J fp it tn) (st2:tn 0 s2.heap) (f2:∀ b∈fp,FpOk X pins H2 b) (q:∀ D,H2 D=none->lcTurns J D g tt te (startLC k js σ) H2 Q) :
  wpAny (model X.prog X.w) X.A (newList []) (fun acc s3=>wpAny (model X.prog X.w) X.A (newFunctionEnv scope X.env.globals cl [] X.env.qual none .none (some X.env)) (fun cenv s4 =>
   codeAny (model X.prog X.w) X.A (.compStart (.ListComp elt [⟨tg,iter,ifs,0⟩] scope pos) 0 (.ref it) acc { cenv with scope:=relabel scope X.env }) (LcEnd X pins σ Q acc cenv.locals) s4) E s3) E s2:=by
 refine wpAny_newObj_type (wpAny_newFunctionEnv L.cell (by intro y hy;simp at hy) (fun h₁ hns₁ hsb₁=>?_) L.kind)
 dsimp only at hns₁ hsb₁ ⊢
 generalize hH2:s2.heap.push { cls:=.type "list",dict:=none,data:=.seq ([]:List Value).toArray }=G at hns₁ hsb₁ ⊢
 have hC:G.objs.size=s2.heap.objs.size+1:=by rw [<-hH2,Heap.size_push]
 have hDC:s2.heap.objs.size≠G.objs.size:=by rw [hC];exact Nat.ne_of_lt (Nat.lt_succ_self _)
 have hCle:s2.heap.objs.size<=G.objs.size:=by rw [hC];exact Nat.le_succ _
 have below:∀ b,b<s2.heap.objs.size->b≠G.objs.size:=fun b hb=>by rw [hC];exact Nat.ne_of_lt (Nat.lt_succ_of_lt hb)
 have keep:∀ b o,s2.heap.get? b=some o->h₁.get? b=some o:=fun b o e=>hsb₁.extBut b o (below b (Heap.lt_size e)) (Heap.get?_push_of_some _ (hH2 ▸ Heap.get?_push_of_some _ e))
 have hl:h₁.get? s2.heap.objs.size=some { cls:=.type "list",data:=.seq #[] 0 }:=hsb₁.extBut _ _ hDC (Heap.get?_push_of_some _ (hH2 ▸ Heap.get?_push_size _ rfl))
 have ho2:=T.obj _ _ st2
 have ok:(cxLC X N' scope cl G.objs.size fp s2 H2).Ok:=lc_ok I2 hc L.kind hCle L.sub L.has f2 ho2
 generalize hD:s2.heap.objs.size=D at hl hDC ⊢
 generalize hCC:G.objs.size=C at hns₁ hsb₁ hDC hC hCle below ok ⊢
 have hDle:s2.heap.objs.size<=D:=by rw [hD];exact Nat.le_refl _
 have I4:Inv (cxLC X N' scope cl C fp s2 H2) [] (startLC k js σ) (upd H2 D (.lst [])) { s2 with heap:=h₁,toks:=s2.toks+([]:List (Str×Value)).length } :=
  lc_start I2 ok hDle hCle hDC keep hns₁ hl L.sub L.cap L.hN L.hk
 obtain⟨W,⟨m0,w0⟩,turn⟩:=q D (I2.hok.fresh hDle)
 have tn0:tn 0 h₁:=T.keep _ _ _ st2 fun b _ o e=>keep b o e
 have fr0:∀ b∈fp,upd H2 D (.lst []) b=none:=fun b hb=>by
  obtain⟨o,e,_⟩:=ho2 b hb
  rw [upd_ne (Nat.ne_of_lt (Nat.lt_of_lt_of_le (Heap.lt_size e) hDle))]
  exact(f2 b hb).1
 have stat:∀{H':Hp},(∀ b∈fp,H' b=none)->∀ b∈fp,FpOk (cxLC X N' scope cl C fp s2 H2) [] H' b:=fun hn b hb=>by
  refine⟨hn b hb,(ok.exf b hb).1,ok.exfs b hb,.inl hb,(ok.exf b hb).2,fun p hp=>absurd (show p∈([]:List (Addr×Obj)) from hp) (by simp)⟩
 have loop:∀ s₃:Shared,s₃ = { s2 with heap:=h₁,toks:=s2.toks+([]:List (Str×Value)).length } ->
   codeAny (model X.prog X.w) X.A (.compLoop (.ListComp elt [⟨tg,iter,ifs,0⟩] scope pos) 0 (.ref it) (.ref D) (compEnvC scope cl C X.env)) (LcEnd X pins σ Q (.ref D) C) s₃:=by
  rintro s₃ rfl
  refine compLoop_any (fun n s'=>∃ i σ' H',Inv (cxLC X N' scope cl C fp s2 H2) [] σ' H' s'/\tn i s'.heap/\(∀ b∈fp,H' b=none)/\W i n σ' H') ?_ m0 ⟨0,_,_,I4,tn0,fr0,w0⟩
  rintro n s3 ⟨i,σ3,H3,I3,st3,fr3,w3⟩
  rcases turn i n σ3 H3 w3 with⟨stop,qn⟩ | ⟨go,step⟩
  ·refine thn (T.done (cxLC X N' scope cl C fp s2 H2) rfl rfl rfl rfl i [] s3 σ3 H3 (fun _ _=>False) I3 (stat fr3) st3 stop) fun r s4 ⟨hr,J4⟩=>?_
   subst hr
   obtain⟨m,hn,_⟩:=id J4.loc
   have hs:X.s₀.heap.objs.size<=C:=Nat.le_trans I2.sz hCle
   refine⟨.next,D,H3,m,rfl,rfl,I2.call' (ch:=fp) J4.os J4.base J4.hok J4.bare (fun b hb=>?_),qn,hn,J4.free,fun z=>?_,hs,fun x c h z=>?_,fun p hp z=>?_⟩
   ·obtain⟨f0,f1,f2',f3,f4,f5⟩:=f2 b hb
    exact⟨f3,f1,f4,f5⟩
   ·have:=I2.lt
    rw [<-z] at this
    exact absurd (Nat.lt_of_lt_of_le this hCle) (Nat.lt_irrefl _)
   ·obtain⟨v,o,z1,_⟩:=I2.cell x c h
    have:=Heap.lt_size z1
    rw [z] at this
    exact absurd (Nat.lt_of_lt_of_le this hCle) (Nat.lt_irrefl _)
   ·have:=Heap.lt_size (I2.pin p hp).1
    rw [z] at this
    exact absurd (Nat.lt_of_lt_of_le this hCle) (Nat.lt_irrefl _)
  ·refine thn (T.item (cxLC X N' scope cl C fp s2 H2) rfl rfl rfl rfl i [] s3 σ3 H3 (fun _ _=>False) I3 (stat fr3) st3 go) fun r s4 ⟨u,hr,h4⟩=>?_
   subst hr
   refine thn h4 fun _ s5 ⟨x,H5,I5,r5,y5,st5,fr5⟩=>?_
   have I5':=I5.pinned (stat fr5) (T.obj _ _ st5)
   refine thn (hg C fp s2 H2 _ s5 σ3 H5 x u _ I5' r5 (step x H5 y5)) fun _ s6 ⟨σ6,H6,I6,q6⟩=>?_
   refine thn (ht C fp s2 H2 _ s6 σ6 H6 _ I6 q6) fun ok s7 ⟨H7,I7,q7⟩=>?_
   have again:∀{H8:Hp} {s8:Shared},Inv (cxLC X N' scope cl C fp s2 H2) ([]++pinsAt fp s5.heap) σ6 H8 s8->(∃ m',m' < n/\W (i+1) m' σ6 H8)->∃ m,m<n/\∃ i σ' H',Inv (cxLC X N' scope cl C fp s2 H2) [] σ' H' s8/\tn i s8.heap/\(∀ b∈fp,H' b=none)/\W i m σ' H':=fun{H8 s8} I8 n8=>by
    obtain⟨m',hm,w8⟩:=n8
    refine⟨m',hm,i+1,σ6,H8,I8.unpinned,T.keep _ _ _ st5 fun b hb o e=>(I8.pin (b,o) (List.mem_append_right _ (List.mem_append_right _ (mem_pinsAt hb e)))).1,fun b hb=>?_,w8⟩
    obtain⟨o,e,d⟩:=T.obj _ _ st5 b hb
    exact(I8.pin (b,o) (List.mem_append_right _ (List.mem_append_right _ (mem_pinsAt hb e)))).2.1
   cases ok with
   | false =>
    rw [if_neg Bool.false_ne_true] at q7
    exact again I7 q7
   | true =>
    rw [if_pos rfl] at q7
    refine thn (he C fp s2 H2 _ s7 σ6 H7 _ I7 q7) fun y s8 ⟨v8,H8,I8,r8,q8⟩=>?_
    obtain⟨ys,e8,z8,w8⟩:=q8
    refine thn (mt_append (X:=cxLC X N' scope cl C fp s2 H2) _ s8 σ6 H8 (.ref D) [v8] (.ref D) [y] (fun v H=>∃ m',m' < n/\W (i+1) m' σ6 H) I8 rfl (.cons r8 .nil) ⟨D,ys,v8,rfl,rfl,e8,z8,w8⟩) fun _ s9 ⟨v9,H9,I9,_,w9⟩=>?_
    exact again I9 w9
 exact codeAny_compStart_list (loop _ rfl) (T.self _ 0 _ _ _ tn0 (loop _ rfl))
theorem pe_lc{elt tg iter:Expr}{ifs:List Expr}{scope:Scope}{pos:Pos}{cl:List (Str×Addr)}{N' capt:List Str}{k:Nat}{js:List Nat}{wi:TI}{g:TG}{tt:TT}{te:TE}(hc:X.calm=true)(L:LCok X scope cl N' capt k js)
  (hi:PI X tg iter wi) (hg:∀ C fp s2 H2,PG (cxLC X N' scope cl C fp s2 H2) tg g) (ht:∀ C fp s2 H2,PTs (cxLC X N' scope cl C fp s2 H2) ifs tt) (he:∀ C fp s2 H2,PE (cxLC X N' scope cl C fp s2 H2) elt te)
  (hs:∀ x,foldedSetIterable iter X.env x=pure x:=by intro _;rfl):PE X (.ListComp elt [⟨tg,iter,ifs,0⟩] scope pos) (tLC k js wi g tt te):=by
 intro pins s σ H Q I h
 rw [eval_ListComp]
 refine wpAny_comprehension_free (use:=none) rfl hs L.clos L.kind L.names (thn (hi pins s σ H _ I h) fun v s1 h1=>thn h1 fun itv s2 h2=>?_)
 obtain⟨it,fp,tn,J,H2,e,I2,T,st2,f2,q⟩:=h2
 subst e
 refine thn (lc_block (E:=X.xe) hc L hg ht he I2 T st2 f2 q) fun acc s3 h3=>thn h3 fun cenv s4 h4=>codeAny_mono h4 fun r s' hr=>?_
 obtain⟨f,D,H',m,rfl,rfl,J',qq,hn,b1,b2,b3,b4,b5⟩:=hr
 exact⟨m,hn,fun h' hsb=>⟨.ref D,H',LcEnd.let_go J' b1 b2 b3 b4 b5 hsb,rfl,qq⟩⟩
theorem ps_setLC{i:Nat}{x:Str}{elt tg iter:Expr}{ifs:List Expr}{scope:Scope}{pos pos' spos:Pos}{cl:List (Str×Addr)}{N' capt:List Str}{k:Nat}{js:List Nat}{wi:TI}{g:TG}{tt:TT}{te:TE}(hN:X.N.Nodup)(hi':X.N[i]?=some x)(hx:Loc X.env.scope x)(hc:X.calm=true)(L:LCok X scope cl N' capt k js)
  (hi:PI X tg iter wi) (hg:∀ C fp s2 H2,PG (cxLC X N' scope cl C fp s2 H2) tg g) (ht:∀ C fp s2 H2,PTs (cxLC X N' scope cl C fp s2 H2) ifs tt) (he:∀ C fp s2 H2,PE (cxLC X N' scope cl C fp s2 H2) elt te)
  (hsw:swapsWith (.ListComp elt [⟨tg,iter,ifs,0⟩] scope pos) (some (.Name x pos')) spos.line X.env=pure true:=by rfl)
  (hs:∀ x,foldedSetIterable iter X.env x=pure x:=by intro _;rfl) (hf:X.fn x=true\/X.env.scope.names.lookup x=some .local:=by first | exact .inl rfl | exact .inr rfl | assumption):PS X (.Assign [.Name x pos'] (.ListComp elt [⟨tg,iter,ifs,0⟩] scope pos) spos) (tAsg (tLC k js wi g tt te) (gName i)):=by
 intro pins s σ H D I h
 have h:tLC k js wi g tt te σ H (fun v H1=>D.nx (σ.set i (some v)) H1):=h
 rw [exec_Assign_Name_used _ _ _ _ hsw]
 refine wpAny_bind (wpAny_standAt (wpAny_bind ?_))
 show wpAny _ X.A (do let _ <-comprehension (.ListComp elt [⟨tg,iter,ifs,0⟩] scope pos) scope X.env _ (newList []) false (eval iter X.env) (some (assign (.Name x pos') X.env))) _ _ s
 refine wpAny_bind (wpAny_mono (wpAny_comprehension_free (use:=some (assign (.Name x pos') X.env)) (Q:=fun _ s'=>SP X pins D .next s') rfl hs L.clos L.kind L.names
  (thn (hi pins s σ H _ I h) fun v s1 h1=>thn h1 fun itv s2 h2=>?_)) (fun _ s' hq=>wpAny_pure (wpAny_pure hq)) fun _ _ e=>e)
 obtain⟨it,fp,tn,J,H2,e,I2,T,st2,f2,q⟩:=h2
 subst e
 refine thn (lc_block (E:=X.xe) hc L hg ht he I2 T st2 f2 q) fun acc s3 h3=>thn h3 fun cenv s4 h4=>codeAny_mono h4 fun r s' hr=>?_
 obtain⟨f,D',H',m,rfl,rfl,J',qq,hn,b1,b2,b3,b4,b5⟩:=hr
 show wpAny _ X.A (assign (.Name x pos') X.env (.ref D')) _ _ _
 refine wpAny_assign_Name (store_ok2 (v:=.ref D') J' hN hi' hx rfl (fun s'' J'' hsb=>?_) hf)
 obtain⟨a,hsb,ha⟩:=hsb
 have hne:cenv.locals≠a:=by
  rcases ha with z | z
  ·rw [z];exact b2
  ·exact fun z'=>b4 x a z z'.symm
 exact⟨m,hn.sameBut hsb hne,fun h' hs'=>⟨_,H',LcEnd.let_go J'' b1 b2 b3 b4 b5 hs',qq⟩⟩
end
section
variable {X:Cx}{pins:List (Addr×Obj)}{σ:St}{H:Hp}{s:Shared}
theorem Inv.turnedNew{ch:List Addr}{p:Addr}{o:HO}{h':Heap}{t':Nat}(I:Inv X pins σ H s)(hch:∀ b∈ch,FpOk X pins H b)(hp:s.heap.objs.size<=p)
  (k:∀ b u,b∉ch->s.heap.get? b=some u->h'.get? b=some u) (new:ObjOk X.prog X.w (upd H p o) h' p o):Inv X pins σ (upd H p o) { s with heap:=h',toks:=t' }:=by
 have hn:=I.hok.fresh hp
 have nch:∀ b u,H b=some u->b∉ch:=fun b u e z=>by rw [(hch b z).1] at e;cases e
 refine I.step (g':=s.gens) (d':=s.drawn) (ch:=ch) (fun b hb=>?_) (fun b u _ _ hc e _=>k b u hc e) (fun b u _ _ hc e _=>⟨u.slots,k b u hc e⟩) (fun b u hc e n=>?_) (fun b u hc e=>⟨u,k b u hc e⟩)
  (fun b xs e=>by rw [upd_ne (ne_of_none e hn)];exact e) (fun b u xs e=>by rw [upd_ne (ne_of_none e hn)];exact e) (fun b ps e=>⟨#[],by rw [upd_ne (ne_of_none e hn),e];simp⟩) (fun m hm=>?_) (fun b u e=>?_) I.bare
 ·obtain⟨f0,f1,f2,f3,f4,f5⟩:=hch b hb
  exact⟨f3,f1,f4,f5⟩
 ·rw [upd_ne (Nat.ne_of_lt (Nat.lt_of_lt_of_le (Heap.lt_size e) hp))];exact n
 ·obtain⟨o',es,ep,ho,r⟩:=hm
  exact⟨o',es,ep,k _ o' (fun z=>(hch _ z).2.1 rfl) ho,r⟩
 ·by_cases hb:b=p
  ·subst hb
   rw [upd_same] at e
   cases e
   exact new
  ·rw [upd_ne hb] at e
   refine(I.hok b u e).stay (fun c v hc q=>k c v ?_ q) (fun c q=>by rw [upd_ne (ne_of_none q hn)];exact q) (fun c xs q=>by rw [upd_ne (ne_of_none q hn)];exact q) (fun c _ _ q=>by rw [upd_ne (ne_of_none q hn)];exact q)
   rcases hc with z | z
   ·rw [z];exact nch b u e
   ·exact nch c _ z
theorem Inv.turnedL{ch:List Addr}{h':Heap}{t':Nat}(I:Inv X pins σ H s)(hch:∀ b∈ch,FpOk X pins H b)
  (k:∀ b u,b∉ch->s.heap.get? b=some u->h'.get? b=some u):Inv X pins σ H { s with heap:=h',toks:=t' }:=by
 have nch:∀ b u,H b=some u->b∉ch:=fun b u e z=>by rw [(hch b z).1] at e;cases e
 refine I.step (g':=s.gens) (d':=s.drawn) (ch:=ch) (fun b hb=>?_) (fun b u _ _ hc e _=>k b u hc e) (fun b u _ _ hc e _=>⟨u.slots,k b u hc e⟩) (fun b u hc e n=>n) (fun b u hc e=>⟨u,k b u hc e⟩)
  (fun b xs e=>e) (fun b u xs e=>e) (fun b ps e=>⟨#[],by rw [e];simp⟩) (fun m hm=>?_) (fun b u e=>?_) I.bare
 ·obtain⟨f0,f1,f2,f3,f4,f5⟩:=hch b hb
  exact⟨f3,f1,f4,f5⟩
 ·obtain⟨o',es,ep,ho,r⟩:=hm
  exact⟨o',es,ep,k _ o' (fun z=>(hch _ z).2.1 rfl) ho,r⟩
 ·refine(I.hok b u e).stay (fun c v hc q=>k c v ?_ q) (fun c q=>q) fun c xs q=>q
  rcases hc with z | z
  ·rw [z];exact nch b u e
  ·exact nch c _ z
end
section
variable {X:Cx}
theorem range_all{bs:List Bool}{its:List Value}(r:Vals (bs.map V.bl) its):(List.range its.toArray.size).all (fun i=>bs.getD i true)=bs.all id:=by
 have hl:its.toArray.size=bs.length:=by have:=r.length;simp at this ⊢;omega
 rw [hl]
 clear hl r
 apply Bool.eq_iff_iff.mpr
 simp only [List.all_eq_true,List.mem_range,id]
 constructor
 ·intro h b hb
  obtain⟨i,hi,e⟩:=List.getElem_of_mem hb
  have:=h i hi
  simp [List.getD,hi,e] at this
  exact this
 ·intro h i hi
  simp only [List.getD,List.getElem?_eq_getElem hi,Option.getD_some]
  exact h _ (List.getElem_mem hi)
theorem bools_at{bs:List Bool}{its:List Value}(r:Vals (bs.map V.bl) its)(i:Nat)(v:Value)(h:its.toArray[i]?=some v):v=.bool (bs.getD i true):=by
 have h':its[i]?=some v:=by simpa using h
 have hi:i<its.length:=(List.getElem?_eq_some_iff.mp h').1
 have hb:i<bs.length:=by have:=r.length;simp at this;omega
 obtain⟨u,hu,ru⟩:=r.get (i:=i) (x:=.bl bs[i]) (by simp [hb])
 rw [h'] at hu
 cases hu
 have ru:v=.bool bs[i]:=ru
 rw [ru]
 simp [List.getD,hb]
theorem iter_list{A:Around}{E:Value->Shared->Prop}{s:Shared}{l:Addr}{its:Array Value}{Q:Value->Shared->Prop}{prog:Program}{w:World}(hl:s.heap.IsList l its)
  (h:∀ s2:Shared,s2 = { s with heap:=s.heap.push { cls:=.type "list_iterator",data:=.fields #[.ref l,.int 0 0] } } ->
   (s2.heap.IsListIter s.heap.objs.size l 0/\s2.heap.IsList l its)->l≠s.heap.objs.size->Q (.ref s.heap.objs.size) s2) :
  wpAny (model prog w) A (pyIter (.ref l)) Q E s:=by
 have hlt:l<s.heap.objs.size:=by obtain⟨_,e,_⟩:=hl;exact Heap.lt_size e
 exact wpAny_pyIter_list hl (h _ rfl ⟨⟨_,Heap.get?_push_size _ rfl,rfl,rfl⟩,hl.push _⟩ (Nat.ne_of_lt hlt))
theorem call_all(hc:X.calm=true):CallR X (.builtin "all") (fun xs H Q=>∃(p:Addr) (bs:List Bool),xs = [.ref p]/\SqL X.K H p (bs.map V.bl)/\Q (.bl (bs.all id)) H):=by
 intro pins s σ H xs us Q I rv h
 obtain⟨p,bs,rfl,hq,q⟩:=h
 obtain⟨u,rfl,r1⟩:=rv.one
 cases r1
 obtain⟨its,rvs,pl,hz⟩:=I.list hq
 refine call_all_walk (iter_list pl.isList fun s2 e st hne=>?_)
 subst e
 refine⟨_,_,_,_,_,_,fun i=>bs.getD i true,rfl,Walks.list (A:=X.A.in1) (I.ok.hd hc) _ p hne its.toArray,st,fun i v s Q E hP hQ=>?_,fun h' tk hk=>?_⟩
 ·rw [bools_at rvs i v hP]
  exact wpAny_truthy_bool hQ
 ·rw [range_all rvs]
  refine⟨.bl (bs.all id),H,I.kept (fun b o e=>hk b o (fun z=>?_) (Heap.get?_push_of_some _ e)),rfl,q⟩
  rw [List.mem_singleton.mp z] at e
  exact Nat.lt_irrefl _ (Heap.lt_size e)
def CDivW(i j:Int):Prop:=0<j/\j<10000000000000000000000000000000000000000000000000000000000000
theorem op_fdivW:OpR X (binaryOp .FloorDiv) (rI CDivW fun i j=>.int (i / j)):=opI fun i j _ _ _ _ _ hc q=>by
 have h0:j≠0:=by have:=hc.1;omega
 have e:i.fdiv j=i / j:=Int.fdiv_eq_ediv_of_nonneg i (by have:=hc.1;omega)
 refine floordiv_int h0 (by rw [e];exact q) (.inl (PyProof.noPylong_of_log2 ?_))
 have h1:j.natAbs<2 ^ 400:=Nat.lt_of_lt_of_le (show j.natAbs<10000000000000000000000000000000000000000000000000000000000000 by have h1:=hc.1;have h2:=hc.2;omega) (by decide +kernel)
 have h2:j.natAbs≠0:=by omega
 exact Nat.lt_of_lt_of_le ((Nat.log2_lt h2).mpr h1) (by decide)
end
def Callee(P:Program)(w:World)(K:PySem.W.Frag)(mg:Str->Option Value)(base:Heap)(k:Nat)(x:Str)(ps:List Str)(sp:Sp):Prop :=
 ∃ f fd,FnOk P w K mg base CX0 k f fd ps sp/\Binds K fd ps []/\PySem.W.keepIn K (.ref f)=true/\mg x=some (.ref f)
theorem pe_callC{X:Cx}{k k':Nat}{x:Str}{ps:List Str}{sp:Sp}{e:Expr}{es:List Expr}{t:TA}{p pos:Pos}(C:Callee X.prog X.w X.K X.mg X.base k x ps sp)(hr:Room k' X.A)(hg:Gl X x)(ha:PA X (e::es) t)(hk:k<=k':=by decide)
  (hdb:(x == ("__debug__" : Str))=false:=by decide) (he:starEach (e::es) X.env=(false,eval e X.env)::starEach es X.env:=by rfl) (hpl:(backTo pos (starEach es X.env)).any (·.1)=false:=by rfl) :
  PE X (.Call (.Name x p) (e::es) [] pos) (tCall sp [] E0 t):=by
 intro pins s σ H Q I h
 obtain⟨f,fd,F,b,kp,m⟩:=C
 exact pe_call F (hr.mono hk) hg m kp b .nil pass0 ha hdb he hpl pins s σ H Q I h
def But(p:Addr)(H H':Hp):Prop:=∀ b o,b≠p->H b=some o->H' b=some o
theorem But.refl(p:Addr)(H:Hp):But p H H:=fun _ _ _ h=>h
theorem But.trans{p:Addr}{H H1 H2:Hp}(a:But p H H1)(b:But p H1 H2):But p H H2:=fun c o n h=>b c o n (a c o n h)
theorem But.of_same{p:Addr}{H H':Hp}(h:Same H H'):But p H H':=fun b o _ q=>h b o q
theorem But.write{p:Addr}{H:Hp}{o:HO}:But p H (upd H p o):=fun b u n q=>by rw [upd_ne n];exact q
theorem Same.but{p:Addr}{H H1 H2:Hp}(a:Same H H1)(hp:H p=none)(b:But p H1 H2):Same H H2:=fun c o h=>b c o (ne_of_none h hp) (a c o h)
theorem same_new{H:Hp}{p:Addr}(h:H p=none)(o:HO):Same H (upd H p o):=fun b u q=>by rw [upd_ne (ne_of_none q h)];exact q
def Pen(H:Hp)(p:Addr):Prop:=∃ a b c:Int,H p=some (.lst [.int a,.int b,.int c])
theorem small{n:Nat}(h:n<=10000):n<sizeLine:=Nat.lt_of_le_of_lt h (by decide)
theorem small'{n:Nat}(h:n<=10000):n<=sizeLine:=Nat.le_of_lt (small h)
theorem atI_of{α:Type}{xs:List α}{k:Int}(h0:0<=k)(h1:k<xs.length):∃ v,atI xs k=some v/\xs[k.toNat]?=some v:=by
 have hk:k.toNat<xs.length:=by omega
 have ek:k=((k.toNat:Nat):Int):=by omega
 have q:atI xs ((k.toNat:Nat):Int)=some xs[k.toNat]:=atI_nat (List.getElem?_eq_getElem hk)
 rw [<-ek] at q
 exact⟨_,q,List.getElem?_eq_getElem hk⟩
def NextLC(n i:Nat)(D:Addr)(Wv:Nat->St->Hp->Prop)(σ2:St)(y:V)(H4:Hp):Prop :=
 ∃ ys,H4 D=some (.lst ys)/\ys.length<sizeLine/\∃ m',m' < n-i/\(m'=n-(i+1)/\i+1<=n/\Wv (i+1) σ2 (upd H4 D (.lst (ys ++ [y]))))
def SkipLC(n i:Nat)(Wv:Nat->St->Hp->Prop)(σ2:St)(H3:Hp):Prop:=∃ m',m' < n-i/\(m'=n-(i+1)/\i+1<=n/\Wv (i+1) σ2 H3)
theorem NextLC.mk{n i:Nat}{D:Addr}{Wv:Nat->St->Hp->Prop}{σ2:St}{y:V}{H4:Hp}(hi:i<n){ys:List V}(e:H4 D=some (.lst ys))(z:ys.length<=10000)(w:Wv (i+1) σ2 (upd H4 D (.lst (ys ++ [y])))):NextLC n i D Wv σ2 y H4 :=
 ⟨ys,e,small z,n-(i+1),by omega,rfl,hi,w⟩
theorem SkipLC.mk{n i:Nat}{Wv:Nat->St->Hp->Prop}{σ2:St}{H3:Hp}(hi:i<n)(w:Wv (i+1) σ2 H3):SkipLC n i Wv σ2 H3:=⟨n-(i+1),by omega,rfl,hi,w⟩
section
variable {prog:Program}{w:World}{A:Around}{E:Value->Shared->Prop}{s:Shared}
theorem tnext_item{it t:Addr}{i:Nat}{xs:Array Value}{x:Value}{Q:Value->Shared->Prop}(hi:s.heap.IsTupleIter it t i)(ht:s.heap.IsTuple t xs)(hx:xs[i]?=some x)
  (q:∀ h',h'.IsTupleIter it t (i+1)->Heap.SameBut it s.heap h'->Q x { s with heap:=h' }):wpAny (model prog w) A (Builtin.SmallTypes.nextOf (.ref it)) Q E s:=by
 obtain⟨oi,e1,c1,d1⟩:=id hi
 obtain⟨ot,e2,c2,n2,d2⟩:=id ht
 unfold Builtin.SmallTypes.nextOf
 refine wpAny_bind (wpAny_callSpecial?_slot (name:=Str.ofString "__next__") hi.typeIs F.slot_tuple_iterator_next (wpAny_call_entry F.slot_tuple_iterator_next hi.typeIs F.entry_tuple_iterator_next (show wpAny _ _ (field (.ref it) 0 >>= _) _ _ s from wpAny_bind (wpAny_field e1 d1 (x:=.ref t) rfl ?_)) (F.args_tuple_iterator_next_1 _)))
 show wpAny _ _ (if (Value.ref t == Value.none)=true then _ else _) _ _ s
 rw [if_neg (fun z:(Value.ref t == Value.none)=true=>Bool.false_ne_true z)]
 refine(show wpAny _ _ (field (.ref it) 1 >>= _) _ _ s from wpAny_bind (wpAny_field e1 d1 (x:=.int i 0) rfl (show wpAny _ _ (seqItems? (.ref t) >>= _) _ _ s from wpAny_bind (wpAny_seqItems e2 d2 ?_))))
 simp only [hx,Int.toNat_natCast]
 refine wpAny_bind (wpAny_setField e1 d1 (by simp) (wpAny_pure ⟨x,rfl,wpAny_pure (q _ ⟨_,Heap.get?_update_self _ e1 (Obj.isFreed_of_fields (Obj.data_mapFields d1 _)),(Obj.cls_mapFields ..).trans c1,?_⟩ (Heap.SameBut.update ..))⟩))
 rw [Obj.data_mapFields d1]
 simp [rawInt]
theorem tnext_end{it t:Addr}{i:Nat}{xs:Array Value}{Q:Value->Shared->Prop}(hh:A.handled=none)(hi:s.heap.IsTupleIter it t i)(ht:s.heap.IsTuple t xs)(hx:xs[i]?=none)
  (q:∀ h' e,Heap.ExtBut it s.heap h'->(∃ o,h'.get? e=some o/\o.cls=.type "StopIteration")->E (.ref e) { s with heap:=h' }):wpAny (model prog w) A (Builtin.SmallTypes.nextOf (.ref it)) Q E s:=by
 obtain⟨oi,e1,c1,d1⟩:=id hi
 obtain⟨ot,e2,c2,n2,d2⟩:=id ht
 unfold Builtin.SmallTypes.nextOf
 refine wpAny_bind (wpAny_callSpecial?_slot (name:=Str.ofString "__next__") hi.typeIs F.slot_tuple_iterator_next (wpAny_call_entry F.slot_tuple_iterator_next hi.typeIs F.entry_tuple_iterator_next (show wpAny _ _ (field (.ref it) 0 >>= _) _ _ s from wpAny_bind (wpAny_field e1 d1 (x:=.ref t) rfl ?_)) (F.args_tuple_iterator_next_1 _)))
 show wpAny _ _ (if (Value.ref t == Value.none)=true then _ else _) _ _ s
 rw [if_neg (fun z:(Value.ref t == Value.none)=true=>Bool.false_ne_true z)]
 refine(show wpAny _ _ (field (.ref it) 1 >>= _) _ _ s from wpAny_bind (wpAny_field e1 d1 (x:=.int i 0) rfl (show wpAny _ _ (seqItems? (.ref t) >>= _) _ _ s from wpAny_bind (wpAny_seqItems e2 d2 ?_))))
 simp only [hx,Int.toNat_natCast]
 refine wpAny_bind (wpAny_rule (wpAny_bind (wpAny_setField e1 d1 (by simp) (show wpAny _ _ (newExc (.type "StopIteration") [] >>= _) _ _ _ from wpAny_bind ?_))))
 simp only [newTuple,newExc]
 refine wpAny_bind (wpAny_newObj_type (wpAny_bind (m:=firstArgMember _ _) (wpAny_of_eq (a:=Value.none) (by first | rfl | (simp only [firstArgMember];rfl)) (wpAny_newObj_type ?_ (by size_fits)))) (by size_fits))
 simp only [raiseNew]
 refine wpAny_bind (wpAny_handled ?_)
 first | (rw [hh]) | (rw [show A.in1.handled=none from hh])
 exact wpAny_bind (wpAny_pure (wpAny_throw (q _ _ (((Heap.SameBut.update ..).extBut.push _).push _) ⟨_,Heap.get?_push_size _ rfl,rfl⟩)))
end
def zIt(b:Bool)(h:Heap)(it l:Addr)(i:Nat):Prop:=if b=true then h.IsTupleIter it l i else h.IsListIter it l i
def zSq(b:Bool)(h:Heap)(l:Addr)(xs:Array Value):Prop:=if b=true then h.IsTuple l xs else h.IsList l xs
def zOb(b:Bool)(l:Addr):Obj:={ cls:=.type (if b=true then "tuple_iterator" else "list_iterator"),data:=.fields #[.ref l,.int 0 0] }
theorem zIt.at{b:Bool}{h h':Heap}{it l:Addr}{i:Nat}(x:zIt b h it l i)(e:∀ o,h.get? it=some o->h'.get? it=some o):zIt b h' it l i:=by
 cases b
 ·exact Heap.IsListIter.at (show h.IsListIter it l i from x) e
 ·exact Heap.IsTupleIter.at (show h.IsTupleIter it l i from x) e
theorem zIt.but{b:Bool}{h h':Heap}{it l c:Addr}{i:Nat}(x:zIt b h it l i)(e:Heap.ExtBut c h h')(n:it≠c):zIt b h' it l i:=x.at fun o q=>e it o n q
theorem zSq.but{b:Bool}{h h':Heap}{l c:Addr}{xs:Array Value}(x:zSq b h l xs)(e:Heap.ExtBut c h h')(n:l≠c):zSq b h' l xs:=by
 cases b
 ·exact Heap.IsList.extBut (show h.IsList l xs from x) e n
 ·exact Heap.IsTuple.extBut (show h.IsTuple l xs from x) e n
theorem zSq.push{b:Bool}{h:Heap}{l:Addr}{xs:Array Value}(x:zSq b h l xs)(o:Obj):zSq b (h.push o) l xs:=by
 cases b
 ·exact Heap.IsList.push (show h.IsList l xs from x) o
 ·exact Heap.IsTuple.push (show h.IsTuple l xs from x) o
theorem zSq.lt{b:Bool}{h:Heap}{l:Addr}{xs:Array Value}(x:zSq b h l xs):l<h.objs.size:=by
 cases b
 ·obtain⟨o,e,_⟩:=(show h.IsList l xs from x)
  exact Heap.lt_size e
 ·obtain⟨o,e,_⟩:=(show h.IsTuple l xs from x)
  exact Heap.lt_size e
theorem zIt.own{b:Bool}{h:Heap}{it l:Addr}{i:Nat}(x:zIt b h it l i):∃ o,h.get? it=some o/\∀ v,o.data ≠ .cell v:=by
 cases b
 ·obtain⟨o,e,c,d⟩:=(show h.IsListIter it l i from x)
  exact⟨o,e,fun v q=>by rw [d] at q;cases q⟩
 ·obtain⟨o,e,c,d⟩:=(show h.IsTupleIter it l i from x)
  exact⟨o,e,fun v q=>by rw [d] at q;cases q⟩
section
variable {prog:Program}{w:World}{A:Around}{E:Value->Shared->Prop}{s:Shared}
theorem znext_item{b:Bool}{it l:Addr}{i:Nat}{xs:Array Value}{x:Value}{Q:Value->Shared->Prop}(hi:zIt b s.heap it l i)(hl:zSq b s.heap l xs)(hx:xs[i]?=some x)
  (q:∀ h',zIt b h' it l (i+1)->Heap.SameBut it s.heap h'->Q x { s with heap:=h' }):wpAny (model prog w) A (Builtin.SmallTypes.nextOf (.ref it)) Q E s:=by
 cases b
 ·exact wpAny_nextOf_list_item hi hl hx q
 ·exact tnext_item hi hl hx q
theorem znext_end{b:Bool}{it l:Addr}{i:Nat}{xs:Array Value}{Q:Value->Shared->Prop}(hh:A.handled=none)(hi:zIt b s.heap it l i)(hl:zSq b s.heap l xs)(hx:xs[i]?=none)
  (q:∀ h' e,Heap.ExtBut it s.heap h'->(∃ o,h'.get? e=some o/\o.cls=.type "StopIteration")->E (.ref e) { s with heap:=h' }):wpAny (model prog w) A (Builtin.SmallTypes.nextOf (.ref it)) Q E s:=by
 cases b
 ·exact wpAny_nextOf_list_end hh hi hl hx q
 ·exact tnext_end hh hi hl hx q
theorem ziter{b:Bool}{l:Addr}{xs:Array Value}(hl:zSq b s.heap l xs){Q:Value->Shared->Prop}(q:Q (.ref s.heap.objs.size) { s with heap:=s.heap.push (zOb b l) }):wpAny (model prog w) A (pyIter (.ref l)) Q E s:=by
 cases b
 ·exact wpAny_pyIter_list hl q
 ·exact wpAny_pyIter_tuple hl q
theorem zipG_item{b1 b2:Bool}{z TI TO i1 i2 l1 l2:Addr}{k1 k2:Nat}{xs ys:Array Value}{x y a b:Value}{Q:Value->Shared->Prop}(D:ZipApart z TI TO i1 i2 l1 l2)(hz:IsZip s.heap z TI TO .none)(hI:IsPair s.heap TI (.ref i1) (.ref i2))(hO:IsPair s.heap TO a b)
  (h1:zIt b1 s.heap i1 l1 k1) (h2:zIt b2 s.heap i2 l2 k2) (q1:zSq b1 s.heap l1 xs) (q2:zSq b2 s.heap l2 ys) (hx:xs[k1]?=some x) (hy:ys[k2]?=some y)
  (q:∀ h',IsZip h' z TI TO (rawInt s.heap.objs.size)->IsPair h' TO x y->zIt b1 h' i1 l1 (k1+1)->zIt b2 h' i2 l2 (k2+1)->IsPair h' s.heap.objs.size x y->h'.objs.size=s.heap.objs.size+1 ->
   (∀ c o,c≠z->c≠TO->c≠i1->c≠i2->s.heap.get? c=some o->h'.get? c=some o)->Q (.ref s.heap.objs.size) { s with heap:=h' }) :
  wpAny (model prog w) A (Builtin.«zip.__next__» ⟨[.ref z],[]⟩) (fun fin s'=>∃ v,fin=.done (.ret v)/\Q v s') E s:=by
 refine(show wpAny _ _ (field (.ref z) 2 >>= _) _ _ _ from wpAny_bind (wpAny_field hz rfl (x:=.bool false) rfl (show wpAny _ _ (field (.ref z) 3 >>= _) _ _ _ from wpAny_bind (wpAny_field hz rfl (x:=.ref TI) rfl (wpAny_bind (wpAny_seqItems hI rfl (show wpAny _ _ (Builtin.SmallTypes.ownedTupleIsFree (.ref z) >>= _) _ _ _ from wpAny_bind ?_)))))))
 unfold Builtin.SmallTypes.ownedTupleIsFree
 refine wpAny_bind (wpAny_field hz rfl (x:=.none) rfl (wpAny_pure ?_))
 simp only [if_true]
 refine wpAny_bind (wpAny_rule (wpAny_bind (wpAny_field hz rfl (x:=.ref TO) rfl (wpAny_bind (wpAny_setField_rec hz (by simp) fun g1 z1 s1=>wpAny_bind ?_)))))
 replace z1:IsZip g1 z TI TO .ellipsis:=z1
 simp only [List.zipIdx_nil,List.zipIdx_cons,List.forIn_nil,List.forIn_cons]
 refine wpAny_bind (wpAny_bind (wpAny_onRaise (show wpAny _ _ (Builtin.SmallTypes.nextOf (.ref i1) >>= _) _ _ _ from wpAny_bind (znext_item (h1.but s1.extBut D.i1z) (q1.but s1.extBut D.l1z) hx fun g2 t2 s2=>wpAny_pure ?_))))
 have O2:IsPair g2 TO a b:=s2.extBut _ _ D.TOi1 (s1.extBut _ _ D.TOz hO)
 refine wpAny_bind (wpAny_seqItems O2 rfl (wpAny_bind (wpAny_updateSeq_pair O2 fun g3 O3 s3=>wpAny_bind (wpAny_letGo (wpAny_pure ?_)))))
 replace O3:IsPair g3 TO x b:=O3
 refine wpAny_bind (wpAny_bind (wpAny_onRaise (show wpAny _ _ (Builtin.SmallTypes.nextOf (.ref i2) >>= _) _ _ _ from wpAny_bind (znext_item (((h2.but s1.extBut D.i2z).but s2.extBut D.i12.symm).but s3.extBut D.TOi2.symm) (((q2.but s1.extBut D.l2z).but s2.extBut D.l2i1).but s3.extBut D.l2TO) hy fun g4 t4 s4=>wpAny_pure ?_))))
 have O4:IsPair g4 TO x b:=s4.extBut _ _ D.TOi2 O3
 refine wpAny_bind (wpAny_seqItems O4 rfl (wpAny_bind (wpAny_updateSeq_pair O4 fun g5 O5 s5=>wpAny_bind (wpAny_letGo (wpAny_pure (wpAny_pure ?_))))))
 replace O5:IsPair g5 TO x y:=O5
 refine wpAny_bind (wpAny_seqItems O5 rfl (wpAny_bind (wpAny_newTuple ?_)))
 have sz:g5.objs.size=s.heap.objs.size:=by rw [s5.1,s4.1,s3.1,s2.1,s1.1]
 have z5:IsZip g5 z TI TO .ellipsis:=s5.extBut _ _ D.TOz.symm (s4.extBut _ _ D.i2z.symm (s3.extBut _ _ D.TOz.symm (s2.extBut _ _ D.i1z.symm z1)))
 have k5:∀ c o,c≠z->c≠TO->c≠i1->c≠i2->s.heap.get? c=some o->g5.get? c=some o:=fun c o n1 n2 n3 n4 e=>s5.extBut _ _ n2 (s4.extBut _ _ n4 (s3.extBut _ _ n2 (s2.extBut _ _ n3 (s1.extBut _ _ n1 e))))
 have t5:zIt b1 g5 i1 l1 (k1+1):=((t2.but s3.extBut D.TOi1.symm).but s4.extBut D.i12).but s5.extBut D.TOi1.symm
 have u5:zIt b2 g5 i2 l2 (k2+1):=t4.but s5.extBut D.TOi2.symm
 have lz:z<g5.objs.size:=Heap.lt_size z5
 refine(show wpAny _ _ (Builtin.SmallTypes.ownedTupleHandOut (.ref z) (.ref g5.objs.size) >>= _) _ _ _ from wpAny_bind ?_)
 unfold Builtin.SmallTypes.ownedTupleHandOut
 have z6:IsZip (g5.push { cls:=.type "tuple",data:=.seq #[x,y] }) z TI TO .ellipsis:=Heap.get?_push_of_some _ z5
 refine wpAny_bind (wpAny_setField_rec z6 (by simp) fun g7 z7 s7=>?_)
 replace z7:IsZip g7 z TI TO (rawInt g5.objs.size):=z7
 refine wpAny_setField_rec z7 (by simp) fun g8 z8 s8=>?_
 replace z8:IsZip g8 z TI TO (rawInt g5.objs.size):=z8
 have up:∀ c o,c≠z->g5.get? c=some o->g8.get? c=some o:=fun c o n e=>s8.extBut _ _ n (s7.extBut _ _ n (Heap.get?_push_of_some _ e))
 have p8:IsPair g8 g5.objs.size x y:=s8.extBut _ _ (Nat.ne_of_gt lz) (s7.extBut _ _ (Nat.ne_of_gt lz) (Heap.get?_push_size _ rfl))
 have n8:g8.objs.size=g5.objs.size+1:=by rw [s8.1,s7.1,Heap.size_push]
 rw [sz] at z8 p8 n8
 refine wpAny_pure ⟨_,rfl,(show Q (.ref g5.objs.size) _ from ?_)⟩
 rw [sz]
 exact q g8 z8 (up _ _ D.TOz O5) (t5.at fun o e=>up _ o D.i1z e) (u5.at fun o e=>up _ o D.i2z e) p8 n8 fun c o n1 n2 n3 n4 e=>up c o n1 (k5 c o n1 n2 n3 n4 e)
theorem zipG_end{b1 b2:Bool}{z TI TO i1 i2 l1 l2:Addr}{k1 k2:Nat}{xs ys:Array Value}{a b:Value}{Q:Fin->Shared->Prop}(hh:A.handled=none)(D:ZipApart z TI TO i1 i2 l1 l2)(hz:IsZip s.heap z TI TO .none)(hI:IsPair s.heap TI (.ref i1) (.ref i2))(hO:IsPair s.heap TO a b)
  (h1:zIt b1 s.heap i1 l1 k1) (h2:zIt b2 s.heap i2 l2 k2) (q1:zSq b1 s.heap l1 xs) (q2:zSq b2 s.heap l2 ys) (he:xs[k1]?=none\/ys[k2]?=none)
  (q:∀ h' e,(∀ c o,c≠z->c≠TO->c≠i1->c≠i2->s.heap.get? c=some o->h'.get? c=some o)->(∃ o,h'.get? e=some o/\o.cls=.type "StopIteration")->E (.ref e) { s with heap:=h' }) :
  wpAny (model prog w) A (Builtin.«zip.__next__» ⟨[.ref z],[]⟩) Q E s:=by
 refine(show wpAny _ _ (field (.ref z) 2 >>= _) _ _ _ from wpAny_bind (wpAny_field hz rfl (x:=.bool false) rfl (show wpAny _ _ (field (.ref z) 3 >>= _) _ _ _ from wpAny_bind (wpAny_field hz rfl (x:=.ref TI) rfl (wpAny_bind (wpAny_seqItems hI rfl (show wpAny _ _ (Builtin.SmallTypes.ownedTupleIsFree (.ref z) >>= _) _ _ _ from wpAny_bind ?_)))))))
 unfold Builtin.SmallTypes.ownedTupleIsFree
 refine wpAny_bind (wpAny_field hz rfl (x:=.none) rfl (wpAny_pure ?_))
 simp only [if_true]
 refine wpAny_bind (wpAny_rule (wpAny_bind (wpAny_field hz rfl (x:=.ref TO) rfl (wpAny_bind (wpAny_setField_rec hz (by simp) fun g1 z1 s1=>wpAny_bind ?_)))))
 replace z1:IsZip g1 z TI TO .ellipsis:=z1
 simp only [List.zipIdx_nil,List.zipIdx_cons,List.forIn_nil,List.forIn_cons]
 cases hx:xs[k1]? with
 | none =>
  refine wpAny_bind (wpAny_bind (wpAny_onRaise (show wpAny _ _ (Builtin.SmallTypes.nextOf (.ref i1) >>= _) _ _ _ from wpAny_bind (znext_end hh (h1.but s1.extBut D.i1z) (q1.but s1.extBut D.l1z) hx fun g2 e s2 ⟨oe,ee,ce⟩=>?_))))
  have z2:IsZip g2 z TI TO .ellipsis:=s2 _ _ D.i1z.symm z1
  have nez:e≠z:=fun t=>by subst t;rw [z2] at ee;cases ee;simp at ce
  exact wpAny_setField_rec z2 (by simp) fun g3 _ s3=>q g3 e (fun c o n1 _ n3 _ t=>s3.extBut _ _ n1 (s2 _ _ n3 (s1.extBut _ _ n1 t))) ⟨oe,s3.extBut _ _ nez ee,ce⟩
 | some x =>
  have hy:ys[k2]?=none:=he.resolve_left (by rw [hx];exact fun t=>nomatch t)
  refine wpAny_bind (wpAny_bind (wpAny_onRaise (show wpAny _ _ (Builtin.SmallTypes.nextOf (.ref i1) >>= _) _ _ _ from wpAny_bind (znext_item (h1.but s1.extBut D.i1z) (q1.but s1.extBut D.l1z) hx fun g2 t2 s2=>wpAny_pure ?_))))
  have O2:IsPair g2 TO a b:=s2.extBut _ _ D.TOi1 (s1.extBut _ _ D.TOz hO)
  refine wpAny_bind (wpAny_seqItems O2 rfl (wpAny_bind (wpAny_updateSeq_pair O2 fun g3 O3 s3=>wpAny_bind (wpAny_letGo (wpAny_pure ?_)))))
  refine wpAny_bind (wpAny_bind (wpAny_onRaise (show wpAny _ _ (Builtin.SmallTypes.nextOf (.ref i2) >>= _) _ _ _ from wpAny_bind (znext_end hh (((h2.but s1.extBut D.i2z).but s2.extBut D.i12.symm).but s3.extBut D.TOi2.symm) (((q2.but s1.extBut D.l2z).but s2.extBut D.l2i1).but s3.extBut D.l2TO) hy fun g4 e s4 ⟨oe,ee,ce⟩=>?_))))
  have z4:IsZip g4 z TI TO .ellipsis:=s4 _ _ D.i2z.symm (s3.extBut _ _ D.TOz.symm (s2.extBut _ _ D.i1z.symm z1))
  have nez:e≠z:=fun t=>by subst t;rw [z4] at ee;cases ee;simp at ce
  exact wpAny_setField_rec z4 (by simp) fun g5 _ s5=>q g5 e (fun c o n1 n2 n3 n4 t=>s5.extBut _ _ n1 (s4 _ _ n4 (s3.extBut _ _ n2 (s2.extBut _ _ n3 (s1.extBut _ _ n1 t))))) ⟨oe,s5.extBut _ _ nez ee,ce⟩
theorem znext_zip_item{b1 b2:Bool}{z TI TO i1 i2 l1 l2:Addr}{k1 k2:Nat}{xs ys:Array Value}{x y a b:Value}{Q:Option Value->Shared->Prop}(D:ZipApart z TI TO i1 i2 l1 l2)(hz:IsZip s.heap z TI TO .none)(hI:IsPair s.heap TI (.ref i1) (.ref i2))(hO:IsPair s.heap TO a b)
  (h1:zIt b1 s.heap i1 l1 k1) (h2:zIt b2 s.heap i2 l2 k2) (q1:zSq b1 s.heap l1 xs) (q2:zSq b2 s.heap l2 ys) (hx:xs[k1]?=some x) (hy:ys[k2]?=some y)
  (q:∀ h',IsZip h' z TI TO (rawInt s.heap.objs.size)->IsPair h' TO x y->zIt b1 h' i1 l1 (k1+1)->zIt b2 h' i2 l2 (k2+1)->IsPair h' s.heap.objs.size x y->h'.objs.size=s.heap.objs.size+1 ->
   (∀ c o,c≠z->c≠TO->c≠i1->c≠i2->s.heap.get? c=some o->h'.get? c=some o)->Q (some (.ref s.heap.objs.size)) { s with heap:=h' }):wpAny (model prog w) A (pyNext (.ref z)) Q E s:=by
 have hT:s.TypeIs (.ref z) "zip" :=⟨_,hz,rfl⟩
 unfold pyNext
 exact wpAny_bind (wpAny_attempt (wpAny_callSpecial?_slot (name:=Str.ofString "__next__") hT F.slot_zip_next (wpAny_call_entry F.slot_zip_next hT F.entry_zip_next (zipG_item D hz hI hO h1 h2 q1 q2 hx hy fun h' a1 a2 a3 a4 a5 a6 a7=>wpAny_pure (q h' a1 a2 a3 a4 a5 a6 a7)) (F.args_zip_next_1 _))))
theorem znext_zip_end{b1 b2:Bool}{z TI TO i1 i2 l1 l2:Addr}{k1 k2:Nat}{xs ys:Array Value}{a b:Value}{Q:Option Value->Shared->Prop}(hh:A.handled=none)(D:ZipApart z TI TO i1 i2 l1 l2)(hz:IsZip s.heap z TI TO .none)(hI:IsPair s.heap TI (.ref i1) (.ref i2))(hO:IsPair s.heap TO a b)
  (h1:zIt b1 s.heap i1 l1 k1) (h2:zIt b2 s.heap i2 l2 k2) (q1:zSq b1 s.heap l1 xs) (q2:zSq b2 s.heap l2 ys) (he:xs[k1]?=none\/ys[k2]?=none)
  (q:∀ h',(∀ c o,c≠z->c≠TO->c≠i1->c≠i2->s.heap.get? c=some o->h'.get? c=some o)->Q none { s with heap:=h' }):wpAny (model prog w) A (pyNext (.ref z)) Q E s:=by
 have hT:s.TypeIs (.ref z) "zip" :=⟨_,hz,rfl⟩
 unfold pyNext
 exact wpAny_bind (wpAny_attempt (wpAny_callSpecial?_slot (name:=Str.ofString "__next__") hT F.slot_zip_next (wpAny_call_entry F.slot_zip_next hT F.entry_zip_next (zipG_end hh D hz hI hO h1 h2 q1 q2 he fun h' e k ⟨o,ho,hc⟩=>wpAny_bind (wpAny_isInstance (T := "StopIteration") (b:=true) ⟨o,ho,hc⟩ isSubtype_stop (wpAny_pure (q _ k)))) (F.args_zip_next_1 _))))
end
abbrev zG1(b1:Bool)(h:Heap)(l1:Addr):Heap:=h.push (zOb b1 l1)
abbrev zG2(b1 b2:Bool)(h:Heap)(l1 l2:Addr):Heap:=(zG1 b1 h l1).push (zOb b2 l2)
abbrev zG3(b1 b2:Bool)(h:Heap)(l1 l2:Addr):Heap:=(zG2 b1 b2 h l1 l2).push { cls:=.type "tuple",data:=.seq #[.ref h.objs.size,.ref (zG1 b1 h l1).objs.size] }
abbrev zG4(b1 b2:Bool)(h:Heap)(l1 l2:Addr):Heap:=(zG3 b1 b2 h l1 l2).push { cls:=.type "tuple",data:=.seq #[.none,.none] }
abbrev zG5(b1 b2:Bool)(h:Heap)(l1 l2:Addr):Heap:=(zG4 b1 b2 h l1 l2).push { cls:=.type "zip",data:=.fields #[.none,.bool false,.bool false,.ref (zG2 b1 b2 h l1 l2).objs.size,.ref (zG3 b1 b2 h l1 l2).objs.size] }
theorem zipG_new(b1 b2:Bool)(l1 l2:Addr)(xs ys:Array Value):Meets (Builtin.«zip.__new__» ⟨[.type "zip",.ref l1,.ref l2],[]⟩) (fun _ R s=>zSq b1 s.heap l1 xs/\zSq b2 s.heap l2 ys/\R (.ok (.ret (.ref (zG4 b1 b2 s.heap l1 l2).objs.size))) { s with heap:=zG5 b1 b2 s.heap l1 l2 }) :=
 .of_wp fun prog w A R s h=>by
  obtain⟨hp,g,d,tk,os⟩:=s
  obtain⟨q1,q2,h⟩:=h
  have hsub:=sub_zip
  have L1:zSq b1 (Shared.heap ⟨hp,g,d,tk,os⟩) l1 xs:=q1
  have L2:zSq b2 (Shared.heap ⟨hp.push (zOb b1 l1),g,d,tk,os⟩) l2 ys:=q2.push _
  wp_walk using ziter L1,ziter L2
  exact⟨_,rfl,h⟩
theorem call_zipG{prog:Program}{w:World}{A:Around}{E:Value->Shared->Prop}{s:Shared}{b1 b2:Bool}{l1 l2:Addr}{xs ys:Array Value}{Q:Value->Shared->Prop}(q1:zSq b1 s.heap l1 xs)(q2:zSq b2 s.heap l2 ys)
  (h:∀ h',IsZip h' (s.heap.objs.size+4) (s.heap.objs.size+2) (s.heap.objs.size+3) .none->IsPair h' (s.heap.objs.size+2) (.ref s.heap.objs.size) (.ref (s.heap.objs.size+1))->IsPair h' (s.heap.objs.size+3) .none .none ->
   zIt b1 h' s.heap.objs.size l1 0->zIt b2 h' (s.heap.objs.size+1) l2 0->(∀ c o,s.heap.get? c=some o->h'.get? c=some o)->Q (.ref (s.heap.objs.size+4)) { s with heap:=h' }) :
  wpAny (model prog w) A (call (.type "zip") [.ref l1,.ref l2]) Q E s:=by
 refine callType_new F.called_zip (by decide) (F.typeCall_zip_2 _ _) (F.newCall_zip_2 _ _) (fun obj=>F.args_object_init_3 obj _ _) F.entry_zip_new (zipG_new b1 b2 l1 l2 xs ys) ⟨q1,q2,?_⟩
 have z1:(zG1 b1 s.heap l1).objs.size=s.heap.objs.size+1:=Heap.size_push ..
 have z2:(zG2 b1 b2 s.heap l1 l2).objs.size=s.heap.objs.size+2:=by rw [Heap.size_push,z1]
 have z3:(zG3 b1 b2 s.heap l1 l2).objs.size=s.heap.objs.size+3:=by rw [Heap.size_push,z2]
 have z4:(zG4 b1 b2 s.heap l1 l2).objs.size=s.heap.objs.size+4:=by rw [Heap.size_push,z3]
 have g5:(zG5 b1 b2 s.heap l1 l2).get? (zG4 b1 b2 s.heap l1 l2).objs.size=some _:=Heap.get?_push_size _ rfl
 have g4:(zG5 b1 b2 s.heap l1 l2).get? (zG3 b1 b2 s.heap l1 l2).objs.size=some _:=Heap.get?_push_of_some _ (Heap.get?_push_size _ rfl)
 have g3:(zG5 b1 b2 s.heap l1 l2).get? (zG2 b1 b2 s.heap l1 l2).objs.size=some _:=Heap.get?_push_of_some _ (Heap.get?_push_of_some _ (Heap.get?_push_size _ rfl))
 have g2:(zG5 b1 b2 s.heap l1 l2).get? (zG1 b1 s.heap l1).objs.size=some (zOb b2 l2):=Heap.get?_push_of_some _ (Heap.get?_push_of_some _ (Heap.get?_push_of_some _ (Heap.get?_push_size _ rfl)))
 have g1:(zG5 b1 b2 s.heap l1 l2).get? s.heap.objs.size=some (zOb b1 l1):=Heap.get?_push_of_some _ (Heap.get?_push_of_some _ (Heap.get?_push_of_some _ (Heap.get?_push_of_some _ (Heap.get?_push_size _ rfl))))
 show _/\_
 rw [z2,z3,z4] at g5
 rw [z1,z2] at g3
 rw [z3] at g4
 rw [z1] at g2
 rw [z4]
 have i1:zIt b1 (zG5 b1 b2 s.heap l1 l2) s.heap.objs.size l1 0:=by
  cases b1
  ·exact⟨_,g1,rfl,rfl⟩
  ·exact⟨_,g1,rfl,rfl⟩
 have i2:zIt b2 (zG5 b1 b2 s.heap l1 l2) (s.heap.objs.size+1) l2 0:=by
  cases b2
  ·exact⟨_,g2,rfl,rfl⟩
  ·exact⟨_,g2,rfl,rfl⟩
 exact⟨⟨_,g5,rfl⟩,h _ g5 g3 g4 i1 i2 fun c o x=>Heap.get?_push_of_some _ (Heap.get?_push_of_some _ (Heap.get?_push_of_some _ (Heap.get?_push_of_some _ (Heap.get?_push_of_some _ x))))⟩
def SqG(b:Bool)(K:PySem.W.Frag)(H:Hp)(a:Addr)(xs:List V):Prop:=if b=true then SqT K H a xs else SqL K H a xs
theorem Inv.sqG{X:Cx}{pins:List (Addr×Obj)}{σ:St}{H:Hp}{s:Shared}{b:Bool}{a:Addr}{xs:List V}(I:Inv X pins σ H s)(h:SqG b X.K H a xs):∃ its:List Value,Vals xs its/\zSq b s.heap a its.toArray/\xs.length<=sizeLine:=by
 cases b
 ·obtain⟨its,r,p,z⟩:=I.list (show SqL X.K H a xs from h)
  exact⟨its,r,p.isList,z⟩
 ·obtain⟨its,r,p,z⟩:=I.tuple (show SqT X.K H a xs from h)
  exact⟨its,r,p,z⟩
theorem Inv.sqG_inj{X:Cx}{pins:List (Addr×Obj)}{σ:St}{H:Hp}{s:Shared}{b:Bool}{a:Addr}{xs ys:List V}(I:Inv X pins σ H s)(h:SqG b X.K H a xs)(h':SqG b X.K H a ys):xs=ys:=by
 cases b
 ·exact I.list_inj (show SqL X.K H a xs from h) h'
 ·exact I.tuple_inj (show SqT X.K H a xs from h) h'
def Izg(b1 b2:Bool)(K:PySem.W.Frag)(a b:Addr):It :=
 ⟨fun i H=>∃ xs ys x y,SqG b1 K H a xs/\SqG b2 K H b ys/\xs[i]?=some x/\ys[i]?=some y,fun i H v H'=>∃ p x y,H p=none/\v=.ref p/\H'=upd H p (.tup [x,y])/\(∀ xs,SqG b1 K H a xs->xs[i]?=some x)/\∀ ys,SqG b2 K H b ys->ys[i]?=some y,fun i H=>∃ xs ys,SqG b1 K H a xs/\SqG b2 K H b ys/\(xs.length<=i\/ys.length<=i)⟩
theorem turn_zipG{P:Program}{w:World}{K:PySem.W.Frag}{b1 b2:Bool}{elts:List Expr}{x1}{tpos:Pos}{l1 l2 z TI TO i1 i2:Addr}(D:ZipApart z TI TO i1 i2 l1 l2):
  Turn P w K (.Tuple elts x1 tpos) (Izg b1 b2 K l1 l2) [z,TI,TO,i1,i2] z (fun i h=>IsZip h z TI TO .none/\IsPair h TI (.ref i1) (.ref i2)/\(∃ a b,IsPair h TO a b)/\zIt b1 h i1 l1 i/\zIt b2 h i2 l2 i) where
 mem:=by simp
 obj:=fun i h st b hb=>by
  obtain⟨hz,hTI,⟨a,b',hTO⟩,h1,h2⟩:=st
  simp only [List.mem_cons,List.not_mem_nil,or_false] at hb
  rcases hb with rfl | rfl | rfl | rfl | rfl
  ·exact⟨_,hz,fun v q=>by cases (show Data.fields _=Data.cell v from q)⟩
  ·exact⟨_,hTI,fun v q=>by cases (show Data.seq _ _=Data.cell v from q)⟩
  ·exact⟨_,hTO,fun v q=>by cases (show Data.seq _ _=Data.cell v from q)⟩
  ·exact h1.own
  ·exact h2.own
 keep:=fun i h h' st k=>by
  obtain⟨hz,hTI,⟨a,b',hTO⟩,h1,h2⟩:=st
  exact⟨k _ (by simp) _ hz,k _ (by simp) _ hTI,⟨a,b',k _ (by simp) _ hTO⟩,h1.at fun o e=>k i1 (by simp) o e,h2.at fun o e=>k i2 (by simp) o e⟩
 item:=by
  intro X hP hw hK hc i pins s σ H E I hf st hg
  subst hP hw hK
  obtain⟨xs,ys,x,y,hq1,hq2,hx,hy⟩:=hg
  obtain⟨hz,hTI,⟨a,b',hTO⟩,h1,h2⟩:=st
  obtain⟨its1,rv1,p1,hz1⟩:=I.sqG hq1
  obtain⟨its2,rv2,p2,hz2⟩:=I.sqG hq2
  obtain⟨u1,hu1,ru1⟩:=rv1.get hx
  obtain⟨u2,hu2,ru2⟩:=rv2.get hy
  refine znext_zip_item D hz hTI hTO h1 h2 p1 p2 (x:=u1) (y:=u2) (by simpa using hu1) (by simpa using hu2) fun h' hz' hTO' h1' h2' hp' hsz hk=>⟨_,rfl,?_⟩
  refine wpAny_letOwnedTupleGo_zip hz' fun h'' hz'' hsb=>?_
  have ne:s.heap.objs.size≠z:=fun q=>by have:=Heap.lt_size hz;rw [<-q] at this;exact Nat.lt_irrefl _ this
  have hp2:IsPair h'' s.heap.objs.size u1 u2:=(hsb.2 _ ne).trans hp'
  have nb:∀ c o,s.heap.get? c=some o->c≠s.heap.objs.size:=fun c o e=>Nat.ne_of_lt (Heap.lt_size e)
  have I1:Inv X pins σ (upd H s.heap.objs.size (.tup [x,y])) { s with heap:=h'',toks:=s.toks }:=by
   refine I.turnedNew (ch:=[z,TI,TO,i1,i2]) hf (Nat.le_refl _) (fun b u hb e=>?_) ⟨by simp [sizeLine_eq],[u1,u2],.cons ru1 (.cons ru2 .nil),?_⟩
   ·simp only [List.mem_cons,List.not_mem_nil,or_false,not_or] at hb
    exact(hsb.2 b hb.1).trans (hk b u hb.1 hb.2.2.1 hb.2.2.2.1 hb.2.2.2.2 e)
   ·exact⟨_,hp2,rfl,⟨_,rfl⟩,rfl⟩
  refine⟨.ref s.heap.objs.size,_,I1,rfl,⟨_,x,y,I.hok.fresh (Nat.le_refl _),rfl,rfl,fun xs' h=>by rw [I.sqG_inj h hq1];exact hx,fun ys' h=>by rw [I.sqG_inj h hq2];exact hy⟩,⟨hz'',?_,?_,?_,?_⟩,fun b hb=>?_⟩
  ·exact(hsb.2 _ D.TIz).trans (hk _ _ D.TIz D.TITO D.TIi1 D.TIi2 hTI)
  ·exact⟨_,_,(hsb.2 _ D.TOz).trans hTO'⟩
  ·exact h1'.at fun o e=>(hsb.2 _ D.i1z).trans e
  ·exact h2'.at fun o e=>(hsb.2 _ D.i2z).trans e
  ·rw [upd_ne]
   ·exact(hf b hb).1
   ·intro q
    subst q
    simp only [List.mem_cons,List.not_mem_nil,or_false] at hb
    obtain⟨o1,e1,_⟩:=h1.own
    obtain⟨o2,e2,_⟩:=h2.own
    rcases hb with q | q | q | q | q
    ·exact nb _ _ hz q.symm
    ·exact nb _ _ hTI q.symm
    ·exact nb _ _ hTO q.symm
    ·exact nb _ _ e1 q.symm
    ·exact nb _ _ e2 q.symm
 done:=by
  intro X hP hw hK hc i pins s σ H E I hf st hg
  subst hP hw hK
  obtain⟨xs,ys,hq1,hq2,hl⟩:=hg
  obtain⟨hz,hTI,⟨a,b',hTO⟩,h1,h2⟩:=st
  obtain⟨its1,rv1,p1,hz1⟩:=I.sqG hq1
  obtain⟨its2,rv2,p2,hz2⟩:=I.sqG hq2
  have e1:=rv1.length
  have e2:=rv2.length
  refine znext_zip_end (I.ok.hd hc) D hz hTI hTO h1 h2 p1 p2 (by rcases hl with q | q;exact .inl (by simp;omega);exact .inr (by simp;omega)) fun h' hk=>⟨rfl,?_⟩
  refine I.turnedL (t':=s.toks) (ch:=[z,TI,TO,i1,i2]) hf fun b u hb e=>?_
  simp only [List.mem_cons,List.not_mem_nil,or_false,not_or] at hb
  exact hk b u hb.1 hb.2.2.1 hb.2.2.2.1 hb.2.2.2.2 e
 self:=fun _ _ _ _ _ st h=>wpAny_pyIter_zip st.1 h
section
variable {X:Cx}
theorem tup_whole{prog:Program}{w:World}{A:Around}{E:Value->Shared->Prop}{s:Shared}{t sl:Addr}{its:Array Value}{vl vu:Value}{lo hi:Option Int}{Q:Value->Shared->Prop}(ht:IsTup s.heap t its)(hs:s.heap.IsSliceOf sl vl vu .none)(pl:IsPart vl lo)(pu:IsPart vu hi)
  (h0:HT.sIx its.size 0 lo=0) (h1:HT.sIx its.size its.size hi=its.size) (h:Q (.ref t) s):wpAny (model prog w) A (getItem (.ref t) (.ref sl)) Q E s:=by
 obtain⟨os,hos,hcs,hds⟩:=id hs
 have hTs:s.TypeIs (.ref sl) "slice" :=⟨os,hos,hcs⟩
 unfold getItem
 try with_reducible refine wpAny_holding ?_
 first | (refine wpAny_bind (wpAny_pure ?_)) | skip
 refine wpAny_bind (wpAny_sequenceKey ht.typeIs (by decide) (wpAny_bind (wpAny_callSpecial?_slot (name:=Str.ofString "__getitem__") ht.typeIs PyProof.Rows.slot_tuple_getitem (wpAny_call_entry PyProof.Rows.slot_tuple_getitem ht.typeIs entry_tuple_getitem ?_ (args_tuple_getitem _ _)))))
 refine(show wpAny _ _ (Builtin.Tuple.tupleItemsOf (.ref t) >>= _) _ _ s from wpAny_bind (tupleItemsOf_ ht (wpAny_bind (wpAny_typeOf hTs ?_))))
 rw [if_pos (by decide)]
 refine wpAny_bind (HT.sliceApplied_gen hs pl pu ?_)
 rw [h0,h1]
 have hy:(((((0:Nat):Int) == 0 && (1:Int) == 1) && (its.size-0 == its.size))=true):=by simp
 show wpAny _ _ (if (((0:Nat):Int) == 0 && (1:Int) == 1 && (its.size-0) == its.size)=true then _ else _) _ _ s
 rw [if_pos hy]
 refine wpAny_bind (m:=Builtin.Tuple.tupleIsExact _) ?_
 unfold Builtin.Tuple.tupleIsExact
 refine wpAny_bind (wpAny_typeOf ht.typeIs (wpAny_pure ?_))
 rw [if_pos (by decide)]
 first
  | exact wpAny_bind (wpAny_rule (wpAny_pure ⟨_,rfl,wpAny_pure h⟩))
  | exact wpAny_bind (wpAny_rule (wpAny_bind (wpAny_pure (wpAny_pure ⟨_,rfl,wpAny_pure h⟩))))
  | exact wpAny_bind (wpAny_rule (wpAny_bind (wpAny_pure ⟨_,rfl,wpAny_pure h⟩)))
def tDNew:TE:=fun _ H Q=>∀ p,H p=none->Q (.ref p) (upd H p (.dK []))
theorem pe_dnew{pos:Pos}:PE X (.Dict [] [] pos) tDNew:=fun pins s σ H Q I h=>by
 have big:sysModules<s.heap.objs.size:=Nat.lt_trans (by decide) (show mainGlobals<s.heap.objs.size from(I.mod.glob.keeps I.bk).lt)
 refine wpAny_Dict_empty ⟨.ref s.heap.objs.size,_,I.laid (a:=s.heap.objs.size) (o:=.dK []) (t':=s.toks) (fun _ _ q=>Heap.get?_push_of_some _ q) (Nat.le_refl _) ⟨Nat.zero_le _,beq_eq_false_iff_ne.mpr (Ne.symm (Nat.ne_of_lt big)),[],.nil,Heap.DictOf.new s.heap⟩,rfl,h _ (I.hok.fresh (Nat.le_refl _))⟩
end
inductive Kn(H:Hp):V->Prop
 | non:Kn H .non
 | bl (b:Bool):Kn H (.bl b)
 | int (i:Int):Kn H (.int i)
 | str (x:Str):Kn H (.str x)
 | lst {a:Addr} {xs:List V} (e:H a=some (.lst xs)):Kn H (.ref a)
 | tup {a:Addr} {xs:List V} (e:H a=some (.tup xs)):Kn H (.ref a)
 | dct {a:Addr} {ks:List (Key×V)} (e:H a=some (.dK ks)):Kn H (.ref a)
def tupOf(H:Hp):V->Option (List V)
 | .ref a=>match H a with | some (.tup xs)=>some xs | _=>none
 | _=>none
theorem tupOf_ref{H:Hp}{a:Addr}{xs:List V}(e:H a=some (.tup xs)):tupOf H (.ref a)=some xs:=by unfold tupOf;simp only [e]
def Th:Nat->Hp->V->Prop
 | 0,H,x=>Kn H x
 | n+1,H,x=>Kn H x/\∀ xs,tupOf H x=some xs->∀ y∈xs,Th n H y
theorem Th.tup{n:Nat}{H:Hp}{a:Addr}{xs:List V}(e:H a=some (.tup xs))(h:∀ y∈xs,Th n H y):Th (n+1) H (.ref a) :=
 ⟨.tup e,fun ys e' y hy=>by rw [tupOf_ref e] at e';cases e';exact h y hy⟩
theorem Th.flat{n:Nat}{H:Hp}{x:V}(h:Kn H x)(e:tupOf H x=none):Th n H x:=by
 cases n with
 | zero=>exact h
 | succ n=>exact⟨h,fun xs e'=>by rw [e] at e';cases e'⟩
theorem Th.int(n:Nat)(H:Hp)(i:Int):Th n H (.int i):=Th.flat (.int i) rfl
theorem Th.bl(n:Nat)(H:Hp)(b:Bool):Th n H (.bl b):=Th.flat (.bl b) rfl
theorem Th.str(n:Nat)(H:Hp)(x:Str):Th n H (.str x):=Th.flat (.str x) rfl
theorem Th.non(n:Nat)(H:Hp):Th n H .non:=Th.flat .non rfl
theorem Th.lst(n:Nat){H:Hp}{a:Addr}{xs:List V}(e:H a=some (.lst xs)):Th n H (.ref a):=Th.flat (.lst e) (by unfold tupOf;simp only [e])
theorem Th.dct(n:Nat){H:Hp}{a:Addr}{ks:List (Key×V)}(e:H a=some (.dK ks)):Th n H (.ref a):=Th.flat (.dct e) (by unfold tupOf;simp only [e])
def inB(lo hi:Int):V->Bool
 | .int i=>decide (lo<=i) && decide (i<=hi)
 | _=>false
def allB:List (Int×Int)->List V->Bool
 | [],[]=>true
 | b::bs,x::xs=>inB b.1 b.2 x && allB bs xs
 | _,_=>false
def whB(bs:List (Int×Int)):Option (List V)->Bool
 | some xs=>allB bs xs
 | none=>false
theorem Kn.butL{H H':Hp}{p:Addr}{a b:List V}{x:V}(h1:H p=some (.lst a))(h2:H' p=some (.lst b))(s:But p H H')(h:Kn H x):Kn H' x:=by
 cases h with
 | non=>exact .non
 | bl b=>exact .bl b
 | int i=>exact .int i
 | str x=>exact .str x
 | @lst c xs e =>
  by_cases hc:c=p
  ·subst hc;exact .lst h2
  ·exact .lst (s _ _ hc e)
 | tup e=>exact .tup (s _ _ (ne_of e h1 (by intro z;cases z)) e)
 | dct e=>exact .dct (s _ _ (ne_of e h1 (by intro z;cases z)) e)
theorem tupOf_butL{H H':Hp}{p:Addr}{a b:List V}{x:V}(h1:H p=some (.lst a))(h2:H' p=some (.lst b))(s:But p H H')(h:Kn H x):tupOf H' x=tupOf H x:=by
 cases h with
 | @lst c xs e =>
  by_cases hc:c=p
  ·subst hc;unfold tupOf;simp only [e,h2]
  ·unfold tupOf;simp only [e,s _ _ hc e]
 | tup e=>have:=s _ _ (ne_of e h1 (by intro z;cases z)) e;unfold tupOf;simp only [e,this]
 | dct e=>have:=s _ _ (ne_of e h1 (by intro z;cases z)) e;unfold tupOf;simp only [e,this]
 | _=>rfl
theorem Th.butL:∀{n:Nat} {H H':Hp} {p:Addr} {a b:List V} {x:V},H p=some (.lst a)->H' p=some (.lst b)->But p H H'->Th n H x->Th n H' x
 | 0,_,_,_,_,_,_,h1,h2,s,h=>Kn.butL h1 h2 s h
 | n+1,_,_,_,_,_,_,h1,h2,s,h=>⟨h.1.butL h1 h2 s,fun xs e y hy=>Th.butL h1 h2 s (h.2 xs ((tupOf_butL h1 h2 s h.1).symm.trans e) y hy)⟩
theorem Th.pen{n:Nat}{H H':Hp}{p:Addr}{x:V}(h1:Pen H p)(h2:Pen H' p)(s:But p H H')(h:Th n H x):Th n H' x:=by
 obtain⟨a,b,c,e⟩:=h1
 obtain⟨a',b',c',e'⟩:=h2
 exact Th.butL e e' s h
theorem atI_ex{α:Type}{xs:List α}{k:Int}(h0:0<=k)(h1:k<xs.length):∃ v,atI xs k=some v/\v∈xs:=by
 obtain⟨v,h,e⟩:=atI_of h0 h1
 exact⟨v,h,List.mem_of_getElem? e⟩
theorem sqT_K{K:PySem.W.Frag}{H:Hp}{a:Addr}{its:Array Value}{n:Nat}{sl:Array (Option Value)}{xs:List V}(l:K.lookup a=some ⟨.type "tuple",none,.seq its n,sl⟩)(hz:its.size<=10000)(r:Vals xs its.toList):SqT K H a xs:=.inr ⟨_,its,n,l,rfl,rfl,rfl,small' hz,r⟩
def tPar3(i j k:Nat)(ta:TA):TS:=fun D σ H=>ta σ H fun vs H1=>∃ u v w,vs = [u,v,w]/\D.nx (((σ.set i (some u)).set j (some v)).set k (some w)) H1
theorem ps_par3{X:Cx}{i j k:Nat}{x y z:Str}{a b c:Expr}{ta:TA}{px py pz pt pos:Pos}{kt k2 pt2}(hc:X.calm=true)(hN:X.N.Nodup)(hi:X.N[i]?=some x)(hj:X.N[j]?=some y)(hk:X.N[k]?=some z)(hij:i≠j)(hik:i≠k)(hjk:j≠k)
  (hx:X.env.scope.names.lookup x=some .local) (hy:X.env.scope.names.lookup y=some .local) (hz:X.env.scope.names.lookup z=some .local) (ha:PA X [a,b,c] ta)
  (hw:swappedStores [.Tuple [.Name x px,.Name y py,.Name z pz] kt pt] (.Tuple [a,b,c] k2 pt2) X.env=pure (some [x,y,z]))
  (hs:swapsWithSole [.Tuple [.Name x px,.Name y py,.Name z pz] kt pt] (.Tuple [a,b,c] k2 pt2) pos.line X.env=pure false:=by rfl) :
  PS X (.Assign [.Tuple [.Name x px,.Name y py,.Name z pz] kt pt] (.Tuple [a,b,c] k2 pt2) pos) (tPar3 i j k ta):=by
 intro pins s σ H D I h
 rw [exec_Assign_arm]
 refine wpAny_bind (wpAny_standAt ?_)
 rw [hs]
 refine wpAny_bind (wpAny_pure ?_)
 rw [if_neg (by decide)]
 refine wpAny_bind (Tuple_ (thn (ha _ pins s σ H _ I h) fun us s1 ⟨vs,H1,I1,r1,q1⟩=>?_))
 obtain⟨v1,v2,v3,e1,q1⟩:=q1
 subst e1
 obtain⟨u1,u2,u3,rfl,r1,r2,r3⟩:∃ u1 u2 u3,us = [u1,u2,u3]/\RelV v1 u1/\RelV v2 u2/\RelV v3 u3:=by
  cases r1 with
  | cons p q =>
   cases q with
   | cons p' q' =>
    cases q' with
    | cons p'' q'' =>
     cases q''
     exact⟨_,_,_,rfl,p,p',p''⟩
 refine wpAny_newObj_type ?_ (by show 3<=sizeLine;decide)
 have I2:Inv X pins σ H1 { s1 with heap:=s1.heap.push { cls:=.type "tuple",data:=.seq [u1,u2,u3].toArray } }:=I1.kept (t':=s1.toks) fun b o e=>Heap.get?_push_of_some _ e
 rw [hw]
 refine wpAny_bind (wpAny_pure ?_)
 show wpAny (model X.prog X.w) X.A (do rule "assign.swapped-stores";let items <-unpackItems (.ref s1.heap.objs.size) 3 none;assignInOrder [fun v=>bindName X.env z v,fun v=>bindName X.env y v,fun v=>bindName X.env x v] items.reverse;pure Flow.next) _ _ _
 refine wpAny_bind (wpAny_rule (wpAny_bind (unpackItems_tuple (items:=#[u1,u2,u3]) (I.ok.hd hc) (IsTup.new s1.heap _) fun h' hx'=>?_)))
 have I3:=I2.kept (h':=h') (t':=s1.toks) fun b o e=>hx' b o (Nat.ne_of_lt (Heap.lt_size e)) e
 show wpAny _ _ (assignInOrder [fun v=>bindName X.env z v,fun v=>bindName X.env y v,fun v=>bindName X.env x v] [u3,u2,u1] >>= fun _=>pure Flow.next) _ _ _
 refine wpAny_bind (assignInOrder_cons (wpAny_bindName (store_ok I3 hN hk (.inl hz) r3 (fun s2 I4=>?_) (.inr hz))))
 refine assignInOrder_cons (wpAny_bindName (store_ok I4 hN hj (.inl hy) r2 (fun s3 I5=>?_) (.inr hy)))
 refine assignInOrder_cons (wpAny_bindName (store_ok I5 hN hi (.inl hx) r1 (fun s4 I6=>assignInOrder_nil (wpAny_pure ?_)) (.inr hx)))
 have e:(((σ.set k (some v3)).set j (some v2)).set i (some v1))=(((σ.set i (some v1)).set j (some v2)).set k (some v3)):=by
  rw [List.set_comm _ _ (Ne.symm hjk),List.set_comm _ _ (Ne.symm hik),List.set_comm _ _ (Ne.symm hij)]
 rw [e] at I6
 exact⟨_,H1,I6,q1⟩
def NoD(H:Hp)(x:V):Prop:=∀ a,x=.ref a->(∃ xs,H a=some (.lst xs))\/∃ xs,H a=some (.tup xs)
end L2
namespace L2
end L2
namespace L2
open PySem
theorem sE_T{es:List Expr}{x1}{pos:Pos}{rest:List Expr}{env:Env}:starEach (.Tuple es x1 pos::rest) env=(false,eval (.Tuple es x1 pos) env)::starEach rest env:=by rw [starEach];intro e p h;cases h
theorem sE_L{es:List Expr}{pos:Pos}{rest:List Expr}{env:Env}:starEach (.List es pos::rest) env=(false,eval (.List es pos) env)::starEach rest env:=by rw [starEach];intro e p h;cases h
theorem sE_C{c j}{pos:Pos}{rest:List Expr}{env:Env}:starEach (.Constant c j pos::rest) env=(false,eval (.Constant c j pos) env)::starEach rest env:=by rw [starEach];intro e p h;cases h
end L2
namespace L2
open PySem PySem.Spec PyProof.Rows
end L2
namespace L2
open PySem
theorem pw_pt{X:Cx}{e:Expr}{t:TT}(h:PW X e t):PT X e t:=h.pt
end L2
namespace L2
open PySem PySem.Spec PyProof.Rows
theorem NoD.butL{H H':Hp}{p:Addr}{a b:List V}{x:V}(h1:H p=some (.lst a))(h2:H' p=some (.lst b))(s:But p H H')(h:NoD H x):NoD H' x:=fun c e=>by
 by_cases hc:c=p
 ·subst hc;exact .inl ⟨b,h2⟩
 ·rcases h c e with⟨xs,q⟩ | ⟨xs,q⟩
  ·exact .inl ⟨xs,s _ _ hc q⟩
  ·exact .inr ⟨xs,s _ _ hc q⟩
def Ts:Nat->Hp->V->Prop
 | 0,H,x=>Kn H x/\NoD H x
 | n+1,H,x=>Kn H x/\∀ xs,tupOf H x=some xs->∀ y∈xs,Ts n H y
theorem Ts.butL:∀{n:Nat} {H H':Hp} {p:Addr} {a b:List V} {x:V},H p=some (.lst a)->H' p=some (.lst b)->But p H H'->Ts n H x->Ts n H' x
 | 0,_,_,_,_,_,_,h1,h2,s,h=>⟨h.1.butL h1 h2 s,h.2.butL h1 h2 s⟩
 | n+1,_,_,_,_,_,_,h1,h2,s,h=>⟨h.1.butL h1 h2 s,fun xs e y hy=>Ts.butL h1 h2 s (h.2 xs ((tupOf_butL h1 h2 s h.1).symm.trans e) y hy)⟩
theorem Ts.pen{n:Nat}{H H':Hp}{p:Addr}{x:V}(h1:Pen H p)(h2:Pen H' p)(s:But p H H')(h:Ts n H x):Ts n H' x:=by
 obtain⟨a,b,c,e⟩:=h1
 obtain⟨a',b',c',e'⟩:=h2
 exact Ts.butL e e' s h
theorem Ts.tup{n:Nat}{H:Hp}{a:Addr}{xs:List V}(e:H a=some (.tup xs))(h:∀ y∈xs,Ts n H y):Ts (n+1) H (.ref a) :=
 ⟨.tup e,fun ys e' y hy=>by rw [tupOf_ref e] at e';cases e';exact h y hy⟩
theorem Ts.flat{n:Nat}{H:Hp}{x:V}(h:Kn H x)(e:tupOf H x=none)(d:NoD H x):Ts n H x:=by
 cases n with
 | zero=>exact⟨h,d⟩
 | succ n=>exact⟨h,fun xs e'=>by rw [e] at e';cases e'⟩
theorem Ts.int(n:Nat)(H:Hp)(i:Int):Ts n H (.int i):=Ts.flat (.int i) rfl (fun _ z=>by cases z)
theorem Ts.bl(n:Nat)(H:Hp)(b:Bool):Ts n H (.bl b):=Ts.flat (.bl b) rfl (fun _ z=>by cases z)
theorem Ts.str(n:Nat)(H:Hp)(x:Str):Ts n H (.str x):=Ts.flat (.str x) rfl (fun _ z=>by cases z)
theorem Ts.non(n:Nat)(H:Hp):Ts n H .non:=Ts.flat .non rfl (fun _ z=>by cases z)
theorem Ts.lst(n:Nat){H:Hp}{a:Addr}{xs:List V}(e:H a=some (.lst xs)):Ts n H (.ref a):=Ts.flat (.lst e) (by unfold tupOf;simp only [e]) (fun c z=>by cases z;exact .inl ⟨xs,e⟩)
theorem Ts.dct(n:Nat){H:Hp}{a:Addr}{ks:List (Key×V)}(e:H a=some (.dK ks)):Ts (n+1) H (.ref a):=⟨.dct e,fun xs e'=>by unfold tupOf at e';simp only [e] at e';cases e'⟩
open AutoSeq1 (wpAny_loadPart')
section
variable {X:Cx}
end
end L2
namespace L2
end L2
namespace L2
open PySem PySem.Spec PyProof.Rows
section
variable {X:Cx}{a b c d:Expr}{ta tb tc td:TE}{pos:Pos}
end
abbrev D:=PyData
def kD:Key->D
 | .inl i=>.int i
 | .inr x=>.str x
def PenO(a:Addr):HO:=.ext fun h=>∃(x y z:Int) (tx ty tz:Tok) (n:Nat),h.get? a=some { cls:=.type "list",data:=.seq #[.int x tx,.int y ty,.int z tz] n }
def HO.per:HO->Bool
 | .tup _=>true
 | .frz _ _=>true
 | .ext _=>true
 | _=>false
def Pers(H H':Hp):Prop:=∀ a o,H a=some o->o.per=true->H' a=some o
theorem Pers.refl(H:Hp):Pers H H:=fun _ _ h _=>h
theorem Pers.trans{H H1 H2:Hp}(a:Pers H H1)(b:Pers H1 H2):Pers H H2:=fun c o h p=>b c o (a c o h p) p
theorem Same.pers{H H':Hp}(s:Same H H'):Pers H H':=fun a o h _=>s a o h
theorem Pers.sqT{K:PySem.W.Frag}{H H':Hp}{a:Addr}{xs:List V}(p:Pers H H')(h:SqT K H a xs):SqT K H' a xs:=by
 rcases h with(h | ⟨o,h⟩) | h
 ·exact .inl (.inl (p _ _ h rfl))
 ·exact .inl (.inr ⟨o,p _ _ h rfl⟩)
 ·exact .inr h
section
variable (K:PySem.W.Frag)
mutual
inductive Rep(H:Hp):D->V->Prop
 | non:Rep H .none .non
 | bl {b:Bool}:Rep H (.bool b) (.bl b)
 | int {i:Int}:Rep H (.int i) (.int i)
 | str {x:Str}:Rep H (.str x) (.str x)
 | tup {xs:List D} {a:Addr} {vs:List V} (h:SqT K H a vs) (r:Reps H xs vs):Rep H (.tuple xs) (.ref a)
 | lst {xs:List D} {a:Addr} {vs:List V} {o:Obj} (h:H a=some (.frz o (.lst vs))) (r:Reps H xs vs):Rep H (.list xs) (.ref a)
 | dic {kvs:List (D×D)} {a:Addr} {kws:List (Key×V)} {o:Obj} (h:H a=some (.frz o (.dK kws))) (r:RepK H kvs kws):Rep H (.dict kvs) (.ref a)
inductive Reps(H:Hp):List D->List V->Prop
 | nil:Reps H [] []
 | cons {d:D} {v:V} {ds:List D} {vs:List V} (r:Rep H d v) (t:Reps H ds vs):Reps H (d::ds) (v::vs)
inductive RepK(H:Hp):List (D×D)->List (Key×V)->Prop
 | nil:RepK H [] []
 | cons {k:Key} {d:D} {v:V} {ds:List (D×D)} {vs:List (Key×V)} (r:Rep H d v) (t:RepK H ds vs):RepK H ((kD k,d)::ds) ((k,v)::vs)
end
end
section
variable {K:PySem.W.Frag}{H H':Hp}
mutual
theorem Rep.mono(p:Pers H H'):∀{d:D} {v:V},Rep K H d v->Rep K H' d v
 | _,_,.non=>.non
 | _,_,.bl=>.bl
 | _,_,.int=>.int
 | _,_,.str=>.str
 | _,_,.tup h r=>.tup (p.sqT h) (Reps.mono p r)
 | _,_,.lst h r=>.lst (p _ _ h rfl) (Reps.mono p r)
 | _,_,.dic h r=>.dic (p _ _ h rfl) (RepK.mono p r)
theorem Reps.mono(p:Pers H H'):∀{ds:List D} {vs:List V},Reps K H ds vs->Reps K H' ds vs
 | _,_,.nil=>.nil
 | _,_,.cons r t=>.cons (Rep.mono p r) (Reps.mono p t)
theorem RepK.mono(p:Pers H H'):∀{ds:List (D×D)} {vs:List (Key×V)},RepK K H ds vs->RepK K H' ds vs
 | _,_,.nil=>.nil
 | _,_,.cons r t=>.cons (Rep.mono p r) (RepK.mono p t)
end
theorem Reps.length:∀{ds:List D} {vs:List V},Reps K H ds vs->ds.length=vs.length
 | _,_,.nil=>rfl
 | _,_,.cons _ t=>by simp [t.length]
theorem Reps.append:∀{ds es:List D} {vs ws:List V},Reps K H ds vs->Reps K H es ws->Reps K H (ds++es) (vs++ws)
 | _,_,_,_,.nil,s=>s
 | _,_,_,_,.cons r t,s=>.cons r (t.append s)
theorem Reps.get:∀{ds:List D} {vs:List V} {i:Nat} {d:D},Reps K H ds vs->ds[i]?=some d->∃ v,vs[i]?=some v/\Rep K H d v
 | _,_,_,_,.nil,e=>by simp at e
 | _,_,0,_,.cons r _,e=>by simp at e;subst e;exact⟨_,rfl,r⟩
 | _,_,i+1,_,.cons _ t,e=>by
  obtain⟨v,h1,h2⟩:=t.get (i:=i) (by simpa using e)
  exact⟨v,by simpa using h1,h2⟩
theorem Reps.take:∀{ds:List D} {vs:List V} (n:Nat),Reps K H ds vs->Reps K H (ds.take n) (vs.take n)
 | _,_,0,_=>.nil
 | _,_,_+1,.nil=>.nil
 | _,_,n+1,.cons r t=>.cons r (t.take n)
theorem Reps.drop:∀{ds:List D} {vs:List V} (n:Nat),Reps K H ds vs->Reps K H (ds.drop n) (vs.drop n)
 | _,_,0,r=>r
 | _,_,_+1,.nil=>.nil
 | _,_,n+1,.cons _ t=>t.drop n
theorem Reps.set{d:D}{v:V}(r:Rep K H d v):∀{ds:List D} {vs:List V} (i:Nat),Reps K H ds vs->Reps K H (ds.set i d) (vs.set i v)
 | _,_,_,.nil=>.nil
 | _,_,0,.cons _ t=>.cons r t
 | _,_,i+1,.cons q t=>.cons q (Reps.set r i t)
theorem Reps.reverse{ds:List D}{vs:List V}(h:Reps K H ds vs):Reps K H ds.reverse vs.reverse:=by
 induction ds generalizing vs with
 | nil=>cases h;exact .nil
 | cons d ds ih =>
  cases h with
  | cons r t=>rw [List.reverse_cons,List.reverse_cons];exact(ih t).append (.cons r .nil)
theorem Reps.rep{ds:List D}{vs:List V}(h:Reps K H ds vs):∀ k:Nat,Reps K H (List.replicate k ds).flatten (List.replicate k vs).flatten
 | 0=>.nil
 | k+1=>by
  rw [List.replicate_succ,List.replicate_succ,List.flatten_cons,List.flatten_cons]
  exact h.append (h.rep k)
theorem Reps.ints:∀{ns:List Int},Reps K H (ns.map PyData.int) (ns.map V.int)
 | []=>.nil
 | _::_=>.cons .int Reps.ints
theorem Reps.of_ints:∀{ns:List Int} {vs:List V},Reps K H (ns.map PyData.int) vs->vs=ns.map V.int
 | [],_,.nil=>rfl
 | _::_,_,.cons .int t=>by rw [Reps.of_ints t];rfl
theorem Reps.same(s:Same H H'){ds:List D}{vs:List V}(r:Reps K H ds vs):Reps K H' ds vs:=r.mono s.pers
theorem Rep.same(s:Same H H'){d:D}{v:V}(r:Rep K H d v):Rep K H' d v:=r.mono s.pers
end
section
variable (K:PySem.W.Frag)
mutual
inductive RepN(H:Hp):D->V->Prop
 | non:RepN H .none .non
 | bl {b:Bool}:RepN H (.bool b) (.bl b)
 | int {i:Int}:RepN H (.int i) (.int i)
 | str {x:Str}:RepN H (.str x) (.str x)
 | tup {xs:List D} {a:Addr} {vs:List V} (h:SqT K H a vs) (r:RepNs H xs vs):RepN H (.tuple xs) (.ref a)
 | lst {xs:List D} {a:Addr} {vs:List V} (h:Rd H a (.lst vs)) (r:RepNs H xs vs):RepN H (.list xs) (.ref a)
inductive RepNs(H:Hp):List D->List V->Prop
 | nil:RepNs H [] []
 | cons {d:D} {v:V} {ds:List D} {vs:List V} (r:RepN H d v) (t:RepNs H ds vs):RepNs H (d::ds) (v::vs)
end
end
section
variable {K:PySem.W.Frag}{H H':Hp}
theorem Same.rd(s:Same H H'){a:Addr}{u:HO}(h:Rd H a u):Rd H' a u:=by
 rcases h with h | ⟨o,h⟩
 ·exact .inl (s _ _ h)
 ·exact .inr ⟨o,s _ _ h⟩
mutual
theorem RepN.gen(ht:∀{a vs},SqT K H a vs->SqT K H' a vs)(hl:∀{a vs},Rd H a (.lst vs)->Rd H' a (.lst vs)):∀{d:D} {v:V},RepN K H d v->RepN K H' d v
 | _,_,.non=>.non
 | _,_,.bl=>.bl
 | _,_,.int=>.int
 | _,_,.str=>.str
 | _,_,.tup h r=>.tup (ht h) (RepNs.gen ht hl r)
 | _,_,.lst h r=>.lst (hl h) (RepNs.gen ht hl r)
theorem RepNs.gen(ht:∀{a vs},SqT K H a vs->SqT K H' a vs)(hl:∀{a vs},Rd H a (.lst vs)->Rd H' a (.lst vs)):∀{ds:List D} {vs:List V},RepNs K H ds vs->RepNs K H' ds vs
 | _,_,.nil=>.nil
 | _,_,.cons r t=>.cons (RepN.gen ht hl r) (RepNs.gen ht hl t)
end
theorem RepN.same(s:Same H H'){d:D}{v:V}(h:RepN K H d v):RepN K H' d v:=h.gen (fun h=>s.pers.sqT h) (fun h=>s.rd h)
theorem RepNs.same(s:Same H H'){ds:List D}{vs:List V}(h:RepNs K H ds vs):RepNs K H' ds vs:=h.gen (fun h=>s.pers.sqT h) (fun h=>s.rd h)
mutual
theorem Rep.now:∀{d:D} {v:V},Rep K H d v->(∀ kvs,d ≠ .dict kvs)->d.canLay0=true->RepN K H d v
 | _,_,.non,_,_=>.non
 | _,_,.bl,_,_=>.bl
 | _,_,.int,_,_=>.int
 | _,_,.str,_,_=>.str
 | _,_,.tup h r,_,c=>.tup h (Reps.now r (by simpa [PyData.canLay0] using c))
 | _,_,.lst h r,_,c=>.lst (.inr ⟨_,h⟩) (Reps.now r (by simpa [PyData.canLay0] using c))
 | _,_,.dic _ _,n,_=>absurd rfl (n _)
theorem Reps.now:∀{ds:List D} {vs:List V},Reps K H ds vs->PyData.canLayAll0 ds=true->RepNs K H ds vs
 | _,_,.nil,_=>.nil
 | _,_,.cons r t,c=>by
  simp only [PyData.canLayAll0,Bool.and_eq_true] at c
  exact .cons (Rep.now r (fun kvs e=>by subst e;simp [PyData.canLay0] at c) c.1) (Reps.now t c.2)
end
theorem RepN.frz{a:Addr}{vs:List V}{o:Obj}(e:H a=some (.lst vs)){d:D}{v:V}(h:RepN K H d v):RepN K (upd H a (.frz o (.lst vs))) d v:=by
 have ne:∀{b:Addr} {u:HO},H b=some u->u ≠ .lst vs->b≠a:=fun{b u} h n z=>by rw [z,e] at h;cases h;exact n rfl
 refine h.gen (fun{b ws} h=>?_) (fun{b ws} h=>?_)
 ·rcases h with(h | ⟨o,h⟩) | h
  ·exact .inl (.inl (by rw [upd_ne (ne h (by intro z;cases z))];exact h))
  ·exact .inl (.inr ⟨o,by rw [upd_ne (ne h (by intro z;cases z))];exact h⟩)
  ·exact .inr h
 ·rcases h with h | ⟨o',h⟩
  ·by_cases z:b=a
   ·subst z
    rw [e] at h
    cases h
    exact .inr ⟨_,upd_same⟩
   ·exact .inl (by rw [upd_ne z];exact h)
  ·exact .inr ⟨o',by rw [upd_ne (ne h (by intro z;cases z))];exact h⟩
end
inductive Mx where
 | v (d:D) | l (xs:List D)
inductive O where
 | lst (xs:List D)
 | dct (kvs:List (Key×D))
 | nst (xss:List (List D)) (ds:List D)
 | anc (a:Addr) (o:O)
 | ins (c:Str) (fs:List (Str×D))
 | mix (ms:List Mx)
inductive W where
 | val (d:D) | vw (xs:List D) | vd (xs:List (Key×D)) | exc (x:Str×List (Str×Int)) | scr (ns:List Int) | pen | tmp (d:D) | own (o:O)
abbrev DSt:=List (Option W)
def clrS:Option W->Option W
 | some (.tmp _)=>none
 | w=>w
def clr(σ:DSt):DSt:=σ.map clrS
section
variable (K:PySem.W.Frag)
def RepL(H:Hp)(xs:List D)(v:V):Prop:=∃ a vs,v=.ref a/\Rd H a (.lst vs)/\Reps K H xs vs
def RepT(H:Hp)(d:D)(v:V):Prop:=Rep K H d v\/∃ xs,d=.list xs/\RepL K H xs v
def RepKV(K:PySem.W.Frag)(H:Hp)(ks:List (Key×D))(vs:List (Key×V)):Prop:=ks.map (·.1)=vs.map (·.1)/\Reps K H (ks.map (·.2)) (vs.map (·.2))
def Nst(H:Hp):List (List D)->List Addr->Prop
 | [],[]=>True
 | xs::xss,b::bs=>(∃ vs,H b=some (.lst vs)/\Reps K H xs vs)/\Nst H xss bs
 | _,_=>False
def MxR(H:Hp):List Mx->List V->List Addr->Prop
 | [],[],[]=>True
 | .v d::ms,u::us,bs=>Rep K H d u/\MxR H ms us bs
 | .l xs::ms,u::us,b::bs=>u=.ref b/\(∃ vs,H b=some (.lst vs)/\Reps K H xs vs)/\MxR H ms us bs
 | _,_,_=>False
def RepO(H:Hp):O->V->List Addr->Prop
 | .mix ms,v,fp=>∃ a us bs,v=.ref a/\fp=a::bs/\H a=some (.lst us)/\MxR K H ms us bs
 | .lst xs,v,fp=>∃ a vs,v=.ref a/\fp = [a]/\H a=some (.lst vs)/\Reps K H xs vs
 | .dct ks,v,fp=>∃ a vs,v=.ref a/\fp = [a]/\H a=some (.dK vs)/\RepKV K H ks vs
 | .nst xss ds,v,fp=>∃ a as us,v=.ref a/\fp=a::as/\H a=some (.lst (as.map V.ref++us))/\Nst K H xss as/\Reps K H ds us
 | .anc a o,v,fp=>v=.ref a/\RepO H o v fp
 | .ins c fs,v,fp=>∃ a dx C fv,v=.ref a/\fp = [a,dx]/\PySem.W.nsIn K mainGlobals c=some (some (.ref C))/\H a=some (.ins C dx fv)/\H dx=some (.own a)/\fv.map (·.1)=fs.map (·.1)/\Reps K H (fs.map (·.2)) (fv.map (·.2))
def RepD(H:Hp)(xs:List (Key×D))(v:V):Prop:=∃ a vs,v=.ref a/\H a=some (.dK vs)/\RepKV K H xs vs
def ExcO(C:Addr)(od:Option Addr)(a:Addr):HO:=.ext fun h=>∃ oe,h.get? a=some oe/\oe.cls=.ref C/\oe.dict=od/\∃ vs,oe.data=.fields vs
def RepX(H:Hp)(x:Str×List (Str×Int))(v:V):Prop:=∃ a C od,v=.ref a/\PySem.W.nsIn K mainGlobals x.1=some (some (.ref C))/\H a=some (ExcO C od a)/\((x.2 = []/\od=none)\/∃ d,od=some d/\H d=some (.xd (x.2.map fun p=>(p.1,V.int p.2))))
inductive Slots(H₀ H:Hp):DSt->St->List Addr->Prop
 | nil:Slots H₀ H [] [] []
 | none {v:Option V} {ws:DSt} {vs:St} {fp:List Addr} (t:Slots H₀ H ws vs fp):Slots H₀ H (Option.none::ws) (v::vs) fp
 | val {d:D} {v:V} {ws:DSt} {vs:St} {fp:List Addr} (r:Rep K H d v) (t:Slots H₀ H ws vs fp):Slots H₀ H (some (.val d)::ws) (some v::vs) fp
 | vw {xs:List D} {v:V} {ws:DSt} {vs:St} {fp:List Addr} (r:RepL K H₀ xs v) (t:Slots H₀ H ws vs fp):Slots H₀ H (some (.vw xs)::ws) (some v::vs) fp
 | vd {xs:List (Key×D)} {v:V} {ws:DSt} {vs:St} {fp:List Addr} (r:RepD K H₀ xs v) (t:Slots H₀ H ws vs fp):Slots H₀ H (some (.vd xs)::ws) (some v::vs) fp
 | exc {xs:Str×List (Str×Int)} {v:V} {ws:DSt} {vs:St} {fp:List Addr} (r:RepX K H₀ xs v) (t:Slots H₀ H ws vs fp):Slots H₀ H (some (.exc xs)::ws) (some v::vs) fp
 | scr {ns:List Int} {a:Addr} {ws:DSt} {vs:St} {fp:List Addr} (r:SqL K H₀ a (ns.map V.int)) (t:Slots H₀ H ws vs fp):Slots H₀ H (some (.scr ns)::ws) (some (.ref a)::vs) fp
 | pen {a:Addr} {ws:DSt} {vs:St} {fp:List Addr} (r:H a=some (PenO a)) (t:Slots H₀ H ws vs fp):Slots H₀ H (some .pen::ws) (some (.ref a)::vs) fp
 | tmp {d:D} {v:V} {ws:DSt} {vs:St} {fp:List Addr} (r:RepN K H d v) (t:Slots H₀ H ws vs fp):Slots H₀ H (some (.tmp d)::ws) (some v::vs) fp
 | own {o:O} {v:V} {f:List Addr} {ws:DSt} {vs:St} {fp:List Addr} (r:RepO K H o v f) (t:Slots H₀ H ws vs fp):Slots H₀ H (some (.own o)::ws) (some v::vs) (f++fp)
structure DOk(H₀ H:Hp)(σD:DSt)(σ:St):Prop where
 same:Same H₀ H
 slots:∃ fp,Slots K H₀ H σD σ fp/\fp.Nodup/\∀ a∈fp,H₀ a=none
end
section
variable {K:PySem.W.Frag}{H₀ H H':Hp}{σD:DSt}{σ:St}
theorem RepX.same(s:Same H H'){xs:Str×List (Str×Int)}{v:V}:RepX K H xs v->RepX K H' xs v:=by
 rintro ⟨a,C,od,rfl,n,h,r⟩
 refine⟨a,C,od,rfl,n,s _ _ h,?_⟩
 rcases r with r | ⟨d,e,r⟩
 ·exact .inl r
 ·exact .inr ⟨d,e,s _ _ r⟩
theorem RepD.same(s:Same H H'){xs:List (Key×D)}{v:V}:RepD K H xs v->RepD K H' xs v:=by
 rintro ⟨a,vs,rfl,h,r⟩
 exact⟨a,vs,rfl,s _ _ h,r.1,r.2.same s⟩
theorem RepL.same(s:Same H H'){xs:List D}{v:V}:RepL K H xs v->RepL K H' xs v:=by
 rintro ⟨a,vs,rfl,h,r⟩
 refine⟨a,vs,rfl,?_,r.same s⟩
 rcases h with h | ⟨o,h⟩
 ·exact .inl (s _ _ h)
 ·exact .inr ⟨o,s _ _ h⟩
theorem RepT.same(s:Same H H'){d:D}{v:V}:RepT K H d v->RepT K H' d v
 | .inl h=>.inl (h.same s)
 | .inr ⟨xs,e,h⟩=>.inr ⟨xs,e,h.same s⟩
theorem Rep.top{d:D}{v:V}(h:Rep K H d v):RepT K H d v:=.inl h
theorem RepT.list{xs:List D}{v:V}(h:RepT K H (.list xs) v):RepL K H xs v:=by
 rcases h with h | ⟨ys,e,h⟩
 ·cases h with
  | lst h r=>exact⟨_,_,rfl,.inr ⟨_,h⟩,r⟩
 ·cases e;exact h
theorem RepL.sq{xs:List D}{v:V}(h:RepL K H xs v):∃ a vs,v=.ref a/\SqL K H a vs/\Reps K H xs vs:=by
 obtain⟨a,vs,rfl,h,r⟩:=h
 exact⟨a,vs,rfl,.inl h,r⟩
theorem Nst.len:∀{xss:List (List D)} {as:List Addr},Nst K H xss as->as.length=xss.length
 | [],[],_=>rfl
 | _::_,_::_,h=>by rw [List.length_cons,List.length_cons,Nst.len h.2]
theorem Nst.live:∀{xss:List (List D)} {as:List Addr},Nst K H xss as->∀ b∈as,∃ vs,H b=some (.lst vs)
 | [],[],_,b,hb=>by cases hb
 | _::_,_::_,h,b,hb=>by
  rcases List.mem_cons.mp hb with rfl | hb
  ·obtain⟨vs,e,_⟩:=h.1;exact⟨vs,e⟩
  ·exact Nst.live h.2 b hb
theorem Nst.keep(p:Pers H H'):∀{xss:List (List D)} {as:List Addr},(∀ a∈as,∀ u,H a=some u->H' a=some u)->Nst K H xss as->Nst K H' xss as
 | [],[],_,_=>trivial
 | _::_,b::_,k,h=>by
  obtain⟨⟨vs,e,r⟩,t⟩:=h
  exact⟨⟨vs,k b List.mem_cons_self _ e,r.mono p⟩,Nst.keep p (fun a ha=>k a (List.mem_cons_of_mem _ ha)) t⟩
theorem MxR.live:∀{ms:List Mx} {us:List V} {bs:List Addr},MxR K H ms us bs->∀ b∈bs,∃ vs,H b=some (.lst vs)
 | [],[],[],_,b,hb=>by cases hb
 | .v _::_,_::_,_,h,b,hb=>MxR.live h.2 b hb
 | .l _::_,_::_,c::_,h,b,hb=>by
  rcases List.mem_cons.mp hb with rfl | hb
  ·obtain⟨vs,e,_⟩:=h.2.1;exact⟨vs,e⟩
  ·exact MxR.live h.2.2 b hb
theorem MxR.keep(p:Pers H H'):∀{ms:List Mx} {us:List V} {bs:List Addr},(∀ a∈bs,∀ u,H a=some u->H' a=some u)->MxR K H ms us bs->MxR K H' ms us bs
 | [],[],[],_,_=>trivial
 | .v _::_,_::_,_,k,h=>⟨h.1.mono p,MxR.keep p k h.2⟩
 | .l _::_,_::_,b::_,k,h=>by
  obtain⟨e0,⟨vs,e,r⟩,t⟩:=h
  exact⟨e0,⟨vs,k b List.mem_cons_self _ e,r.mono p⟩,MxR.keep p (fun a ha=>k a (List.mem_cons_of_mem _ ha)) t⟩
theorem MxR.fp{H2:Hp}:∀{ms:List Mx} {us:List V} {bs cs:List Addr},MxR K H ms us bs->MxR K H2 ms us cs->bs=cs
 | [],[],[],[],_,_=>rfl
 | .v _::_,_::_,_,_,h,g=>MxR.fp h.2 g.2
 | .l _::_,_::_,_::_,_::_,h,g=>by
  have:=h.1.symm.trans g.1
  cases this
  rw [MxR.fp h.2.2 g.2.2]
theorem MxR.len:∀{ms:List Mx} {us:List V} {bs:List Addr},MxR K H ms us bs->ms.length=us.length
 | [],[],[],_=>rfl
 | .v _::_,_::_,_,h=>by rw [List.length_cons,List.length_cons,MxR.len h.2]
 | .l _::_,_::_,_::_,h=>by rw [List.length_cons,List.length_cons,MxR.len h.2.2]
theorem RepO.live{o:O}{v:V}{f:List Addr}(h:RepO K H o v f):∀ a∈f,∃ u,H a=some u/\u.per=false:=by
 induction o with
 | anc a o ih=>exact ih h.2
 | mix ms =>
  obtain⟨a,us,bs,rfl,rfl,e,m⟩:=h
  intro b hb
  rcases List.mem_cons.mp hb with rfl | hb
  ·exact⟨_,e,rfl⟩
  ·obtain⟨vs,e2⟩:=m.live b hb
   exact⟨_,e2,rfl⟩
 | ins c fs =>
  obtain⟨a,dx,C,fv,rfl,rfl,_,e1,e2,_⟩:=h
  intro b hb
  simp only [List.mem_cons,List.not_mem_nil,or_false] at hb
  rcases hb with rfl | rfl
  ·exact⟨_,e1,rfl⟩
  ·exact⟨_,e2,rfl⟩
 | lst xs =>
  obtain⟨a,vs,rfl,rfl,e,r⟩:=h
  intro b hb
  rw [List.mem_singleton.mp hb]
  exact⟨_,e,rfl⟩
 | dct ks =>
  obtain⟨a,vs,rfl,rfl,e,r⟩:=h
  intro b hb
  rw [List.mem_singleton.mp hb]
  exact⟨_,e,rfl⟩
 | nst xss ds =>
  obtain⟨a,as,us,rfl,rfl,e,n,r⟩:=h
  intro b hb
  rcases List.mem_cons.mp hb with rfl | hb
  ·exact⟨_,e,rfl⟩
  ·obtain⟨vs,e2⟩:=n.live b hb
   exact⟨_,e2,rfl⟩
theorem RepO.keep{o:O}{v:V}{f:List Addr}(p:Pers H H')(k:∀ a∈f,∀ u,H a=some u->H' a=some u)(h:RepO K H o v f):RepO K H' o v f:=by
 induction o with
 | anc a o ih=>exact⟨h.1,ih h.2⟩
 | mix ms =>
  obtain⟨a,us,bs,rfl,rfl,e,m⟩:=h
  exact⟨a,us,bs,rfl,rfl,k a List.mem_cons_self _ e,m.keep p fun b hb=>k b (List.mem_cons_of_mem _ hb)⟩
 | ins c fs =>
  obtain⟨a,dx,C,fv,rfl,rfl,n,e1,e2,e3,r⟩:=h
  exact⟨a,dx,C,fv,rfl,rfl,n,k a (by simp) _ e1,k dx (by simp) _ e2,e3,r.mono p⟩
 | lst xs =>
  obtain⟨a,vs,rfl,rfl,e,r⟩:=h
  exact⟨a,vs,rfl,rfl,k a (by simp) _ e,r.mono p⟩
 | dct ks =>
  obtain⟨a,vs,rfl,rfl,e,r⟩:=h
  exact⟨a,vs,rfl,rfl,k a (by simp) _ e,r.1,r.2.mono p⟩
 | nst xss ds =>
  obtain⟨a,as,us,rfl,rfl,e,n,r⟩:=h
  exact⟨a,as,us,rfl,rfl,k a List.mem_cons_self _ e,n.keep p fun b hb=>k b (List.mem_cons_of_mem _ hb),r.mono p⟩
theorem Slots.live{fp:List Addr}(h:Slots K H₀ H σD σ fp):∀ a∈fp,∃ u,H a=some u/\u.per=false:=by
 induction h with
 | nil=>intro a ha;cases ha
 | none _ ih=>exact ih
 | val _ _ ih=>exact ih
 | vw _ _ ih=>exact ih
 | vd _ _ ih=>exact ih
 | exc _ _ ih=>exact ih
 | scr _ _ ih=>exact ih
 | pen _ _ ih=>exact ih
 | tmp _ _ ih=>exact ih
 | own r _ ih =>
  intro a ha
  rcases List.mem_append.mp ha with z | z
  ·exact r.live a z
  ·exact ih a z
theorem Slots.keep{fp:List Addr}(p:Pers H H')(kn:∀{d:D} {v:V},RepN K H d v->RepN K H' d v)(k:∀ a∈fp,∀ u,H a=some u->H' a=some u)(h:Slots K H₀ H σD σ fp):Slots K H₀ H' σD σ fp:=by
 induction h with
 | nil=>exact .nil
 | none _ ih=>exact .none (ih k)
 | val r _ ih=>exact .val (r.mono p) (ih k)
 | vw r _ ih=>exact .vw r (ih k)
 | vd r _ ih=>exact .vd r (ih k)
 | exc r _ ih=>exact .exc r (ih k)
 | scr r _ ih=>exact .scr r (ih k)
 | pen r _ ih=>exact .pen (p _ _ r rfl) (ih k)
 | tmp r _ ih=>exact .tmp (kn r) (ih k)
 | own r _ ih=>exact .own (r.keep p fun a ha=>k a (List.mem_append_left _ ha)) (ih fun a ha=>k a (List.mem_append_right _ ha))
theorem Slots.keepC{fp:List Addr}(p:Pers H H')(k:∀ a∈fp,∀ u,H a=some u->H' a=some u)(h:Slots K H₀ H σD σ fp):Slots K H₀ H' (clr σD) σ fp:=by
 induction h with
 | nil=>exact .nil
 | none _ ih=>exact .none (ih k)
 | val r _ ih=>exact .val (r.mono p) (ih k)
 | vw r _ ih=>exact .vw r (ih k)
 | vd r _ ih=>exact .vd r (ih k)
 | exc r _ ih=>exact .exc r (ih k)
 | scr r _ ih=>exact .scr r (ih k)
 | pen r _ ih=>exact .pen (p _ _ r rfl) (ih k)
 | tmp r _ ih=>exact .none (ih k)
 | own r _ ih=>exact .own (r.keep p fun a ha=>k a (List.mem_append_left _ ha)) (ih fun a ha=>k a (List.mem_append_right _ ha))
theorem Slots.length{fp:List Addr}(h:Slots K H₀ H σD σ fp):σD.length=σ.length:=by
 induction h with
 | nil=>rfl
 | none _ ih=>simp [ih]
 | val _ _ ih=>simp [ih]
 | vw _ _ ih=>simp [ih]
 | vd _ _ ih=>simp [ih]
 | exc _ _ ih=>simp [ih]
 | scr _ _ ih=>simp [ih]
 | pen _ _ ih=>simp [ih]
 | tmp _ _ ih=>simp [ih]
 | own _ _ ih=>simp [ih]
theorem DOk.after(s:Same H H')(h:DOk K H₀ H σD σ):DOk K H₀ H' σD σ:=by
 obtain⟨s0,fp,sl,nd,fr⟩:=h
 exact⟨s0.trans s,fp,sl.keep s.pers (fun h=>h.same s) fun a _ u e=>s a u e,nd,fr⟩
theorem DOk.len(h:DOk K H₀ H σD σ):σD.length=σ.length:=let ⟨_,_,sl,_⟩:=h;sl.length
theorem Slots.get{fp:List Addr}(h:Slots K H₀ H σD σ fp):∀{i:Nat} {w:W},σD[i]?=some (some w)->∃ v,σ[i]?=some (some v)/\match w with
  | .val d=>Rep K H d v
  | .vw xs=>RepL K H₀ xs v
  | .vd xs=>RepD K H₀ xs v
  | .exc xs=>RepX K H₀ xs v
  | .scr ns=>∃ a,v=.ref a/\SqL K H₀ a (ns.map V.int)
  | .pen=>∃ a,v=.ref a/\H a=some (PenO a)
  | .tmp d=>RepN K H d v
  | .own o=>∃ f,RepO K H o v f/\∀ a∈f,a∈fp:=by
 induction h with
 | nil=>intro i w e;simp at e
 | none _ ih =>
  intro i w e
  cases i with
  | zero=>simp at e
  | succ i=>exact ih (by simpa using e)
 | val r _ ih =>
  intro i w e
  cases i with
  | zero=>simp at e;subst e;exact⟨_,rfl,r⟩
  | succ i=>exact ih (by simpa using e)
 | vw r _ ih =>
  intro i w e
  cases i with
  | zero=>simp at e;subst e;exact⟨_,rfl,r⟩
  | succ i=>exact ih (by simpa using e)
 | vd r _ ih =>
  intro i w e
  cases i with
  | zero=>simp at e;subst e;exact⟨_,rfl,r⟩
  | succ i=>exact ih (by simpa using e)
 | exc r _ ih =>
  intro i w e
  cases i with
  | zero=>simp at e;subst e;exact⟨_,rfl,r⟩
  | succ i=>exact ih (by simpa using e)
 | scr r _ ih =>
  intro i w e
  cases i with
  | zero=>simp at e;subst e;exact⟨_,rfl,_,rfl,r⟩
  | succ i=>exact ih (by simpa using e)
 | pen r _ ih =>
  intro i w e
  cases i with
  | zero=>simp at e;subst e;exact⟨_,rfl,_,rfl,r⟩
  | succ i=>exact ih (by simpa using e)
 | tmp r _ ih =>
  intro i w e
  cases i with
  | zero=>simp at e;subst e;exact⟨_,rfl,r⟩
  | succ i=>exact ih (by simpa using e)
 | own r _ ih =>
  intro i w e
  cases i with
  | zero=>simp at e;subst e;exact⟨_,rfl,_,r,fun a ha=>List.mem_append_left _ ha⟩
  | succ i =>
   obtain⟨v,e1,e2⟩:=ih (by simpa using e)
   refine⟨v,e1,?_⟩
   cases w with
   | val d=>exact e2
   | vw xs=>exact e2
   | vd xs=>exact e2
   | exc xs=>exact e2
   | scr ns=>exact e2
   | pen=>exact e2
   | tmp d=>exact e2
   | own o=>obtain⟨f,r,m⟩:=e2;exact⟨f,r,fun a ha=>List.mem_append_right _ (m a ha)⟩
theorem DOk.val(h:DOk K H₀ H σD σ){i:Nat}{d:D}(e:σD[i]?=some (some (.val d))):∃ v,σ[i]?=some (some v)/\Rep K H d v:=let ⟨_,_,sl,_⟩:=h;sl.get e
theorem DOk.vw(h:DOk K H₀ H σD σ){i:Nat}{xs:List D}(e:σD[i]?=some (some (.vw xs))):∃ v,σ[i]?=some (some v)/\RepL K H xs v:=by
 obtain⟨s,_,sl,_⟩:=h
 obtain⟨v,e1,e2⟩:=sl.get e
 exact⟨v,e1,RepL.same s e2⟩
theorem DOk.vd(h:DOk K H₀ H σD σ){i:Nat}{xs:List (Key×D)}(e:σD[i]?=some (some (.vd xs))):∃ v,σ[i]?=some (some v)/\RepD K H xs v:=by
 obtain⟨s,_,sl,_⟩:=h
 obtain⟨v,e1,e2⟩:=sl.get e
 exact⟨v,e1,RepD.same s e2⟩
theorem DOk.exc(h:DOk K H₀ H σD σ){i:Nat}{xs:Str×List (Str×Int)}(e:σD[i]?=some (some (.exc xs))):∃ v,σ[i]?=some (some v)/\RepX K H xs v:=by
 obtain⟨s,_,sl,_⟩:=h
 obtain⟨v,e1,e2⟩:=sl.get e
 exact⟨v,e1,RepX.same s e2⟩
theorem DOk.scr(h:DOk K H₀ H σD σ){i:Nat}{ns:List Int}(e:σD[i]?=some (some (.scr ns))):∃ a,σ[i]?=some (some (.ref a))/\SqL K H a (ns.map V.int):=by
 obtain⟨s,_,sl,_⟩:=h
 obtain⟨v,e1,a,rfl,e2⟩:=sl.get e
 exact⟨a,e1,s.seq e2⟩
theorem DOk.pen(h:DOk K H₀ H σD σ){i:Nat}(e:σD[i]?=some (some .pen)):∃ a,σ[i]?=some (some (.ref a))/\H a=some (PenO a):=by
 obtain⟨s,_,sl,_⟩:=h
 obtain⟨v,e1,a,rfl,e2⟩:=sl.get e
 exact⟨a,e1,e2⟩
theorem DOk.tmp(h:DOk K H₀ H σD σ){i:Nat}{d:D}(e:σD[i]?=some (some (.tmp d))):∃ v,σ[i]?=some (some v)/\RepN K H d v:=let ⟨_,_,sl,_⟩:=h;sl.get e
theorem DOk.ownL(h:DOk K H₀ H σD σ){i:Nat}{xs:List D}(e:σD[i]?=some (some (.own (.lst xs)))):∃ a vs,σ[i]?=some (some (.ref a))/\H a=some (.lst vs)/\Reps K H xs vs/\H₀ a=none:=by
 obtain⟨s,fp,sl,nd,fr⟩:=h
 obtain⟨v,e1,f,⟨a,vs,rfl,rfl,e2,r⟩,m⟩:=sl.get e
 exact⟨a,vs,e1,e2,r,fr a (m a (by simp))⟩
theorem DOk.ownD(h:DOk K H₀ H σD σ){i:Nat}{xs:List (Key×D)}(e:σD[i]?=some (some (.own (.dct xs)))):∃ a vs,σ[i]?=some (some (.ref a))/\H a=some (.dK vs)/\RepKV K H xs vs/\H₀ a=none:=by
 obtain⟨s,fp,sl,nd,fr⟩:=h
 obtain⟨v,e1,f,⟨a,vs,rfl,rfl,e2,r⟩,m⟩:=sl.get e
 exact⟨a,vs,e1,e2,r,fr a (m a (by simp))⟩
theorem Slots.set{fp f:List Addr}(h:Slots K H₀ H σD σ fp){w:Option W}{v:Option V}(hw:∀{ws:DSt} {vs:St} {g:List Addr},Slots K H₀ H ws vs g->Slots K H₀ H (w::ws) (v::vs) (f++g)):
  ∀(i:Nat),i<σD.length->∃ g g',Slots K H₀ H (σD.set i w) (σ.set i v) (g++(f++g'))/\(g++g').Sublist fp:=by
 induction h with
 | nil=>intro i hi;exact absurd hi (Nat.not_lt_zero _)
 | none t ih =>
  intro i hi
  cases i with
  | zero=>exact⟨[],_,hw t,List.Sublist.refl _⟩
  | succ i=>obtain⟨g,g',e,s⟩:=ih i (Nat.lt_of_succ_lt_succ hi);exact⟨g,g',.none e,s⟩
 | val r t ih =>
  intro i hi
  cases i with
  | zero=>exact⟨[],_,hw t,List.Sublist.refl _⟩
  | succ i=>obtain⟨g,g',e,s⟩:=ih i (Nat.lt_of_succ_lt_succ hi);exact⟨g,g',.val r e,s⟩
 | vw r t ih =>
  intro i hi
  cases i with
  | zero=>exact⟨[],_,hw t,List.Sublist.refl _⟩
  | succ i=>obtain⟨g,g',e,s⟩:=ih i (Nat.lt_of_succ_lt_succ hi);exact⟨g,g',.vw r e,s⟩
 | vd r t ih =>
  intro i hi
  cases i with
  | zero=>exact⟨[],_,hw t,List.Sublist.refl _⟩
  | succ i=>obtain⟨g,g',e,s⟩:=ih i (Nat.lt_of_succ_lt_succ hi);exact⟨g,g',.vd r e,s⟩
 | exc r t ih =>
  intro i hi
  cases i with
  | zero=>exact⟨[],_,hw t,List.Sublist.refl _⟩
  | succ i=>obtain⟨g,g',e,s⟩:=ih i (Nat.lt_of_succ_lt_succ hi);exact⟨g,g',.exc r e,s⟩
 | scr r t ih =>
  intro i hi
  cases i with
  | zero=>exact⟨[],_,hw t,List.Sublist.refl _⟩
  | succ i=>obtain⟨g,g',e,s⟩:=ih i (Nat.lt_of_succ_lt_succ hi);exact⟨g,g',.scr r e,s⟩
 | pen r t ih =>
  intro i hi
  cases i with
  | zero=>exact⟨[],_,hw t,List.Sublist.refl _⟩
  | succ i=>obtain⟨g,g',e,s⟩:=ih i (Nat.lt_of_succ_lt_succ hi);exact⟨g,g',.pen r e,s⟩
 | tmp r t ih =>
  intro i hi
  cases i with
  | zero=>exact⟨[],_,hw t,List.Sublist.refl _⟩
  | succ i=>obtain⟨g,g',e,s⟩:=ih i (Nat.lt_of_succ_lt_succ hi);exact⟨g,g',.tmp r e,s⟩
 | @own o v' f' ws vs fp' r t ih =>
  intro i hi
  cases i with
  | zero=>exact⟨[],_,hw t,List.sublist_append_right _ _⟩
  | succ i =>
   obtain⟨g,g',e,s⟩:=ih i (Nat.lt_of_succ_lt_succ hi)
   refine⟨f'++g,g',?_,?_⟩
   ·rw [List.append_assoc];exact .own r e
   ·rw [List.append_assoc];exact(List.Sublist.refl _).append s
theorem DOk.put(h:DOk K H₀ H σD σ){w:Option W}{v:Option V}(hw:∀{ws:DSt} {vs:St} {g:List Addr},Slots K H₀ H ws vs g->Slots K H₀ H (w::ws) (v::vs) g)(i:Nat):DOk K H₀ H (σD.set i w) (σ.set i v):=by
 obtain⟨s,fp,sl,nd,fr⟩:=h
 by_cases hi:i<σD.length
 ·obtain⟨g,g',e,sb⟩:=sl.set (f:=[]) hw i hi
  rw [List.nil_append] at e
  exact⟨s,_,e,sb.nodup nd,fun a ha=>fr a (sb.subset ha)⟩
 ·rw [List.set_eq_of_length_le (by omega),List.set_eq_of_length_le (by rw [<-sl.length];omega)]
  exact⟨s,fp,sl,nd,fr⟩
theorem DOk.setV(h:DOk K H₀ H σD σ){d:D}{v:V}(r:Rep K H d v)(i:Nat):DOk K H₀ H (σD.set i (some (.val d))) (σ.set i (some v)):=h.put (.val r) i
theorem DOk.setN(h:DOk K H₀ H σD σ)(v:Option V)(i:Nat):DOk K H₀ H (σD.set i none) (σ.set i v):=h.put (.none) i
theorem DOk.setO{H1:Hp}(h:DOk K H₀ H1 σD σ)(s1:Same H1 H){a:Addr}{vs:List V}{xs:List D}(n:H1 a=none)(e:H a=some (.lst vs))(r:Reps K H xs vs)(i:Nat):DOk K H₀ H (σD.set i (some (.own (.lst xs)))) (σ.set i (some (.ref a))):=by
 obtain⟨s,fp,sl,nd,fr⟩:=id h
 have lv:∀ b∈fp,b≠a:=fun b hb z=>by
  obtain⟨u,e1,_⟩:=sl.live b hb
  rw [z,n] at e1;cases e1
 obtain⟨s',fp',sl',_⟩:=id (h.after s1)
 have sl2:Slots K H₀ H σD σ fp:=sl.keep s1.pers (fun h=>h.same s1) fun b _ u e=>s1 b u e
 by_cases hi:i<σD.length
 ·obtain⟨g,g',e',sb⟩:=sl2.set (f:=[a]) (w:=some (.own (.lst xs))) (v:=some (.ref a)) (fun t=>.own ⟨a,vs,rfl,rfl,e,r⟩ t) i hi
  refine⟨s',_,e',?_,fun b hb=>?_⟩
  ·have nd2:=sb.nodup nd
   rw [List.nodup_append] at nd2 ⊢
   refine⟨nd2.1,?_,fun x hx y hy=>?_⟩
   ·rw [List.singleton_append,List.nodup_cons]
    exact⟨fun z=>lv a (sb.subset (List.mem_append_right _ z)) rfl,nd2.2.1⟩
   ·rcases List.mem_append.mp hy with z | z
    ·rw [List.mem_singleton.mp z];exact lv x (sb.subset (List.mem_append_left _ hx))
    ·exact nd2.2.2 x hx y z
  ·rcases List.mem_append.mp hb with z | z
   ·exact fr b (sb.subset (List.mem_append_left _ z))
   ·rcases List.mem_append.mp z with z | z
    ·rw [List.mem_singleton.mp z]
     cases q:H₀ a with
     | none=>rfl
     | some u=>rw [s a u q] at n;cases n
    ·exact fr b (sb.subset (List.mem_append_right _ z))
 ·rw [List.set_eq_of_length_le (by omega),List.set_eq_of_length_le (by rw [<-sl2.length];omega)]
  exact⟨s',fp,sl2,nd,fr⟩
theorem Slots.write{fp:List Addr}(h:Slots K H₀ H σD σ fp)(nd:fp.Nodup){i:Nat}{xs ys:List D}{a:Addr}{vs:List V}(e:σD[i]?=some (some (.own (.lst xs))))(ev:σ[i]?=some (some (.ref a)))(ea:∃ zs,H a=some (.lst zs))(r:Reps K H ys vs):
  Slots K H₀ (upd H a (.lst vs)) (clr (σD.set i (some (.own (.lst ys))))) σ fp:=by
 have ps:Pers H (upd H a (.lst vs)):=fun b o hb hp=>by
  obtain⟨zs,ea⟩:=ea
  rw [upd_ne (fun z=>by rw [z,ea] at hb;cases hb;cases hp)]
  exact hb
 induction h generalizing i with
 | nil=>simp at e
 | none t ih =>
  cases i with
  | zero=>simp at e
  | succ i=>exact .none (ih nd (by simpa using e) (by simpa using ev))
 | val q t ih =>
  cases i with
  | zero=>simp at e
  | succ i=>exact .val (q.mono ps) (ih nd (by simpa using e) (by simpa using ev))
 | vw q t ih =>
  cases i with
  | zero=>simp at e
  | succ i=>exact .vw q (ih nd (by simpa using e) (by simpa using ev))
 | vd q t ih =>
  cases i with
  | zero=>simp at e
  | succ i=>exact .vd q (ih nd (by simpa using e) (by simpa using ev))
 | exc q t ih =>
  cases i with
  | zero=>simp at e
  | succ i=>exact .exc q (ih nd (by simpa using e) (by simpa using ev))
 | scr q t ih =>
  cases i with
  | zero=>simp at e
  | succ i=>exact .scr q (ih nd (by simpa using e) (by simpa using ev))
 | pen q t ih =>
  cases i with
  | zero=>simp at e
  | succ i=>exact .pen (ps _ _ q rfl) (ih nd (by simpa using e) (by simpa using ev))
 | tmp q t ih =>
  cases i with
  | zero=>simp at e
  | succ i=>exact .none (ih nd (by simpa using e) (by simpa using ev))
 | @own o v f ws wvs fp' q t ih =>
  rw [List.nodup_append] at nd
  cases i with
  | zero =>
   simp at e ev
   subst e ev
   obtain⟨b,zs,eb,rfl,hb,rb⟩:=q
   cases eb
   refine .own ⟨a,vs,rfl,rfl,upd_same,r.mono ps⟩ (t.keepC ps fun c hc u hu=>?_)
   rw [upd_ne (fun z=>nd.2.2 a (by simp) c hc z.symm)]
   exact hu
  | succ i =>
   have e':ws[i]?=some (some (.own (.lst xs))):=by simpa using e
   have ev':wvs[i]?=some (some (.ref a)):=by simpa using ev
   refine .own (q.keep ps fun c hc u hu=>?_) (ih nd.2.1 e' ev')
   obtain⟨v',e1,f',⟨b,zs,rfl,rfl,hb,rb⟩,m⟩:=t.get e'
   rw [ev'] at e1
   cases e1
   rw [upd_ne (fun z=>nd.2.2 c hc a (m a (by simp)) z)]
   exact hu
theorem upd_pers{a:Addr}{o o':HO}(e:H a=some o)(p:o.per=false):Pers H (upd H a o'):=fun b u hb hp=>by
 rw [upd_ne (fun z=>by rw [z,e] at hb;cases hb;rw [p] at hp;cases hp)]
 exact hb
theorem DOk.write(h:DOk K H₀ H σD σ){i:Nat}{xs ys:List D}{a:Addr}{vs zs:List V}(e:σD[i]?=some (some (.own (.lst xs))))(ev:σ[i]?=some (some (.ref a)))(ea:H a=some (.lst zs))(r:Reps K H ys vs):DOk K H₀ (upd H a (.lst vs)) (clr (σD.set i (some (.own (.lst ys))))) σ:=by
 obtain⟨a',_,e1,_,_,n⟩:=h.ownL e
 rw [ev] at e1
 cases e1
 obtain⟨s,fp,sl,nd,fr⟩:=h
 refine⟨fun b o hb=>?_,fp,sl.write nd e ev ⟨_,ea⟩ r,nd,fr⟩
 rw [upd_ne (fun z=>by rw [z,n] at hb;cases hb)]
 exact s b o hb
end
section
variable {X:Cx}{pins:List (Addr×Obj)}{σ:St}{H:Hp}{s:Shared}{a:Addr}
theorem Inv.frz(I:Inv X pins σ H s){vs:List V}(h:H a=some (.lst vs)):∃ o,Inv X pins σ (upd H a (.frz o (.lst vs))) s:=by
 obtain⟨z,its,n,r,e⟩:=I.hok a _ h
 exact⟨_,I.write (h':=s.heap) (t':=s.toks) (x:=a) (e:=a) (by rw [h];exact trivial) (.inl rfl) (fun b u _ q=>q) ⟨_,e⟩ ⟨e,z,its,n,r,e⟩⟩
theorem Inv.frzK(I:Inv X pins σ H s){vs:List (Key×V)}(h:H a=some (.dK vs)):∃ o,Inv X pins σ (upd H a (.frz o (.dK vs))) s:=by
 obtain⟨z,y,its,r,o,es,ep,e,c⟩:=I.hok a _ h
 exact⟨o,I.write (h':=s.heap) (t':=s.toks) (x:=a) (e:=a) (by rw [h];exact trivial) (.inl rfl) (fun b u _ q=>q) ⟨_,e⟩ ⟨e,z,y,its,r,o,es,ep,e,c⟩⟩
theorem penO_ok{P:Program}{w:World}{h:Heap}{x y z:Int}{tx ty tz:Tok}{n:Nat}(e:h.get? a=some { cls:=.type "list",data:=.seq #[.int x tx,.int y ty,.int z tz] n }):ObjOk P w H h a (PenO a) :=
 ⟨⟨x,y,z,tx,ty,tz,n,e⟩,⟨_,e⟩,fun h1 h2 ⟨x,y,z,tx,ty,tz,n,e⟩ k=>⟨x,y,z,tx,ty,tz,n,k _ e⟩⟩
theorem Inv.toPen(I:Inv X pins σ H s){x y z:Int}(h:H a=some (.lst [.int x,.int y,.int z])):Inv X pins σ (upd H a (PenO a)) s:=by
 obtain⟨zz,its,n,r,e⟩:=I.hok a _ h
 cases r with
 | cons r1 r =>
  cases r with
  | cons r2 r =>
   cases r with
   | cons r3 r =>
    cases r
    obtain⟨t1,rfl⟩:=r1
    obtain⟨t2,rfl⟩:=r2
    obtain⟨t3,rfl⟩:=r3
    exact I.write (h':=s.heap) (t':=s.toks) (x:=a) (e:=a) (by rw [h];exact trivial) (.inl rfl) (fun b u _ q=>q) ⟨_,e⟩ (penO_ok e)
end
abbrev DTE:=DSt->(D->Prop)->Prop
abbrev DTF:=DSt->(List D->Prop)->Prop
abbrev DTT:=DSt->(Bool->Prop)->Prop
abbrev DTP:=DSt->(List W->Prop)->Prop
def DEnd(X:Cx)(pins:List (Addr×Obj))(σ:St)(H:Hp)(Q:D->Prop)(u:Value)(s':Shared):Prop:=∃ v H' d,Inv X pins σ H' s'/\RelV v u/\Same H H'/\Rep X.K H' d v/\Q d
def DEndT(X:Cx)(pins:List (Addr×Obj))(σ:St)(H:Hp)(Q:D->Prop)(u:Value)(s':Shared):Prop:=∃ v H' d,Inv X pins σ H' s'/\RelV v u/\Same H H'/\RepT X.K H' d v/\Q d
def DEndF(X:Cx)(pins:List (Addr×Obj))(σ:St)(H:Hp)(Q:List D->Prop)(u:Value)(s':Shared):Prop:=∃ a H' vs xs,u=.ref a/\Inv X pins σ H' s'/\Same H H'/\H a=none/\H' a=some (.lst vs)/\Reps X.K H' xs vs/\Q xs
structure DE(X:Cx)(e:Expr)(t:DTE):Prop where
 run:∀(pins:List (Addr×Obj)) (s:Shared) (σ:St) (H H₀:Hp) (σD:DSt) (Q:D->Prop),Inv X pins σ H s->DOk X.K H₀ H σD σ->t σD Q->wpAny (model X.prog X.w) X.A (eval e X.env) (DEnd X pins σ H Q) X.xe s
structure DV(X:Cx)(e:Expr)(t:DTE):Prop where
 run:∀(pins:List (Addr×Obj)) (s:Shared) (σ:St) (H H₀:Hp) (σD:DSt) (Q:D->Prop),Inv X pins σ H s->DOk X.K H₀ H σD σ->t σD Q->wpAny (model X.prog X.w) X.A (eval e X.env) (DEndT X pins σ H Q) X.xe s
structure DF(X:Cx)(e:Expr)(t:DTF):Prop where
 run:∀(pins:List (Addr×Obj)) (s:Shared) (σ:St) (H H₀:Hp) (σD:DSt) (Q:List D->Prop),Inv X pins σ H s->DOk X.K H₀ H σD σ->t σD Q->wpAny (model X.prog X.w) X.A (eval e X.env) (DEndF X pins σ H Q) X.xe s
def DEndB(X:Cx)(pins:List (Addr×Obj))(σ:St)(H:Hp)(Q:Bool->Prop)(b:Bool)(s':Shared):Prop:=∃ H',Inv X pins σ H' s'/\Same H H'/\Q b
structure DT(X:Cx)(e:Expr)(t:DTT):Prop where
 run:∀(pins:List (Addr×Obj)) (s:Shared) (σ:St) (H H₀:Hp) (σD:DSt) (Q:Bool->Prop),Inv X pins σ H s->DOk X.K H₀ H σD σ->t σD Q->wpAny (model X.prog X.w) X.A (isTrue e X.env (eval e X.env)) (DEndB X pins σ H Q) X.xe s
structure DWt(X:Cx)(e:Expr)(t:DTT):Prop where
 run:∀(whole:Sem Value) (pins:List (Addr×Obj)) (s:Shared) (σ:St) (H H₀:Hp) (σD:DSt) (Q:Bool->Prop),Inv X pins σ H s->DOk X.K H₀ H σD σ->t σD Q->wpAny (model X.prog X.w) X.A (isTrue e X.env whole) (DEndB X pins σ H Q) X.xe s
structure DA(X:Cx)(es:List Expr)(t:DTF):Prop where
 run:∀(pos:Pos) (pins:List (Addr×Obj)) (s:Shared) (σ:St) (H H₀:Hp) (σD:DSt) (Q:List D->Prop),Inv X pins σ H s->DOk X.K H₀ H σD σ->t σD Q ->
  wpAny (model X.prog X.w) X.A (spliced (backTo pos (starEach es X.env))) (fun us s'=>∃ vs H' ds,Inv X pins σ H' s'/\Vals vs us/\Same H H'/\Reps X.K H' ds vs/\Q ds) X.xe s
inductive RepTs(K:PySem.W.Frag)(H:Hp):List D->List V->Prop
 | nil:RepTs K H [] []
 | cons {d:D} {v:V} {ds:List D} {vs:List V} (r:RepT K H d v) (t:RepTs K H ds vs):RepTs K H (d::ds) (v::vs)
structure DAv(X:Cx)(es:List Expr)(t:DTF):Prop where
 run:∀(pos:Pos) (pins:List (Addr×Obj)) (s:Shared) (σ:St) (H H₀:Hp) (σD:DSt) (Q:List D->Prop),Inv X pins σ H s->DOk X.K H₀ H σD σ->t σD Q ->
  wpAny (model X.prog X.w) X.A (spliced (backTo pos (starEach es X.env))) (fun us s'=>∃ vs H' ds,Inv X pins σ H' s'/\Vals vs us/\Same H H'/\RepTs X.K H' ds vs/\Q ds) X.xe s
section
variable (K:PySem.W.Frag)
def RepW(H:Hp):W->V->Prop
 | .val d,v=>Rep K H d v
 | .vw xs,v=>RepL K H xs v
 | .vd xs,v=>RepD K H xs v
 | .exc xs,v=>RepX K H xs v
 | .scr ns,v=>∃ a,v=.ref a/\SqL K H a (ns.map V.int)
 | .pen,v=>∃ a,v=.ref a/\H a=some (PenO a)
 | .tmp _,_=>False
 | .own _,_=>False
inductive RepWs(H:Hp):List W->List V->Prop
 | nil:RepWs H [] []
 | cons {w:W} {v:V} {ws:List W} {vs:List V} (r:RepW K H w v) (t:RepWs H ws vs):RepWs H (w::ws) (v::vs)
end
theorem RepWs.length{K:PySem.W.Frag}{H:Hp}{ws:List W}{vs:List V}(h:RepWs K H ws vs):ws.length=vs.length:=by
 induction h with
 | nil=>rfl
 | cons _ _ ih=>simp [ih]
structure DPs(X:Cx)(es:List Expr)(t:DTP):Prop where
 run:∀(pos:Pos) (pins:List (Addr×Obj)) (s:Shared) (σ:St) (H H₀:Hp) (σD:DSt) (Q:List W->Prop),Inv X pins σ H s->DOk X.K H₀ H σD σ->t σD Q ->
  wpAny (model X.prog X.w) X.A (spliced (backTo pos (starEach es X.env))) (fun us s'=>∃ vs H' ws,Inv X pins σ H' s'/\Vals vs us/\Same H H'/\RepWs X.K H' ws vs/\Q ws) X.xe s
section
variable (K:PySem.W.Frag)
def cnE(t:DTE):TE:=fun σ H Q=>∃ H₀ σD QD,DOk K H₀ H σD σ/\t σD QD/\∀ v H' d,Same H H'->Rep K H' d v->QD d->Q v H'
def cnV(t:DTE):TE:=fun σ H Q=>∃ H₀ σD QD,DOk K H₀ H σD σ/\t σD QD/\∀ v H' d,Same H H'->RepT K H' d v->QD d->Q v H'
def cnF(t:DTF):TE:=fun σ H Q=>∃ H₀ σD QD,DOk K H₀ H σD σ/\t σD QD/\∀ a H' vs xs,Same H H'->H a=none->H' a=some (.lst vs)->Reps K H' xs vs->QD xs->Q (.ref a) H'
def cnT(t:DTT):TT:=fun σ H Q=>∃ H₀ σD QD,DOk K H₀ H σD σ/\t σD QD/\∀ b H',Same H H'->QD b->Q b H'
def cnA(t:DTF):TA:=fun σ H Q=>∃ H₀ σD QD,DOk K H₀ H σD σ/\t σD QD/\∀ vs H' ds,Same H H'->Reps K H' ds vs->QD ds->Q vs H'
def cnAv(t:DTF):TA:=fun σ H Q=>∃ H₀ σD QD,DOk K H₀ H σD σ/\t σD QD/\∀ vs H' ds,Same H H'->RepTs K H' ds vs->QD ds->Q vs H'
def cnP(t:DTP):TA:=fun σ H Q=>∃ H₀ σD QD,DOk K H₀ H σD σ/\t σD QD/\∀ vs H' ws,Same H H'->RepWs K H' ws vs->QD ws->Q vs H'
end
section
variable {X:Cx}{e:Expr}{es:List Expr}
theorem DE.pe{t:DTE}(h:DE X e t):PE X e (cnE X.K t):=fun pins s σ H Q I ⟨H₀,σD,QD,ok,q,k⟩=>thn (h.run pins s σ H H₀ σD QD I ok q) fun u s' ⟨v,H',d,I',r,sm,rp,qd⟩=>⟨v,H',I',r,k v H' d sm rp qd⟩
theorem DV.pe{t:DTE}(h:DV X e t):PE X e (cnV X.K t):=fun pins s σ H Q I ⟨H₀,σD,QD,ok,q,k⟩=>thn (h.run pins s σ H H₀ σD QD I ok q) fun u s' ⟨v,H',d,I',r,sm,rp,qd⟩=>⟨v,H',I',r,k v H' d sm rp qd⟩
theorem DF.pe{t:DTF}(h:DF X e t):PE X e (cnF X.K t):=fun pins s σ H Q I ⟨H₀,σD,QD,ok,q,k⟩=>thn (h.run pins s σ H H₀ σD QD I ok q) fun u s' ⟨a,H',vs,xs,eu,I',sm,n,e,rp,qd⟩=>⟨.ref a,H',I',eu,k a H' vs xs sm n e rp qd⟩
theorem DT.pt{t:DTT}(h:DT X e t):PT X e (cnT X.K t):=fun pins s σ H Q I ⟨H₀,σD,QD,ok,q,k⟩=>thn (h.run pins s σ H H₀ σD QD I ok q) fun u s' ⟨H',I',sm,qd⟩=>⟨H',I',k u H' sm qd⟩
theorem DA.pa{t:DTF}(h:DA X es t):PA X es (cnA X.K t):=fun pos pins s σ H Q I ⟨H₀,σD,QD,ok,q,k⟩=>thn (h.run pos pins s σ H H₀ σD QD I ok q) fun us s' ⟨vs,H',ds,I',r,sm,rp,qd⟩=>⟨vs,H',I',r,k vs H' ds sm rp qd⟩
theorem DAv.pa{t:DTF}(h:DAv X es t):PA X es (cnAv X.K t):=fun pos pins s σ H Q I ⟨H₀,σD,QD,ok,q,k⟩=>thn (h.run pos pins s σ H H₀ σD QD I ok q) fun us s' ⟨vs,H',ds,I',r,sm,rp,qd⟩=>⟨vs,H',I',r,k vs H' ds sm rp qd⟩
theorem DPs.pa{t:DTP}(h:DPs X es t):PA X es (cnP X.K t):=fun pos pins s σ H Q I ⟨H₀,σD,QD,ok,q,k⟩=>thn (h.run pos pins s σ H H₀ σD QD I ok q) fun us s' ⟨vs,H',ws,I',r,sm,rp,qd⟩=>⟨vs,H',I',r,k vs H' ws sm rp qd⟩
theorem DE.of{t:DTE}{t':TE}(h:PE X e t')(k:∀ σ H H₀ σD QD,DOk X.K H₀ H σD σ->t σD QD->t' σ H (fun v H'=>∃ d,Same H H'/\Rep X.K H' d v/\QD d)):DE X e t :=
 ⟨fun pins s σ H H₀ σD Q I ok q=>thn (h pins s σ H _ I (k σ H H₀ σD Q ok q)) fun u s' ⟨v,H',I',r,d,sm,rp,qd⟩=>⟨v,H',d,I',r,sm,rp,qd⟩⟩
theorem DV.of{t:DTE}{t':TE}(h:PE X e t')(k:∀ σ H H₀ σD QD,DOk X.K H₀ H σD σ->t σD QD->t' σ H (fun v H'=>∃ d,Same H H'/\RepT X.K H' d v/\QD d)):DV X e t :=
 ⟨fun pins s σ H H₀ σD Q I ok q=>thn (h pins s σ H _ I (k σ H H₀ σD Q ok q)) fun u s' ⟨v,H',I',r,d,sm,rp,qd⟩=>⟨v,H',d,I',r,sm,rp,qd⟩⟩
theorem DF.of{t:DTF}{t':TE}(h:PE X e t')(k:∀ σ H H₀ σD QD,DOk X.K H₀ H σD σ->t σD QD->t' σ H (fun v H'=>∃ a vs xs,v=.ref a/\Same H H'/\H a=none/\H' a=some (.lst vs)/\Reps X.K H' xs vs/\QD xs)):DF X e t :=
 ⟨fun pins s σ H H₀ σD Q I ok q=>thn (h pins s σ H _ I (k σ H H₀ σD Q ok q)) fun u s' ⟨v,H',I',r,a,vs,xs,ev,sm,n,e,rp,qd⟩=>⟨a,H',vs,xs,by subst ev;exact r,I',sm,n,e,rp,qd⟩⟩
theorem DT.of{t:DTT}{t':TT}(h:PT X e t')(k:∀ σ H H₀ σD QD,DOk X.K H₀ H σD σ->t σD QD->t' σ H (fun b H'=>Same H H'/\QD b)):DT X e t :=
 ⟨fun pins s σ H H₀ σD Q I ok q=>thn (h pins s σ H _ I (k σ H H₀ σD Q ok q)) fun u s' ⟨H',I',sm,qd⟩=>⟨H',I',sm,qd⟩⟩
theorem DE.dv{t:DTE}(h:DE X e t):DV X e t:=⟨fun pins s σ H H₀ σD Q I ok q=>thn (h.run pins s σ H H₀ σD Q I ok q) fun u s' ⟨v,H',d,I',r,sm,rp,qd⟩=>⟨v,H',d,I',r,sm,rp.top,qd⟩⟩
theorem freeze{pins:List (Addr×Obj)}{σ:St}{H H':Hp}{s:Shared}{a:Addr}{vs:List V}{xs:List D}(I:Inv X pins σ H' s)(sm:Same H H')(n:H a=none)(e:H' a=some (.lst vs))(r:Reps X.K H' xs vs):
  ∃ H'',Inv X pins σ H'' s/\Same H H''/\Rep X.K H'' (.list xs) (.ref a):=by
 obtain⟨o,J⟩:=I.frz e
 refine⟨_,J,fun b u hb=>?_,.lst upd_same (r.mono (upd_pers e rfl))⟩
 rw [upd_ne (ne_of_none hb n)]
 exact sm b u hb
def dFz(t:DTF):DTE:=fun σ Q=>t σ fun xs=>Q (.list xs)
theorem DF.de{t:DTF}(h:DF X e t):DE X e (dFz t):=⟨fun pins s σ H H₀ σD Q I ok q=>thn (h.run pins s σ H H₀ σD _ I ok q) fun u s' ⟨a,H',vs,xs,eu,I',sm,n,e,rp,qd⟩=>by
 obtain⟨H'',J,sm',r'⟩:=freeze I' sm n e rp
 exact⟨.ref a,H'',.list xs,J,eu,sm',r',qd⟩⟩
def dVar(i:Nat):DTE:=fun σ Q=>match σ[i]? with
 | some (some (.val d))=>Q d
 | _=>False
def dOwn(i:Nat):DTE:=fun σ Q=>match σ[i]? with
 | some (some (.val d))=>Q d
 | some (some (.own (.lst xs)))=>Q (.list xs)
 | some (some (.vw xs))=>Q (.list xs)
 | _=>False
def dC(d:D):DTE:=fun _ Q=>Q d
theorem de_var(i:Nat){x:Str}{pos:Pos}(hN:X.N[i]?=some x:=by rfl)(hv:Vis X.env.scope x:=by first | exact Or.inl rfl | exact Or.inr (Or.inl rfl) | exact Or.inr (Or.inr rfl))(hd:(x == ("__debug__" : Str))=false:=by decide)
  (hcd:(x == ("__classdict__" : Str))=false:=by decide):DE X (.Name x pos) (dVar i):=by
 refine DE.of (pe_var (i:=i) hN hv hd hcd) fun σ H H₀ σD QD ok q=>?_
 unfold dVar at q
 split at q
 ·next d e =>
  obtain⟨v,e1,r⟩:=ok.val e
  exact⟨v,e1,d,Same.refl _,r,q⟩
 ·exact q.elim
theorem dv_own(i:Nat){x:Str}{pos:Pos}(hN:X.N[i]?=some x:=by rfl)(hv:Vis X.env.scope x:=by first | exact Or.inl rfl | exact Or.inr (Or.inl rfl) | exact Or.inr (Or.inr rfl))(hd:(x == ("__debug__" : Str))=false:=by decide)
  (hcd:(x == ("__classdict__" : Str))=false:=by decide):DV X (.Name x pos) (dOwn i):=by
 refine DV.of (pe_var (i:=i) hN hv hd hcd) fun σ H H₀ σD QD ok q=>?_
 unfold dOwn at q
 split at q
 ·next d e =>
  obtain⟨v,e1,r⟩:=ok.val e
  exact⟨v,e1,d,Same.refl _,r.top,q⟩
 ·next xs e =>
  obtain⟨a,vs,e1,e2,r,_⟩:=ok.ownL e
  exact⟨.ref a,e1,.list xs,Same.refl _,.inr ⟨xs,rfl,a,vs,rfl,.inl e2,r⟩,q⟩
 ·next xs e =>
  obtain⟨v,e1,r⟩:=ok.vw e
  exact⟨v,e1,.list xs,Same.refl _,.inr ⟨xs,rfl,r⟩,q⟩
 ·exact q.elim
theorem de_int{i j pos}:DE X (.Constant (.int i) j pos) (dC (.int i)):=DE.of pe_int fun σ H H₀ σD QD ok q=>⟨.int i,Same.refl _,.int,q⟩
theorem de_bl{b j pos}:DE X (.Constant (.bool b) j pos) (dC (.bool b)):=DE.of pe_bl fun σ H H₀ σD QD ok q=>⟨.bool b,Same.refl _,.bl,q⟩
theorem de_non{j pos}:DE X (.Constant .none j pos) (dC .none):=DE.of pe_non fun σ H H₀ σD QD ok q=>⟨.none,Same.refl _,.non,q⟩
theorem de_str{x j pos}:DE X (.Constant (.str x) j pos) (dC (.str x)):=DE.of pe_str fun σ H H₀ σD QD ok q=>⟨.str x,Same.refl _,.str,q⟩
theorem de_glob{x:Str}{d:D}{v:V}{u:Value}{pos:Pos}(hg:Gl X x)(hm:X.mg x=some u)(r:RelV v u)(rp:∀ H,Rep X.K H d v)(hd:(x == ("__debug__" : Str))=false:=by decide):DE X (.Name x pos) (dC d) :=
 DE.of (pe_glob hg hm r hd) fun σ H H₀ σD QD ok q=>⟨d,Same.refl _,rp H,q⟩
def dNil:DTF:=fun _ Q=>Q []
def dCons(t:DTE)(r:DTF):DTF:=fun σ Q=>t σ fun d=>r σ fun ds=>Q (d::ds)
theorem da_nil:DA X [] dNil:=⟨fun pos pins s σ H H₀ σD Q I ok q=>thn (pa_nil pos pins s σ H (fun vs H'=>vs = []/\H'=H) I ⟨rfl,rfl⟩) fun us s' ⟨vs,H',I',r,e1,e2⟩=>by subst e1 e2;exact⟨[],H',[],I',r,Same.refl _,.nil,q⟩⟩
theorem da_cons{t:DTE}{r:DTF}(ha:DE X e t)(hr:DA X es r)(hs:starEach (e::es) X.env=(false,eval e X.env)::starEach es X.env:=by rfl):DA X (e::es) (dCons t r):=⟨fun pos pins s σ H H₀ σD Q I ok q=>by
 refine thn (pa_cons ha.pe hr.pa hs pos pins s σ H (fun vs H'=>∃ ds,Same H H'/\Reps X.K H' ds vs/\Q ds) I ?_) fun us s' ⟨vs,H',I',r,ds,sm,rp,qd⟩=>⟨vs,H',ds,I',r,sm,rp,qd⟩
 exact⟨H₀,σD,_,ok,q,fun v H1 d s1 r1 q1=>⟨H₀,σD,_,ok.after s1,q1,fun vs H2 ds s2 r2 q2=>⟨d::ds,s1.trans s2,.cons (r1.same s2) r2,q2⟩⟩⟩⟩
theorem dav_nil:DAv X [] dNil:=⟨fun pos pins s σ H H₀ σD Q I ok q=>thn (pa_nil pos pins s σ H (fun vs H'=>vs = []/\H'=H) I ⟨rfl,rfl⟩) fun us s' ⟨vs,H',I',r,e1,e2⟩=>by subst e1 e2;exact⟨[],H',[],I',r,Same.refl _,.nil,q⟩⟩
theorem dav_cons{t:DTE}{r:DTF}(ha:DV X e t)(hr:DAv X es r)(hs:starEach (e::es) X.env=(false,eval e X.env)::starEach es X.env:=by rfl):DAv X (e::es) (dCons t r):=⟨fun pos pins s σ H H₀ σD Q I ok q=>by
 refine thn (pa_cons ha.pe hr.pa hs pos pins s σ H (fun vs H'=>∃ ds,Same H H'/\RepTs X.K H' ds vs/\Q ds) I ?_) fun us s' ⟨vs,H',I',r,ds,sm,rp,qd⟩=>⟨vs,H',ds,I',r,sm,rp,qd⟩
 exact⟨H₀,σD,_,ok,q,fun v H1 d s1 r1 q1=>⟨H₀,σD,_,ok.after s1,q1,fun vs H2 ds s2 r2 q2=>⟨d::ds,s1.trans s2,.cons (r1.same s2) r2,q2⟩⟩⟩⟩
def dpNil:DTP:=fun _ Q=>Q []
def dpVal(t:DTE)(r:DTP):DTP:=fun σ Q=>t σ fun d=>r σ fun ws=>Q (.val d::ws)
def dpVw(i:Nat)(r:DTP):DTP:=fun σ Q=>match σ[i]? with
 | some (some (.own (.lst xs)))=>r σ fun ws=>Q (.vw xs::ws)
 | some (some (.vw xs))=>r σ fun ws=>Q (.vw xs::ws)
 | some (some (.scr ns))=>r σ fun ws=>Q (.scr ns::ws)
 | some (some (.val d))=>r σ fun ws=>Q (.val d::ws)
 | some (some .pen)=>r σ fun ws=>Q (.pen::ws)
 | _=>False
theorem dp_nil:DPs X [] dpNil:=⟨fun pos pins s σ H H₀ σD Q I ok q=>thn (pa_nil pos pins s σ H (fun vs H'=>vs = []/\H'=H) I ⟨rfl,rfl⟩) fun us s' ⟨vs,H',I',r,e1,e2⟩=>by subst e1 e2;exact⟨[],H',[],I',r,Same.refl _,.nil,q⟩⟩
theorem dp_val{t:DTE}{r:DTP}(ha:DE X e t)(hr:DPs X es r)(hs:starEach (e::es) X.env=(false,eval e X.env)::starEach es X.env:=by rfl):DPs X (e::es) (dpVal t r):=⟨fun pos pins s σ H H₀ σD Q I ok q=>by
 refine thn (pa_cons ha.pe hr.pa hs pos pins s σ H (fun vs H'=>∃ ws,Same H H'/\RepWs X.K H' ws vs/\Q ws) I ?_) fun us s' ⟨vs,H',I',r,ds,sm,rp,qd⟩=>⟨vs,H',ds,I',r,sm,rp,qd⟩
 exact⟨H₀,σD,_,ok,q,fun v H1 d s1 r1 q1=>⟨H₀,σD,_,ok.after s1,q1,fun vs H2 ds s2 r2 q2=>⟨.val d::ds,s1.trans s2,.cons (r1.same s2) r2,q2⟩⟩⟩⟩
theorem dp_vw(i:Nat){x:Str}{pos:Pos}{r:DTP}(hr:DPs X es r)(hN:X.N[i]?=some x:=by rfl)(hv:Vis X.env.scope x:=by first | exact Or.inl rfl | exact Or.inr (Or.inl rfl) | exact Or.inr (Or.inr rfl))(hd:(x == ("__debug__" : Str))=false:=by decide)
  (hcd:(x == ("__classdict__" : Str))=false:=by decide) (hs:starEach (.Name x pos::es) X.env=(false,eval (.Name x pos) X.env)::starEach es X.env:=by rfl):DPs X (.Name x pos::es) (dpVw i r):=⟨fun pos' pins s σ H H₀ σD Q I ok q=>by
 refine thn (pa_cons (pe_var (i:=i) hN hv hd hcd) hr.pa hs pos' pins s σ H (fun vs H'=>∃ ws,Same H H'/\RepWs X.K H' ws vs/\Q ws) I ?_) fun us s' ⟨vs,H',I',r,ds,sm,rp,qd⟩=>⟨vs,H',ds,I',r,sm,rp,qd⟩
 unfold dpVw at q
 split at q
 ·next xs e =>
  obtain⟨a,vs,e1,e2,r,_⟩:=ok.ownL e
  exact⟨.ref a,e1,H₀,σD,_,ok,q,fun ws H2 ds s2 r2 q2=>⟨.vw xs::ds,s2,.cons (RepL.same s2 ⟨a,vs,rfl,.inl e2,r⟩) r2,q2⟩⟩
 ·next xs e =>
  obtain⟨v,e1,r⟩:=ok.vw e
  exact⟨v,e1,H₀,σD,_,ok,q,fun ws H2 ds s2 r2 q2=>⟨.vw xs::ds,s2,.cons (RepL.same s2 r) r2,q2⟩⟩
 ·next ns e =>
  obtain⟨a,e1,r⟩:=ok.scr e
  exact⟨.ref a,e1,H₀,σD,_,ok,q,fun ws H2 ds s2 r2 q2=>⟨.scr ns::ds,s2,.cons ⟨a,rfl,s2.seq r⟩ r2,q2⟩⟩
 ·next d e =>
  obtain⟨v,e1,r⟩:=ok.val e
  exact⟨v,e1,H₀,σD,_,ok,q,fun ws H2 ds s2 r2 q2=>⟨.val d::ds,s2,.cons (r.same s2) r2,q2⟩⟩
 ·next e =>
  obtain⟨a,e1,r⟩:=ok.pen e
  exact⟨.ref a,e1,H₀,σD,_,ok,q,fun ws H2 ds s2 r2 q2=>⟨.pen::ds,s2,.cons ⟨a,rfl,s2 _ _ r⟩ r2,q2⟩⟩
 ·exact q.elim⟩
def dTup(t:DTF):DTE:=fun σ Q=>t σ fun ds=>ds.length<=sizeLine/\Q (.tuple ds)
def dLst(t:DTF):DTF:=fun σ Q=>t σ fun ds=>ds.length<=sizeLine/\Q ds
theorem de_tup{x1 pos}{t:DTF}(h:DA X es t):DE X (.Tuple es x1 pos) (dTup t) :=
 DE.of (pe_tup h.pa) fun σ H H₀ σD QD ok q=>⟨H₀,σD,_,ok,q,fun vs H1 ds s1 r1 q1=>⟨by rw [<-r1.length];exact q1.1,fun p hp=>⟨.tuple ds,s1.trans (same_new hp _),.tup (SqT.of upd_same) (r1.same (same_new hp _)),q1.2⟩⟩⟩
theorem df_lst{pos}{t:DTF}(h:DA X es t):DF X (.List es pos) (dLst t) :=
 DF.of (pe_lst h.pa) fun σ H H₀ σD QD ok q=>⟨H₀,σD,_,ok,q,fun vs H1 ds s1 r1 q1=>⟨by rw [<-r1.length];exact q1.1,fun p hp=>⟨p,vs,ds,rfl,s1.trans (same_new hp _),s1.free hp,upd_same,r1.same (same_new hp _),q1.2⟩⟩⟩
variable {a b:Expr}{rest:List Expr}{pos:Pos}
def onB(Q:Bool->Prop):D->Prop
 | .bool b=>Q b
 | _=>False
def dTB(t:DTE):DTT:=fun σ Q=>t σ (onB Q)
def dAnd(t u:DTT):DTT:=fun σ Q=>t σ fun c=>if c=true then u σ Q else Q false
def dOr(t u:DTT):DTT:=fun σ Q=>t σ fun c=>if c=true then Q true else u σ Q
def dNot(t:DTT):DTT:=fun σ Q=>t σ fun c=>Q (!c)
theorem DWt.dt{t:DTT}(h:DWt X e t):DT X e t:=⟨h.run _⟩
theorem dw_and1{t:DTT}(ha:DT X a t):DWt X (.BoolOp .And [a] pos) t:=⟨fun wh pins s σ H H₀ σD Q I ok q=>by
 refine isTrue_and (thn (ha.run pins s σ H H₀ σD Q I ok q) fun c s1 e=>?_)
 cases c with
 | true=>exact isTrue_and_nil e
 | false=>exact e⟩
theorem dw_or1{t:DTT}(ha:DT X a t):DWt X (.BoolOp .Or [a] pos) t:=⟨fun wh pins s σ H H₀ σD Q I ok q=>by
 refine isTrue_or (thn (ha.run pins s σ H H₀ σD Q I ok q) fun c s1 e=>?_)
 cases c with
 | false=>exact isTrue_or_nil e
 | true=>exact e⟩
theorem dw_and{t u:DTT}(ha:DT X a t)(hb:DWt X (.BoolOp .And (b::rest) pos) u):DWt X (.BoolOp .And (a::b::rest) pos) (dAnd t u):=⟨fun wh pins s σ H H₀ σD Q I ok q=>by
 refine isTrue_and (thn (ha.run pins s σ H H₀ σD _ I ok q) fun c s1 ⟨H1,I1,sm,q1⟩=>?_)
 cases c with
 | true =>
  rw [if_pos rfl] at q1
  exact thn (hb.run wh pins s1 σ H1 H₀ σD Q I1 (ok.after sm) q1) fun _ _ ⟨H2,I2,s2,q2⟩=>⟨H2,I2,sm.trans s2,q2⟩
 | false=>rw [if_neg Bool.false_ne_true] at q1;exact⟨H1,I1,sm,q1⟩⟩
theorem dw_or{t u:DTT}(ha:DT X a t)(hb:DWt X (.BoolOp .Or (b::rest) pos) u):DWt X (.BoolOp .Or (a::b::rest) pos) (dOr t u):=⟨fun wh pins s σ H H₀ σD Q I ok q=>by
 refine isTrue_or (thn (ha.run pins s σ H H₀ σD _ I ok q) fun c s1 ⟨H1,I1,sm,q1⟩=>?_)
 cases c with
 | false =>
  rw [if_neg Bool.false_ne_true] at q1
  exact thn (hb.run wh pins s1 σ H1 H₀ σD Q I1 (ok.after sm) q1) fun _ _ ⟨H2,I2,s2,q2⟩=>⟨H2,I2,sm.trans s2,q2⟩
 | true=>rw [if_pos rfl] at q1;exact⟨H1,I1,sm,q1⟩⟩
theorem dt_not{t:DTT}(ha:DT X a t):DT X (.UnaryOp .Not a pos) (dNot t):=⟨fun pins s σ H H₀ σD Q I ok q=>isTrue_not (ha.run pins s σ H H₀ σD (fun c=>Q (!c)) I ok q)⟩
def truD:D->Bool
 | .none=>false
 | .bool b=>b
 | .int i=>i != 0
 | .str x=>(x.length:Int) != 0
 | .tuple xs=>!xs.isEmpty
 | .list xs=>!xs.isEmpty
 | .dict kvs=>!kvs.isEmpty
def dTru(t:DTE):DTT:=fun σ Q=>t σ fun d=>match d with
 | .str x=>x.length<=sizeLine/\Q (truD (.str x))
 | .dict _=>False
 | d=>Q (truD d)
theorem emp_of{K:PySem.W.Frag}{H:Hp}{ds:List D}{vs:List V}(r:Reps K H ds vs):(!vs.isEmpty) = !ds.isEmpty:=by cases r <;> rfl
theorem tru_rep{K:PySem.W.Frag}{H:Hp}{d:D}{v:V}(r:RepT K H d v)(h:match d with | .str x=>x.length<=sizeLine | .dict _=>False | _=>True):TruV K v H (truD d):=by
 rcases r with r | ⟨xs,rfl,a,vs,rfl,e,r⟩
 ·cases r with
  | non=>rfl
  | bl=>rfl
  | int=>rfl
  | str=>exact⟨h,rfl⟩
  | tup q r=>exact .inr (.inl ⟨_,q,(emp_of r).symm⟩)
  | lst q r=>exact .inl ⟨_,.inl (.inr ⟨_,q⟩),(emp_of r).symm⟩
  | dic q r=>exact h.elim
 ·exact .inl ⟨vs,.inl e,(emp_of r).symm⟩
theorem dt_tru{t:DTE}(h:DV X e t)(he:∀ whole,isTrue e X.env whole=(do let v <-whole;standAt e.pos;holding [v] (truthy v)):=by intro _;rfl):DT X e (dTru t) :=
 DT.of (pt_truth h.pe he) fun σ H H₀ σD QD ok q=>⟨H₀,σD,_,ok,q,fun v H1 d s1 r1 q1=>by
  cases d with
  | str x=>exact⟨_,tru_rep r1 q1.1,s1,q1.2⟩
  | dict _=>exact q1.elim
  | none=>exact⟨_,tru_rep r1 trivial,s1,q1⟩
  | bool _=>exact⟨_,tru_rep r1 trivial,s1,q1⟩
  | int _=>exact⟨_,tru_rep r1 trivial,s1,q1⟩
  | tuple _=>exact⟨_,tru_rep r1 trivial,s1,q1⟩
  | list _=>exact⟨_,tru_rep r1 trivial,s1,q1⟩⟩
def dAndV(t u:DTE):DTE:=fun σ Q=>t σ fun d=>match d with
 | .bool c=>if c=true then u σ Q else Q (.bool false)
 | _=>False
def dOrV(t u:DTE):DTE:=fun σ Q=>t σ fun d=>match d with
 | .bool c=>if c=true then Q (.bool true) else u σ Q
 | _=>False
def dIfE(c:DTT)(t u:DTE):DTE:=fun σ Q=>c σ fun b=>if b=true then t σ Q else u σ Q
theorem de_one{op}{t:DTE}(h:DE X a t):DE X (.BoolOp op [a] pos) t:=⟨fun pins s σ H H₀ σD Q I ok q=>BoolOp_one (h.run pins s σ H H₀ σD Q I ok q)⟩
theorem DEnd.back{pins:List (Addr×Obj)}{σ:St}{H H1:Hp}{Q:D->Prop}{u:Value}{s':Shared}(s1:Same H H1)(h:DEnd X pins σ H1 Q u s'):DEnd X pins σ H Q u s':=let ⟨v,H',d,I',r,sm,rp,qd⟩:=h;⟨v,H',d,I',r,s1.trans sm,rp,qd⟩
theorem de_and{t u:DTE}(ha:DE X a t)(hb:DE X (.BoolOp .And (b::rest) pos) u):DE X (.BoolOp .And (a::b::rest) pos) (dAndV t u):=⟨fun pins s σ H H₀ σD Q I ok q=>by
 refine BoolOp_and (thn (ha.run pins s σ H H₀ σD _ I ok q) fun v s1 ⟨x,H1,d,I1,r1,sm,rp,q1⟩=>?_)
 cases d with
 | bool c =>
  cases rp
  cases r1
  refine wpAny_truthy_bool ?_
  cases c with
  | true=>exact thn (hb.run pins s1 σ H1 H₀ σD Q I1 (ok.after sm) (by simpa using q1)) fun _ _ h=>h.back sm
  | false=>exact⟨.bl false,H1,.bool false,I1,rfl,sm,.bl,by simpa using q1⟩
 | _=>exact q1.elim⟩
theorem de_or{t u:DTE}(ha:DE X a t)(hb:DE X (.BoolOp .Or (b::rest) pos) u):DE X (.BoolOp .Or (a::b::rest) pos) (dOrV t u):=⟨fun pins s σ H H₀ σD Q I ok q=>by
 refine BoolOp_or (thn (ha.run pins s σ H H₀ σD _ I ok q) fun v s1 ⟨x,H1,d,I1,r1,sm,rp,q1⟩=>?_)
 cases d with
 | bool c =>
  cases rp
  cases r1
  refine wpAny_truthy_bool ?_
  cases c with
  | false=>exact thn (hb.run pins s1 σ H1 H₀ σD Q I1 (ok.after sm) (by simpa using q1)) fun _ _ h=>h.back sm
  | true=>exact⟨.bl true,H1,.bool true,I1,rfl,sm,.bl,by simpa using q1⟩
 | _=>exact q1.elim⟩
theorem de_ifExp{c:Expr}{tc:DTT}{t u:DTE}(hc:DT X c tc)(ha:DE X a t)(hb:DE X b u):DE X (.IfExp c a b pos) (dIfE tc t u) :=
 DE.of (pe_ifExp hc.pt ha.pe hb.pe) fun σ H H₀ σD QD ok q=>⟨H₀,σD,_,ok,q,fun k H1 s1 q1=>by
  cases k with
  | true=>rw [if_pos rfl] at q1 ⊢;exact⟨H₀,σD,_,ok.after s1,q1,fun v H2 d s2 r2 q2=>⟨d,s1.trans s2,r2,q2⟩⟩
  | false=>rw [if_neg Bool.false_ne_true] at q1 ⊢;exact⟨H₀,σD,_,ok.after s1,q1,fun v H2 d s2 r2 q2=>⟨d,s1.trans s2,r2,q2⟩⟩⟩
end
section
variable {X:Cx}{pins:List (Addr×Obj)}{σ:St}{H:Hp}{s:Shared}
mutual
theorem Rep.reads(I:Inv X pins σ H s):∀{d:D} {v:V} {u:Value},Rep X.K H d v->RelV v u->d.canLay0=true->∃ as,Reads s.heap u d as
 | _,_,_,.non,r,_=>by cases r;exact⟨_,.none⟩
 | _,_,_,.bl,r,_=>by cases r;exact⟨_,.bool _⟩
 | _,_,_,.int,r,_=>by obtain⟨t,rfl⟩:=r;exact⟨_,.int _ _⟩
 | _,_,_,.str,r,_=>by obtain⟨t,rfl⟩:=r;exact⟨_,.str _ _⟩
 | _,_,_,.tup h q,r,c=>by
  cases r
  obtain⟨its,rv,⟨o,e1,e2,n,e3⟩,_⟩:=I.tuple h
  obtain⟨as,ra⟩:=Reps.reads I q rv (by simpa [PyData.canLay0] using c)
  exact⟨_,.tuple e1 e2 e3 (by simpa using ra)⟩
 | _,_,_,.lst h q,r,c=>by
  cases r
  obtain⟨_,z,its,n,rv,e⟩:=I.hok _ _ h
  obtain⟨as,ra⟩:=Reps.reads I q rv (by simpa [PyData.canLay0] using c)
  exact⟨_,.list e rfl rfl (by simpa using ra)⟩
 | _,_,_,.dic h q,r,c=>by simp [PyData.canLay0] at c
theorem Reps.reads(I:Inv X pins σ H s):∀{ds:List D} {vs:List V} {us:List Value},Reps X.K H ds vs->Vals vs us->PyData.canLayAll0 ds=true->∃ as,ReadsAll s.heap us ds as
 | _,_,_,.nil,r,_=>by cases r;exact⟨_,.nil⟩
 | _,_,_,.cons q t,r,c=>by
  cases r with
  | cons r1 r2 =>
   simp only [PyData.canLayAll0,Bool.and_eq_true] at c
   obtain⟨as,ra⟩:=Rep.reads I q r1 c.1
   obtain⟨bs,rb⟩:=Reps.reads I t r2 c.2
   exact⟨_,.cons ra rb⟩
end
theorem RepT.reads(I:Inv X pins σ H s){d:D}{v:V}{u:Value}(h:RepT X.K H d v)(r:RelV v u)(c:d.canLay0=true):∃ as,Reads s.heap u d as:=by
 rcases h with h | ⟨xs,rfl,a,vs,rfl,e,q⟩
 ·exact h.reads I r c
 ·cases r
  obtain⟨z,its,n,rv,e⟩:=e.ok I.hok
  obtain⟨as,ra⟩:=Reps.reads I q rv (by simpa [PyData.canLay0] using c)
  exact⟨_,.list e rfl rfl (by simpa using ra)⟩
end
def Lay(d:D):Prop:=SeqAt.shaped d=true
theorem Lay.can{d:D}(h:Lay d):d.canLay0=true:=by unfold Lay SeqAt.shaped at h;rw [Bool.and_eq_true] at h;exact h.1
theorem Lay.deep{d:D}(h:Lay d):d.depth<=64:=by unfold Lay SeqAt.shaped at h;rw [Bool.and_eq_true] at h;exact of_decide_eq_true h.2
abbrev DOp:=D->D->(D->Prop)->Prop
structure OpD(X:Cx)(f:Value->Value->Sem Value)(g:DOp):Prop where
 run:∀(pins:List (Addr×Obj)) (s:Shared) (σ:St) (H:Hp) (x y:V) (v u:Value) (a b:D) (Q:D->Prop),Inv X pins σ H s->RelV x v->RelV y u->RepT X.K H a x->RepT X.K H b y->g a b Q->wpAny (model X.prog X.w) X.A (f v u) (DEnd X pins σ H Q) X.xe s
structure OpF(X:Cx)(f:Value->Value->Sem Value)(g:D->D->(List D->Prop)->Prop):Prop where
 run:∀(pins:List (Addr×Obj)) (s:Shared) (σ:St) (H:Hp) (x y:V) (v u:Value) (a b:D) (Q:List D->Prop),Inv X pins σ H s->RelV x v->RelV y u->RepT X.K H a x->RepT X.K H b y->g a b Q->wpAny (model X.prog X.w) X.A (f v u) (DEndF X pins σ H Q) X.xe s
def dOp(g:DOp)(ta tb:DTE):DTE:=fun σ Q=>ta σ fun a=>tb σ fun b=>g a b Q
section
variable {X:Cx}{a b c:Expr}{ta tb tc:DTE}{pos:Pos}
theorem OpD.of{f:Value->Value->Sem Value}{r:R2}{g:DOp}(h:OpR X f r)(k:∀ x y H a b Q,RepT X.K H a x->RepT X.K H b y->g a b Q->r x y H (fun v H'=>∃ d,Same H H'/\Rep X.K H' d v/\Q d)):OpD X f g :=
 ⟨fun pins s σ H x y v u a b Q I rx ry ra rb q=>thn (h pins s σ H x y v u _ I rx ry (k x y H a b Q ra rb q)) fun w s' ⟨z,H',I',rz,d,sm,rp,qd⟩=>⟨z,H',d,I',rz,sm,rp,qd⟩⟩
theorem OpF.of{f:Value->Value->Sem Value}{r:R2}{g:D->D->(List D->Prop)->Prop}(h:OpR X f r)(k:∀ x y H a b Q,RepT X.K H a x->RepT X.K H b y->g a b Q->r x y H (fun v H'=>∃ p vs xs,v=.ref p/\Same H H'/\H p=none/\H' p=some (.lst vs)/\Reps X.K H' xs vs/\Q xs)):OpF X f g :=
 ⟨fun pins s σ H x y v u a b Q I rx ry ra rb q=>thn (h pins s σ H x y v u _ I rx ry (k x y H a b Q ra rb q)) fun w s' ⟨z,H',I',rz,p,vs,xs,ez,sm,n,e,rp,qd⟩=>⟨p,H',vs,xs,by subst ez;exact rz,I',sm,n,e,rp,qd⟩⟩
theorem OpF.opD{f:Value->Value->Sem Value}{g:D->D->(List D->Prop)->Prop}(h:OpF X f g):OpD X f (fun a b Q=>g a b fun xs=>Q (.list xs)) :=
 ⟨fun pins s σ H x y v u a b Q I rx ry ra rb q=>thn (h.run pins s σ H x y v u a b _ I rx ry ra rb q) fun w s' ⟨p,H',vs,xs,ew,I',sm,n,e,rp,qd⟩=>by
  obtain⟨H'',J,sm',r'⟩:=freeze I' sm n e rp
  exact⟨.ref p,H'',.list xs,J,ew,sm',r',qd⟩⟩
theorem bin2{ta tb:DTE}(ha:DV X a ta)(hb:DV X b tb){pins:List (Addr×Obj)}{s:Shared}{σ:St}{H H₀:Hp}{σD:DSt}{R:D->D->Prop}(I:Inv X pins σ H s)(ok:DOk X.K H₀ H σD σ)(h:ta σD fun x=>tb σD fun y=>R x y)
  {α:Type} {Q:α->Shared->Prop} {f:Value->Value->Sem α}
  (hf:∀ v u s2 x y H2 d e,Inv X pins σ H2 s2->RelV x v->RelV y u->Same H H2->RepT X.K H2 d x->RepT X.K H2 e y->R d e->wpAny (model X.prog X.w) X.A (f v u) Q X.xe s2) :
  wpAny (model X.prog X.w) X.A (eval a X.env) (fun v s₁=>wpAny (model X.prog X.w) X.A (eval b X.env) (fun u s₂=>wpAny (model X.prog X.w) X.A (f v u) Q X.xe s₂) X.xe s₁) X.xe s:=by
 refine thn (ha.run pins s σ H H₀ σD _ I ok h) fun v s1 ⟨x,H1,d,I1,r1,sm1,p1,q1⟩=>?_
 refine thn (hb.run pins s1 σ H1 H₀ σD _ I1 (ok.after sm1) q1) fun u s2 ⟨y,H2,e,I2,r2,sm2,p2,q2⟩=>?_
 exact hf v u s2 x y H2 d e I2 r1 r2 (sm1.trans sm2) (p1.same sm2) p2 q2
theorem de_op{op:Operator}{g:DOp}(ho:OpD X (binaryOp op) g)(ha:DV X a ta)(hb:DV X b tb):DE X (.BinOp a op b pos) (dOp g ta tb) :=
 ⟨fun pins s σ H H₀ σD Q I ok q=>wpAny_BinOp (bin2 ha hb I ok q fun v u s2 x y H2 d e I2 rx ry sm rd re qd=>thn (ho.run pins s2 σ H2 x y v u d e Q I2 rx ry rd re qd) fun _ _ z=>z.back sm)⟩
theorem de_cmp{op:CmpOp}{g:DOp}(ho:OpD X (compareOp op) g)(ha:DV X a ta)(hb:DV X b tb)(hm:behindInMarks op b=false):DE X (.Compare a [op] [b] pos) (dOp g ta tb) :=
 ⟨fun pins s σ H H₀ σD Q I ok q=>wpAny_Compare1 (bin2 ha hb I ok q fun v u s2 x y H2 d e I2 rx ry sm rd re qd=>thn (ho.run pins s2 σ H2 x y v u d e Q I2 rx ry rd re qd) fun _ _ z=>z.back sm) hm⟩
theorem dt_cmp{op:CmpOp}{g:DOp}(ho:OpD X (compareOp op) g)(ha:DV X a ta)(hb:DV X b tb)(hm:behindInMarks op b=false):DT X (.Compare a [op] [b] pos) (dTB (dOp g ta tb)) :=
 ⟨fun pins s σ H H₀ σD Q I ok q=>by
  refine wpAny_isTrue_Compare1 (thn (ha.run pins s σ H H₀ σD _ I ok q) fun v s1 ⟨x,H1,d,I1,r1,sm1,p1,q1⟩=>thn (hb.run pins s1 σ H1 H₀ σD _ I1 (ok.after sm1) q1) fun u s2 ⟨y,H2,e,I2,r2,sm2,p2,q2⟩ =>
   thn (ho.run pins s2 σ H2 x y v u d e _ I2 r1 r2 (p1.same sm2) p2 q2) fun k s3 ⟨z,H3,dz,I3,r3,sm3,p3,q3⟩=>?_) hm
  cases dz with
  | bool k =>
   cases p3
   cases r3
   exact wpAny_truthy_bool ⟨H3,I3,(sm1.trans sm2).trans sm3,q3⟩
  | _=>exact q3.elim⟩
def dChain(g g':DOp)(ta tb tc:DTE):DTE:=fun σ Q=>ta σ fun a=>tb σ fun b=>g a b fun z=>match z with
 | .bool k=>if k=true then tc σ fun c=>g' b c Q else Q (.bool false)
 | _=>False
theorem de_chain{op op':CmpOp}{g g':DOp}(ho:OpD X (compareOp op) g)(ho':OpD X (compareOp op') g')(ha:DV X a ta)(hb:DV X b tb)(hc:DV X c tc)
  (hm:lastMarks [op,op'] [b,c]=false:=by with_unfolding_all rfl):DE X (.Compare a [op,op'] [b,c] pos) (dChain g g' ta tb tc):=⟨fun pins s σ H H₀ σD Q I ok q=>by
 refine Compare_chain (thn (ha.run pins s σ H H₀ σD _ I ok q) fun v s1 ⟨x,H1,d,I1,r1,sm1,p1,q1⟩=>chain_link (thn (hb.run pins s1 σ H1 H₀ σD _ I1 (ok.after sm1) q1) fun u s2 ⟨y,H2,e,I2,r2,sm2,p2,q2⟩ =>
  thn (ho.run pins s2 σ H2 x y v u d e _ I2 r1 r2 (p1.same sm2) p2 q2) fun k s3 ⟨z,H3,dz,I3,r3,sm3,p3,q3⟩=>?_)) hm
 cases dz with
 | bool k =>
  cases p3
  cases r3
  refine wpAny_truthy_bool ?_
  cases k with
  | false=>exact ite_ff ⟨.bl false,H3,.bool false,I3,rfl,(sm1.trans sm2).trans sm3,.bl,by simpa using q3⟩
  | true =>
   refine ite_tt (chain_last (thn (hc.run pins s3 σ H3 H₀ σD (fun c=>g' e c Q) I3 (ok.after ((sm1.trans sm2).trans sm3)) (by simpa using q3)) fun w' s4 ⟨z',H4,f,I4,r4,sm4,p4,q4⟩=>?_))
   exact thn (ho'.run pins s4 σ H4 y z' u w' e f Q I4 r2 r4 ((p2.same sm3).same sm4) p4 q4) fun _ _ z=>z.back (((sm1.trans sm2).trans sm3).trans sm4)
 | _=>exact q3.elim⟩
def dUn(g:D->(D->Prop)->Prop)(ta:DTE):DTE:=fun σ Q=>ta σ fun a=>g a Q
def gNeg:D->(D->Prop)->Prop
 | .int i,Q=>Q (.int (-i))
 | _,_=>False
theorem de_neg(ha:DE X a ta):DE X (.UnaryOp .USub a pos) (dUn gNeg ta) :=
 DE.of (pe_un un_neg ha.pe) fun σ H H₀ σD QD ok q=>⟨H₀,σD,_,ok,q,fun v H1 d s1 r1 q1=>by
  cases d with
  | int i=>cases r1;exact⟨i,rfl,.int (-i),s1,.int,q1⟩
  | _=>exact q1.elim⟩
def gNot:D->(D->Prop)->Prop
 | .bool b,Q=>Q (.bool (!b))
 | _,_=>False
theorem de_not(ha:DE X a ta):DE X (.UnaryOp .Not a pos) (dUn gNot ta) :=
 DE.of (pe_not ha.pe) fun σ H H₀ σD QD ok q=>⟨H₀,σD,_,ok,q,fun v H1 d s1 r1 q1=>by
  cases d with
  | bool i=>cases r1;exact⟨i,rfl,.bool (!i),s1,.bl,q1⟩
  | _=>exact q1.elim⟩
theorem RepT.int{K:PySem.W.Frag}{H:Hp}{i:Int}{v:V}(h:RepT K H (.int i) v):v=.int i:=by
 rcases h with h | ⟨_,e,_⟩
 ·cases h;rfl
 ·cases e
theorem RepT.str{K:PySem.W.Frag}{H:Hp}{i:Str}{v:V}(h:RepT K H (.str i) v):v=.str i:=by
 rcases h with h | ⟨_,e,_⟩
 ·cases h;rfl
 ·cases e
theorem RepT.bool{K:PySem.W.Frag}{H:Hp}{i:Bool}{v:V}(h:RepT K H (.bool i) v):v=.bl i:=by
 rcases h with h | ⟨_,e,_⟩
 ·cases h;rfl
 ·cases e
theorem RepT.none{K:PySem.W.Frag}{H:Hp}{v:V}(h:RepT K H .none v):v=.non:=by
 rcases h with h | ⟨_,e,_⟩
 ·cases h;rfl
 ·cases e
theorem RepT.tuple{K:PySem.W.Frag}{H:Hp}{xs:List D}{v:V}(h:RepT K H (.tuple xs) v):∃ a vs,v=.ref a/\SqT K H a vs/\Reps K H xs vs:=by
 rcases h with h | ⟨_,e,_⟩
 ·cases h with
  | tup h r=>exact⟨_,_,rfl,h,r⟩
 ·cases e
def gII(C:Int->Int->Prop)(f:Int->Int->D):DOp
 | .int i,.int j,Q=>C i j/\Q (f i j)
 | _,_,_=>False
def gII0(f:Int->Int->D):DOp
 | .int i,.int j,Q=>Q (f i j)
 | _,_,_=>False
theorem OpD.ii{f:Value->Value->Sem Value}{C:Int->Int->Prop}{g:Int->Int->Int}(h:OpR X f (rI C fun i j=>.int (g i j))):OpD X f (gII C fun i j=>.int (g i j)) :=
 OpD.of h fun x y H a b Q ra rb q=>by
  cases a with
  | int i =>
   cases b with
   | int j=>cases ra.int;cases rb.int;exact⟨i,j,rfl,rfl,q.1,.int _,Same.refl _,.int,q.2⟩
   | _=>exact q.elim
  | _=>exact q.elim
theorem OpD.ii0{f:Value->Value->Sem Value}{g:Int->Int->Int}(h:OpR X f (rI0 fun i j=>.int (g i j))):OpD X f (gII0 fun i j=>.int (g i j)) :=
 OpD.of h fun x y H a b Q ra rb q=>by
  cases a with
  | int i =>
   cases b with
   | int j=>cases ra.int;cases rb.int;exact⟨i,j,rfl,rfl,.int _,Same.refl _,.int,q⟩
   | _=>exact q.elim
  | _=>exact q.elim
theorem OpD.ib0{f:Value->Value->Sem Value}{g:Int->Int->Bool}(h:OpR X f (rI0 fun i j=>.bl (g i j))):OpD X f (gII0 fun i j=>.bool (g i j)) :=
 OpD.of h fun x y H a b Q ra rb q=>by
  cases a with
  | int i =>
   cases b with
   | int j=>cases ra.int;cases rb.int;exact⟨i,j,rfl,rfl,.bool _,Same.refl _,.bl,q⟩
   | _=>exact q.elim
  | _=>exact q.elim
theorem o_sub:OpD X (binaryOp .Sub) (gII0 fun i j=>.int (i-j)):=OpD.ii0 op_sub
theorem o_mod:OpD X (binaryOp .Mod) (gII (fun _ j=>0<j) fun i j=>.int (i % j)):=OpD.ii op_mod
theorem o_pow:OpD X (binaryOp .Pow) (gII CPow fun i j=>.int (i ^ j.toNat)):=OpD.ii op_pow
theorem o_lt:OpD X (compareOp .Lt) (gII0 fun i j=>.bool (decide (i<j))):=OpD.ib0 op_lt
theorem o_le:OpD X (compareOp .LtE) (gII0 fun i j=>.bool (decide (i<=j))):=OpD.ib0 op_le
theorem o_gt:OpD X (compareOp .Gt) (gII0 fun i j=>.bool (decide (j<i))):=OpD.ib0 op_gt
theorem o_ge:OpD X (compareOp .GtE) (gII0 fun i j=>.bool (decide (j<=i))):=OpD.ib0 op_ge
def gCat:D->D->(List D->Prop)->Prop
 | .list xs,.list ys,Q=>xs.length+ys.length<=sizeLine/\Q (xs++ys)
 | _,_,_=>False
theorem op_catR:OpR X (binaryOp .Add) (fun x y H Q=>∃ l b xs zs,x=.ref l/\y=.ref b/\Rd H l (.lst xs)/\Rd H b (.lst zs)/\xs.length+zs.length<=sizeLine/\∀ p,H p=none->Q (.ref p) (upd H p (.lst (xs++zs)))):=by
 intro pins s σ H x y v u Q I rx ry h
 obtain⟨l,b,xs,zs,rfl,rfl,hH,hB,hz,q⟩:=h
 cases rx
 cases ry
 obtain⟨z,its,n,r,e⟩:=hH.ok I.hok
 obtain⟨z2,its2,n2,r2,e2⟩:=hB.ok I.hok
 have hl:=r.length
 have hl2:=r2.length
 refine PySem.P.add_list e e2 ?_ (by rw [List.size_toArray,List.size_toArray];omega)
 have ea:its.toArray++its2.toArray=(its++its2).toArray:=by simp
 rw [ea]
 exact⟨.ref _,_,I.lnew (t':=s.toks) (r.append r2) (by rw [List.length_append];omega),rfl,q _ I.fresh⟩
theorem f_cat:OpF X (binaryOp .Add) gCat:=OpF.of op_catR fun x y H a b Q ra rb q=>by
 cases a with
 | list xs =>
  cases b with
  | list ys =>
   obtain⟨l,vs,rfl,hl,r1⟩:=ra.list
   obtain⟨m,ws,rfl,hm,r2⟩:=rb.list
   exact⟨l,m,vs,ws,rfl,rfl,hl,hm,by rw [<-r1.length,<-r2.length];exact q.1,fun p hp=>⟨p,_,xs++ys,rfl,same_new hp _,hp,upd_same,(r1.append r2).same (same_new hp _),q.2⟩⟩
  | _=>exact q.elim
 | _=>exact q.elim
def gRep:D->D->(List D->Prop)->Prop
 | .list xs,.int k,Q=>-(2 ^ 63)<=k/\k<2 ^ 63/\xs.length * k.toNat<=sizeLine/\Q (List.replicate k.toNat xs).flatten
 | _,_,_=>False
theorem op_repR:OpR X (binaryOp .Mult) (fun x y H Q=>∃ l k xs,x=.ref l/\y=.int k/\Rd H l (.lst xs)/\-(2 ^ 63)<=k/\k<2 ^ 63/\xs.length * k.toNat<=sizeLine /\
 ∀ p,H p=none->Q (.ref p) (upd H p (.lst (List.replicate k.toNat xs).flatten))):=by
 intro pins s σ H x y v u Q I rx ry h
 obtain⟨l,k,xs,rfl,rfl,hH,h1,h2,hz,q⟩:=h
 cases rx
 obtain⟨t,rfl⟩:=ry
 obtain⟨z,its,n,r,e⟩:=hH.ok I.hok
 have hl:=r.length
 have hlen:its.toArray.size * k.toNat<=sizeLine:=by rw [List.size_toArray,<-hl];exact hz
 have hcap:¬ its.toArray.size * k.toNat > (2 ^ 63-1) / 8:=by
  have:(sizeLine:Nat)<=(2 ^ 63-1) / 8:=by decide
  omega
 have hfit:¬ (!Builtin.List.listFitsIndex k)=true:=by
  rw [fitsIndex_both h1 h2]
  exact Bool.false_ne_true
 have hlong:¬ Builtin.List.listTooLong (its.toArray.size * k.toNat)=true:=by
  rw [notLongL hlen]
  exact Bool.false_ne_true
 have hnew:List.foldl (fun x1 x2=>x1++x2) #[] (List.replicate (if its.toArray.isEmpty=true then 0 else k.toNat) its.toArray)=(List.replicate k.toNat its).flatten.toArray:=by
  have f0:∀ m:Nat,List.foldl (fun x1 x2=>x1++x2) #[] (List.replicate m its.toArray)=(List.replicate m its).flatten.toArray:=fun m=>by
   have:=foldl_rep its m []
   rw [List.nil_append] at this
   exact this
  rw [f0]
  cases its with
  | nil=>simp
  | cons a r'=>rw [if_neg (by simp)]
 refine wpAny_binaryOp_repeat_ref (T := "list") (U := "int") (by decide) ⟨_,e,rfl⟩ (fun s'=>typeIs_int s' k t) noFill_list_mul F.fills_int_mul F.slot_int_rmul repeat_list F.slot_int_index.lookup
  (call_meets F.slot_int_rmul (typeIs_int s k t) F.entry_int_rmul (F.args_int_rmul_2 _ _) (int___rmul___int_list k t l its.toArray n)
   ⟨e,rfl,⟨_,e,rfl⟩,call_meets F.slot_list_mul ⟨_,e,rfl⟩ F.entry_list_mul (F.args_list_mul_2 _ _) (AutoListH.list___mul___list_int_3 l its.toArray n k t hfit hcap hlong) ⟨e,?_⟩⟩)
 rw [hnew]
 exact⟨.ref _,_,I.lnew (t':=s.toks) (r.rep k.toNat) (by rw [len_rep,Nat.mul_comm];exact hz),rfl,q _ I.fresh⟩
theorem f_rep:OpF X (binaryOp .Mult) gRep:=OpF.of op_repR fun x y H a b Q ra rb q=>by
 cases a with
 | list xs =>
  cases b with
  | int k =>
   obtain⟨l,vs,rfl,hl,r1⟩:=ra.list
   cases rb.int
   obtain⟨h1,h2,h3,q⟩:=q
   exact⟨l,k,vs,rfl,rfl,hl,h1,h2,by rw [<-r1.length];exact h3,fun p hp=>⟨p,_,_,rfl,same_new hp _,hp,upd_same,(r1.rep k.toNat).same (same_new hp _),q⟩⟩
  | _=>exact q.elim
 | _=>exact q.elim
def gAdd:DOp
 | .int i,.int j,Q=>Q (.int (i+j))
 | .str x,.str y,Q=>x.length+y.length<=sizeLine/\Q (.str (x++y))
 | .tuple xs,.tuple ys,Q=>xs.length+ys.length<=sizeLine/\Q (.tuple (xs++ys))
 | .list xs,.list ys,Q=>xs.length+ys.length<=sizeLine/\Q (.list (xs++ys))
 | _,_,_=>False
theorem op_catS:OpR X (binaryOp .Add) (fun x y H Q=>∃ a b xs ys,x=.ref a/\y=.ref b/\SqT X.K H a xs/\SqT X.K H b ys/\xs.length+ys.length<=sizeLine/\∀ p H',Same H H'->SqT X.K H' p (xs++ys)->Q (.ref p) H'):=by
 intro pins s σ H x y v u Q I rx ry h
 obtain⟨a,b,xs,ys,rfl,rfl,ha,hb,hz,q⟩:=h
 cases rx
 cases ry
 obtain⟨its,r1,p1,_⟩:=I.tuple ha
 obtain⟨its2,r2,p2,_⟩:=I.tuple hb
 by_cases hx:xs = []
 ·obtain⟨⟨cls,dd,data,sl⟩,ho,hc,n,hd⟩:=id p1
  obtain⟨⟨cls2,dd2,data2,sl2⟩,ho2,hc2,n2,hd2⟩:=id p2
  simp only at hc hd hc2 hd2
  subst hc hd hc2 hd2
  have hv:its = []:=r1.nil_iff.mpr hx
  refine concat_meets ⟨_,ho,rfl⟩ ⟨_,ho2,rfl⟩ noFill_tuple_add seq_tuple_add PySem.F.slot_tuple_add PySem.F.entry_tuple_add (PySem.F.args_tuple_add_2 _ _) (tuple_addW0 a b its.toArray its2.toArray n n2 dd dd2 sl sl2 (by simp [hv])) ⟨ho,ho2,?_⟩
  exact⟨.ref b,H,I,rfl,q b H (Same.refl H) (by rw [hx,List.nil_append];exact hb)⟩
 ·refine HT.cat_tup p1 p2 (fun z=>hx (r1.nil_iff.mp z)) (fun z=>⟨.ref a,H,I,rfl,q a H (Same.refl H) (by rw [r2.nil_iff.mp z,List.append_nil];exact ha)⟩) (fun z=>?_) (by rw [<-r1.length,<-r2.length];exact hz)
  refine⟨.ref s.heap.objs.size,_,I.laid (t':=s.toks) (o:=.tup (xs++ys)) (fun b ob q=>Heap.get?_push_of_some _ q) (Nat.le_refl _) ?_,rfl,q _ _ (same_new (I.hok.fresh (Nat.le_refl _)) _) (SqT.of upd_same)⟩
  exact⟨by rw [List.length_append];exact hz,_,r1.append r2,TupD.new _ _⟩
theorem o_catT:OpD X (binaryOp .Add) (fun a b Q=>match a,b with | .tuple xs,.tuple ys=>xs.length+ys.length<=sizeLine/\Q (.tuple (xs++ys)) | _,_=>False):=OpD.of op_catS fun x y H a b Q ra rb q=>by
 cases a with
 | tuple xs =>
  cases b with
  | tuple ys =>
   obtain⟨l,vs,rfl,hl,r1⟩:=ra.tuple
   obtain⟨m,ws,rfl,hm,r2⟩:=rb.tuple
   exact⟨l,m,vs,ws,rfl,rfl,hl,hm,by rw [<-r1.length,<-r2.length];exact q.1,fun p H' sm e=>⟨_,sm,.tup e ((r1.append r2).same sm),q.2⟩⟩
  | _=>exact q.elim
 | _=>exact q.elim
theorem o_addS:OpD X (binaryOp .Add) (fun a b Q=>match a,b with | .str x,.str y=>x.length+y.length<=sizeLine/\Q (.str (x++y)) | _,_=>False):=OpD.of op_add_str fun x y H a b Q ra rb q=>by
 cases a with
 | str xs =>
  cases b with
  | str ys=>cases ra.str;cases rb.str;exact⟨_,_,rfl,rfl,q.1,.str _,Same.refl _,.str,q.2⟩
  | _=>exact q.elim
 | _=>exact q.elim
theorem o_add:OpD X (binaryOp .Add) gAdd:=⟨fun pins s σ H x y v u a b Q I rx ry ra rb q=>by
 cases a with
 | int i=>cases b with
  | int j=>exact(OpD.ii0 op_add).run pins s σ H x y v u _ _ Q I rx ry ra rb q
  | _=>exact q.elim
 | str i=>cases b with
  | str j=>exact o_addS.run pins s σ H x y v u _ _ Q I rx ry ra rb q
  | _=>exact q.elim
 | tuple i=>cases b with
  | tuple j=>exact o_catT.run pins s σ H x y v u _ _ Q I rx ry ra rb q
  | _=>exact q.elim
 | list i=>cases b with
  | list j=>exact f_cat.opD.run pins s σ H x y v u _ _ Q I rx ry ra rb q
  | _=>exact q.elim
 | _=>exact q.elim⟩
def gMul:DOp
 | .int i,.int j,Q=>CMul i j/\Q (.int (i * j))
 | .list xs,.int k,Q=>-(2 ^ 63)<=k/\k<2 ^ 63/\xs.length * k.toNat<=sizeLine/\Q (.list (List.replicate k.toNat xs).flatten)
 | _,_,_=>False
theorem o_mul:OpD X (binaryOp .Mult) gMul:=⟨fun pins s σ H x y v u a b Q I rx ry ra rb q=>by
 cases a with
 | int i=>cases b with
  | int j=>exact(OpD.ii op_mul).run pins s σ H x y v u _ _ Q I rx ry ra rb q
  | _=>exact q.elim
 | list i=>cases b with
  | int j=>exact f_rep.opD.run pins s σ H x y v u _ _ Q I rx ry ra rb q
  | _=>exact q.elim
 | _=>exact q.elim⟩
def gEq:DOp
 | .int i,.int j,Q=>Q (.bool (decide (i=j)))
 | .str i,.str j,Q=>Q (.bool (decide (i=j)))
 | .bool i,.bool j,Q=>Q (.bool (decide (i=j)))
 | a,b,Q=>Lay a/\Lay b/\Q (.bool (PyData.eqv a b))
def gNe:DOp
 | .int i,.int j,Q=>Q (.bool (!decide (i=j)))
 | .str i,.str j,Q=>Q (.bool (!decide (i=j)))
 | .bool i,.bool j,Q=>Q (.bool (!decide (i=j)))
 | a,b,Q=>Lay a/\Lay b/\Q (.bool (!PyData.eqv a b))
theorem o_eqG(hu:X.A.units+64<cLine):OpD X (compareOp .Eq) (fun a b Q=>Lay a/\Lay b/\Q (.bool (PyData.eqv a b))):=⟨fun pins s σ H x y v u a b Q I rx ry ra rb q=>by
 obtain⟨as,e1⟩:=ra.reads I rx q.1.can
 obtain⟨bs,e2⟩:=rb.reads I ry q.2.1.can
 exact eq_dataH e1 e2 q.1 q.2.1 hu ⟨.bl _,H,_,I,rfl,Same.refl _,.bl,q.2.2⟩⟩
theorem o_neG(hu:X.A.units+64<cLine):OpD X (compareOp .NotEq) (fun a b Q=>Lay a/\Lay b/\Q (.bool (!PyData.eqv a b))):=⟨fun pins s σ H x y v u a b Q I rx ry ra rb q=>by
 obtain⟨as,e1⟩:=ra.reads I rx q.1.can
 obtain⟨bs,e2⟩:=rb.reads I ry q.2.1.can
 exact ne_dataH e1 e2 q.1 q.2.1 hu ⟨.bl _,H,_,I,rfl,Same.refl _,.bl,q.2.2⟩⟩
theorem o_eqS{f:D->D->Bool}(neg:Bool)(op:CmpOp)(h:OpR X (compareOp op) (fun x y H Q=>scal x y=true/\Q (.bl (if neg then !decide (x=y) else decide (x=y))) H)):
  OpD X (compareOp op) (fun a b Q=>match a,b with
   | .int i,.int j=>Q (.bool (if neg then !decide (i=j) else decide (i=j)))
   | .str i,.str j=>Q (.bool (if neg then !decide (i=j) else decide (i=j)))
   | .bool i,.bool j=>Q (.bool (if neg then !decide (i=j) else decide (i=j)))
   | _,_=>False):=OpD.of h fun x y H a b Q ra rb q=>by
 cases a with
 | int i=>cases b with
  | int j =>
   cases ra.int;cases rb.int
   have e:decide (V.int i=V.int j)=decide (i=j):=by rw [Bool.eq_iff_iff];simp
   rw [e]
   exact⟨rfl,.bool _,Same.refl _,.bl,q⟩
  | _=>exact q.elim
 | str i=>cases b with
  | str j =>
   cases ra.str;cases rb.str
   have e:decide (V.str i=V.str j)=decide (i=j):=by rw [Bool.eq_iff_iff];simp
   rw [e]
   exact⟨rfl,.bool _,Same.refl _,.bl,q⟩
  | _=>exact q.elim
 | bool i=>cases b with
  | bool j =>
   cases ra.bool;cases rb.bool
   have e:decide (V.bl i=V.bl j)=decide (i=j):=by rw [Bool.eq_iff_iff];simp
   rw [e]
   exact⟨rfl,.bool _,Same.refl _,.bl,q⟩
  | _=>exact q.elim
 | _=>exact q.elim
theorem o_eq{k:Nat}(hr:Room k X.A):OpD X (compareOp .Eq) gEq:=⟨fun pins s σ H x y v u a b Q I rx ry ra rb q=>by
 have G:=(o_eqG (X:=X) hr.units).run pins s σ H x y v u a b Q I rx ry ra rb
 have S:=(o_eqS (X:=X) (f:=fun _ _=>true) false .Eq op_eq).run pins s σ H x y v u a b Q I rx ry ra rb
 cases a <;> cases b <;> first | exact S q | exact G q⟩
theorem o_ne{k:Nat}(hr:Room k X.A):OpD X (compareOp .NotEq) gNe:=⟨fun pins s σ H x y v u a b Q I rx ry ra rb q=>by
 have G:=(o_neG (X:=X) hr.units).run pins s σ H x y v u a b Q I rx ry ra rb
 have S:=(o_eqS (X:=X) (f:=fun _ _=>true) true .NotEq op_ne).run pins s σ H x y v u a b Q I rx ry ra rb
 cases a <;> cases b <;> first | exact S q | exact G q⟩
def inD(x:D)(ys:List D):Bool:=ys.any fun y=>PyData.eqv y x
def gIn(neg:Bool):DOp:=fun a b Q=>match b with
 | .list ys=>Lay a/\Lay (.list ys)/\Q (.bool (if neg then !inD a ys else inD a ys))
 | .tuple ys=>Lay a/\Lay (.tuple ys)/\Q (.bool (if neg then !inD a ys else inD a ys))
 | _=>False
theorem Lay.all{xs:List D}(h:Lay (.list xs)):PyData.canLayAll0 xs=true:=by simpa [PyData.canLay0] using h.can
theorem Lay.allT{xs:List D}(h:Lay (.tuple xs)):PyData.canLayAll0 xs=true:=by simpa [PyData.canLay0] using h.can
theorem o_in{k:Nat}(hr:Room k X.A):OpD X (compareOp .In) (gIn false):=⟨fun pins s σ H x y v u a b Q I rx ry ra rb q=>by
 have hu:=hr.un
 cases b with
 | list ys =>
  obtain⟨as,e1⟩:=ra.reads I rx q.1.can
  obtain⟨bs,e2⟩:=rb.reads I ry q.2.1.can
  have:=q.1.deep
  exact SeqAt.in_list_reads e2 e1 q.2.1.all q.1.can (by omega) ⟨.bl _,H,_,I,rfl,Same.refl _,.bl,q.2.2⟩
 | tuple ys =>
  obtain⟨as,e1⟩:=ra.reads I rx q.1.can
  obtain⟨bs,e2⟩:=rb.reads I ry q.2.1.can
  have:=q.1.deep
  exact SeqAt.in_tuple_reads e2 e1 q.2.1.allT q.1.can (by omega) ⟨.bl _,H,_,I,rfl,Same.refl _,.bl,q.2.2⟩
 | _=>exact q.elim⟩
end
structure CallD(X:Cx)(f:Value)(g:List D->(D->Prop)->Prop):Prop where
 run:∀(pins:List (Addr×Obj)) (s:Shared) (σ:St) (H:Hp) (vs:List V) (us:List Value) (ds:List D) (Q:D->Prop),Inv X pins σ H s->Vals vs us->RepTs X.K H ds vs->g ds Q->wpAny (model X.prog X.w) X.A (call f us) (DEnd X pins σ H Q) X.xe s
structure CallF(X:Cx)(f:Value)(g:List D->(List D->Prop)->Prop):Prop where
 run:∀(pins:List (Addr×Obj)) (s:Shared) (σ:St) (H:Hp) (vs:List V) (us:List Value) (ds:List D) (Q:List D->Prop),Inv X pins σ H s->Vals vs us->RepTs X.K H ds vs->g ds Q->wpAny (model X.prog X.w) X.A (call f us) (DEndF X pins σ H Q) X.xe s
def dCB(g:List D->(D->Prop)->Prop)(t:DTF):DTE:=fun σ Q=>t σ fun ds=>g ds Q
def dCF(g:List D->(List D->Prop)->Prop)(t:DTF):DTF:=fun σ Q=>t σ fun ds=>g ds Q
section
variable {X:Cx}{f:Value}{g:List D->(D->Prop)->Prop}{gf:List D->(List D->Prop)->Prop}{e:Expr}{es:List Expr}{t:DTF}{x:Str}{p pos:Pos}
theorem CallD.of{r:List V->Hp->VK->Prop}(h:CallR X f r)(k:∀ vs H ds Q,RepTs X.K H ds vs->g ds Q->r vs H (fun v H'=>∃ d,Same H H'/\Rep X.K H' d v/\Q d)):CallD X f g :=
 ⟨fun pins s σ H vs us ds Q I rv rd q=>thn (h pins s σ H vs us _ I rv (k vs H ds Q rd q)) fun w s' ⟨z,H',I',rz,d,sm,rp,qd⟩=>⟨z,H',d,I',rz,sm,rp,qd⟩⟩
theorem CallF.of{r:List V->Hp->VK->Prop}(h:CallR X f r)(k:∀ vs H ds Q,RepTs X.K H ds vs->gf ds Q->r vs H (fun v H'=>∃ p vs xs,v=.ref p/\Same H H'/\H p=none/\H' p=some (.lst vs)/\Reps X.K H' xs vs/\Q xs)):CallF X f gf :=
 ⟨fun pins s σ H vs us ds Q I rv rd q=>thn (h pins s σ H vs us _ I rv (k vs H ds Q rd q)) fun w s' ⟨z,H',I',rz,p,ws,xs,ez,sm,n,e,rp,qd⟩=>⟨p,H',ws,xs,by subst ez;exact rz,I',sm,n,e,rp,qd⟩⟩
theorem CallD.cr(h:CallD X f g):CallR X f (fun vs H Q=>∃ ds QD,RepTs X.K H ds vs/\g ds QD/\∀ v H' d,Same H H'->Rep X.K H' d v->QD d->Q v H') :=
 fun pins s σ H vs us Q I rv ⟨ds,QD,rd,q,k⟩=>thn (h.run pins s σ H vs us ds QD I rv rd q) fun w s' ⟨z,H',d,I',rz,sm,rp,qd⟩=>⟨z,H',I',rz,k z H' d sm rp qd⟩
theorem CallF.cr(h:CallF X f gf):CallR X f (fun vs H Q=>∃ ds QD,RepTs X.K H ds vs/\gf ds QD/\∀ a H' ws xs,Same H H'->H a=none->H' a=some (.lst ws)->Reps X.K H' xs ws->QD xs->Q (.ref a) H') :=
 fun pins s σ H vs us Q I rv ⟨ds,QD,rd,q,k⟩=>thn (h.run pins s σ H vs us ds QD I rv rd q) fun w s' ⟨a,H',ws,xs,ew,I',sm,n,e,rp,qd⟩=>⟨.ref a,H',I',ew,k a H' ws xs sm n e rp qd⟩
theorem de_callB{id:String}(hc:CallD X (.builtin id) g)(hg:Gl X x)(hm:X.mg x=none)(hv:bootBuiltins x=some (.builtin id))(ha:DAv X (e::es) t)(hn:x ≠ "__name__" := by decide)(hdb:(x == ("__debug__" : Str))=false:=by decide)
  (he:starEach (e::es) X.env=(false,eval e X.env)::starEach es X.env:=by rfl) (hpl:(backTo pos (starEach es X.env)).any (·.1)=false:=by rfl):DE X (.Call (.Name x p) (e::es) [] pos) (dCB g t) :=
 DE.of (pe_callB hc.cr hg hm hv ha.pa hn hdb he hpl) fun σ H H₀ σD QD ok q=>⟨H₀,σD,_,ok,q,fun vs H1 ds s1 r1 q1=>⟨ds,_,r1,q1,fun v H' d s2 rp qd=>⟨d,s1.trans s2,rp,qd⟩⟩⟩
theorem de_callTy{id:String}(hc:CallD X (.type id) g)(hg:Gl X x)(hm:X.mg x=none)(hv:bootBuiltins x=some (.type id))(ha:DAv X (e::es) t)(hn:x ≠ "__name__" := by decide)(hdb:(x == ("__debug__" : Str))=false:=by decide)
  (he:starEach (e::es) X.env=(false,eval e X.env)::starEach es X.env:=by rfl) (hpl:(backTo pos (starEach es X.env)).any (·.1)=false:=by rfl):DE X (.Call (.Name x p) (e::es) [] pos) (dCB g t) :=
 DE.of (pe_callTy hc.cr hg hm hv ha.pa hn hdb he hpl) fun σ H H₀ σD QD ok q=>⟨H₀,σD,_,ok,q,fun vs H1 ds s1 r1 q1=>⟨ds,_,r1,q1,fun v H' d s2 rp qd=>⟨d,s1.trans s2,rp,qd⟩⟩⟩
theorem df_callTy{id:String}(hc:CallF X (.type id) gf)(hg:Gl X x)(hm:X.mg x=none)(hv:bootBuiltins x=some (.type id))(ha:DAv X (e::es) t)(hn:x ≠ "__name__" := by decide)(hdb:(x == ("__debug__" : Str))=false:=by decide)
  (he:starEach (e::es) X.env=(false,eval e X.env)::starEach es X.env:=by rfl) (hpl:(backTo pos (starEach es X.env)).any (·.1)=false:=by rfl):DF X (.Call (.Name x p) (e::es) [] pos) (dCF gf t) :=
 DF.of (pe_callTy hc.cr hg hm hv ha.pa hn hdb he hpl) fun σ H H₀ σD QD ok q=>⟨H₀,σD,_,ok,q,fun vs H1 ds s1 r1 q1=>⟨ds,_,r1,q1,fun a H' ws xs s2 n e rp qd=>⟨a,ws,xs,rfl,s1.trans s2,s1.free n,e,rp,qd⟩⟩⟩
theorem RepTs.one{K:PySem.W.Frag}{H:Hp}{d:D}{vs:List V}(h:RepTs K H [d] vs):∃ v,vs = [v]/\RepT K H d v:=by
 cases h with
 | cons r t=>cases t;exact⟨_,rfl,r⟩
theorem RepTs.two{K:PySem.W.Frag}{H:Hp}{d e:D}{vs:List V}(h:RepTs K H [d,e] vs):∃ v w,vs = [v,w]/\RepT K H d v/\RepT K H e w:=by
 cases h with
 | cons r t=>cases t with
  | cons r2 t=>cases t;exact⟨_,_,rfl,r,r2⟩
def gLen:List D->(D->Prop)->Prop
 | [.str x],Q=>x.length<=sizeLine/\Q (.int x.length)
 | [.list xs],Q=>Q (.int xs.length)
 | [.tuple xs],Q=>Q (.int xs.length)
 | _,_=>False
theorem c_len:CallD X (.builtin "len") gLen:=CallD.of call_len fun vs H ds Q rd q=>by
 match ds,q,rd with
 | [.str x],q,rd =>
  obtain⟨v,rfl,r⟩:=rd.one
  cases r.str
  exact⟨_,x.length,rfl,⟨q.1,rfl⟩,_,Same.refl _,.int,q.2⟩
 | [.list xs],q,rd =>
  obtain⟨v,rfl,r⟩:=rd.one
  obtain⟨a,vs,rfl,h,r⟩:=r.list.sq
  exact⟨_,xs.length,rfl,.inl ⟨vs,h,r.length⟩,_,Same.refl _,.int,q⟩
 | [.tuple xs],q,rd =>
  obtain⟨v,rfl,r⟩:=rd.one
  obtain⟨a,vs,rfl,h,r⟩:=r.tuple
  exact⟨_,xs.length,rfl,.inr ⟨vs,h,r.length⟩,_,Same.refl _,.int,q⟩
def gMax:List D->(D->Prop)->Prop
 | [.int i,.int j],Q=>Q (.int (max i j))
 | _,_=>False
theorem c_max(hc:X.calm=true):CallD X (.builtin "max") gMax:=CallD.of (call_max2 hc) fun vs H ds Q rd q=>by
 match ds,q,rd with
 | [.int i,.int j],q,rd =>
  obtain⟨v,w,rfl,r1,r2⟩:=rd.two
  cases r1.int
  cases r2.int
  refine⟨i,j,rfl,_,Same.refl _,.int,?_⟩
  have e:(if j > i then j else i)=max i j:=by split <;> omega
  rw [e]
  exact q
def gInt:List D->(D->Prop)->Prop
 | [.int i],Q=>Q (.int i)
 | [.bool b],Q=>Q (.int (if b then 1 else 0))
 | _,_=>False
theorem c_int:CallD X (.type "int") gInt:=CallD.of call_int1 fun vs H ds Q rd q=>by
 match ds,q,rd with
 | [.int i],q,rd =>
  obtain⟨v,rfl,r⟩:=rd.one
  cases r.int
  exact .inl ⟨i,rfl,_,Same.refl _,.int,q⟩
 | [.bool i],q,rd =>
  obtain⟨v,rfl,r⟩:=rd.one
  cases r.bool
  exact .inr ⟨i,rfl,_,Same.refl _,.int,q⟩
def gList:List D->(List D->Prop)->Prop
 | [.list xs],Q=>Q xs
 | [.tuple xs],Q=>Q xs
 | _,_=>False
theorem c_list:CallF X (.type "list") gList:=CallF.of call_list_of fun vs H ds Q rd q=>by
 match ds,q,rd with
 | [.list xs],q,rd =>
  obtain⟨v,rfl,r⟩:=rd.one
  obtain⟨a,vs,rfl,h,r⟩:=r.list.sq
  exact⟨a,vs,rfl,.inl h,fun l hl=>⟨l,vs,xs,rfl,same_new hl _,hl,upd_same,r.same (same_new hl _),q⟩⟩
 | [.tuple xs],q,rd =>
  obtain⟨v,rfl,r⟩:=rd.one
  obtain⟨a,vs,rfl,h,r⟩:=r.tuple
  exact⟨a,vs,rfl,.inr h,fun l hl=>⟨l,vs,xs,rfl,same_new hl _,hl,upd_same,r.same (same_new hl _),q⟩⟩
def gTuple:List D->(D->Prop)->Prop
 | [.list xs],Q=>Q (.tuple xs)
 | [.tuple xs],Q=>Q (.tuple xs)
 | _,_=>False
theorem c_tuple:CallD X (.type "tuple") gTuple:=CallD.of call_tuple_of fun vs H ds Q rd q=>by
 match ds,q,rd with
 | [.list xs],q,rd =>
  obtain⟨v,rfl,r⟩:=rd.one
  obtain⟨a,vs,rfl,h,r⟩:=r.list.sq
  exact⟨a,vs,rfl,.inl ⟨h,fun l hl=>⟨_,same_new hl _,.tup (SqT.of upd_same) (r.same (same_new hl _)),q⟩⟩⟩
 | [.tuple xs],q,rd =>
  obtain⟨v,rfl,r⟩:=rd.one
  obtain⟨a,vs,rfl,h,r⟩:=r.tuple
  exact⟨a,vs,rfl,.inr ⟨h,_,Same.refl _,.tup h r,q⟩⟩
def boolsD:List D->Option (List Bool)
 | []=>some []
 | .bool i::r=>(boolsD r).map (i :: ·)
 | _::_=>none
theorem boolsD_map(ns:List Bool):boolsD (ns.map PyData.bool)=some ns:=by
 induction ns with
 | nil=>rfl
 | cons n ns ih=>simp [boolsD,ih]
theorem boolsD_rep{K:PySem.W.Frag}{H:Hp}:∀{xs:List D} {vs:List V} {ns:List Bool},Reps K H xs vs->boolsD xs=some ns->vs=ns.map V.bl
 | [],_,ns,r,e=>by cases r;simp [boolsD] at e;subst e;rfl
 | x::xs,_,ns,r,e=>by
  cases r with
  | cons r t =>
   cases x with
   | bool i =>
    simp only [boolsD,Option.map_eq_some_iff] at e
    obtain⟨ms,e1,rfl⟩:=e
    cases r
    rw [boolsD_rep t e1]
    rfl
   | _=>simp [boolsD] at e
def gAll:List D->(D->Prop)->Prop
 | [.list xs],Q=>∃ ns,boolsD xs=some ns/\Q (.bool (ns.all id))
 | _,_=>False
theorem c_all(hc:X.calm=true):CallD X (.builtin "all") gAll:=CallD.of (call_all hc) fun vs H ds Q rd q=>by
 match ds,q,rd with
 | [.list xs],q,rd =>
  obtain⟨v,rfl,r⟩:=rd.one
  obtain⟨a,vs,rfl,h,r⟩:=r.list.sq
  obtain⟨ns,e,q⟩:=q
  cases boolsD_rep r e
  exact⟨a,ns,rfl,h,_,Same.refl _,.bl,q⟩
def isD:String->D->Bool
 | "int",.int _=>true
 | "int",.bool _=>true
 | "bool",.bool _=>true
 | "str",.str _=>true
 | "list",.list _=>true
 | "tuple",.tuple _=>true
 | "dict",.dict _=>true
 | _,_=>false
def tyD:D->String
 | .none => "NoneType"
 | .bool _ => "bool"
 | .int _ => "int"
 | .str _ => "str"
 | .list _ => "list"
 | .tuple _ => "tuple"
 | .dict _ => "dict"
theorem isinst_rep{pins:List (Addr×Obj)}{σ:St}{H:Hp}{s:Shared}{A:Around}{E:Value->Shared->Prop}{Q:Value->Shared->Prop}{c:Value}{b:Bool}{d:D}{v:V}{u:Value}(I:Inv X pins σ H s)(rp:RepT X.K H d v)(ru:RelV v u)(e:PySem.W.kitOne X.K (.type (tyD d)) c=some b)
  (h:∀ tk,Q (.bool b) { s with toks:=tk }):wpAny (model X.prog X.w) A (call (.builtin "isinstance") [u,c]) Q E s:=by
 rcases rp with rp | ⟨xs,rfl,a,vs,rfl,hr,_⟩
 ·cases rp with
  | non=>cases ru;exact PySem.W.kia_one PySem.W.kitx_none I.kIn True.intro e (fun z=>nomatch z) h
  | bl=>cases ru;exact PySem.W.kia_one PySem.W.kitx_bool I.kIn True.intro e (fun z=>nomatch z) h
  | int=>obtain⟨t,rfl⟩:=ru;exact PySem.W.kia_one PySem.W.kitx_int I.kIn True.intro e (fun z=>nomatch z) h
  | str=>obtain⟨t,rfl⟩:=ru;exact PySem.W.kia_one PySem.W.kitx_str I.kIn True.intro e (fun z=>nomatch z) h
  | tup q r =>
   cases ru
   obtain⟨its,_,⟨o,h1,h2,_⟩,_⟩:=I.tuple q
   exact PySem.W.kia_one PySem.W.kitx_tuple I.kIn ⟨o,h1,h2⟩ e (fun z=>nomatch z) h
  | lst q r =>
   cases ru
   obtain⟨_,_,_,n,_,h1⟩:=I.hok _ _ q
   exact PySem.W.kia_one PySem.W.kitx_list I.kIn ⟨_,h1,rfl⟩ e (fun z=>nomatch z) h
  | dic q r =>
   cases ru
   obtain⟨_,_,_,vs,_,o,es,ep,h1,h2,_⟩:=I.hok _ _ q
   exact PySem.W.kia_one PySem.W.kitx_dict I.kIn ⟨o,h1,h2.1⟩ e (fun z=>nomatch z) h
 ·cases ru
  obtain⟨_,_,n,_,h1⟩:=hr.ok I.hok
  exact PySem.W.kia_one PySem.W.kitx_list I.kIn ⟨_,h1,rfl⟩ e (fun z=>nomatch z) h
def dIs(n:String)(t:DTE):DTE:=fun σ Q=>t σ fun d=>Q (.bool (isD n d))
theorem de_isT{n:String}{ta:DTE}{x2:Str}{p2:Pos}(hk:∀ d:D,PySem.W.kitOne X.K (.type (tyD d)) (.type n)=some (isD n d))(hg:Gl X "isinstance")(hm:X.mg "isinstance" = none)(hv:bootBuiltins "isinstance" = some (.builtin "isinstance"))(ha:DV X e ta)
  (hg2:Gl X x2) (hm2:X.mg x2=none) (hv2:bootBuiltins x2=some (.type n)) (hn2:x2 ≠ "__name__" := by decide) (hdb2:(x2 == ("__debug__" : Str))=false:=by decide)
  (he:starEach (e :: [.Name x2 p2]) X.env=(false,eval e X.env)::starEach [.Name x2 p2] X.env:=by rfl) (he2:starEach [.Name x2 p2] X.env=(false,eval (.Name x2 p2) X.env)::starEach [] X.env:=by rfl) (hpl:(backTo pos (starEach [.Name x2 p2] X.env)).any (·.1)=false:=by rfl):DE X (.Call (.Name "isinstance" p) [e,.Name x2 p2] [] pos) (dIs n ta):=by
 have hc:CallR X (.builtin "isinstance") (fun vs H Q=>∃ d v,vs = [v,.ty n]/\RepT X.K H d v/\Q (.bl (isD n d)) H):=fun pins s σ H xs us Q I rv ⟨d,v,e,r,q⟩=>by
  subst e
  obtain⟨u,w,rfl,r1,r2⟩:=rv.two
  cases r2
  exact isinst_rep I r r1 (hk d) fun tk=>⟨.bl (isD n d),H,I.tok tk,rfl,q⟩
 refine DE.of (pe_callB hc hg hm hv (pa_cons ha.pe (pa_cons (pe_bltn (v:=.ty n) hg2 hm2 hv2 rfl hn2 hdb2) pa_nil he2) he) (by decide) (by decide) he hpl) fun σ H H₀ σD QD ok q=>?_
 exact⟨H₀,σD,_,ok,q,fun v H1 d s1 r1 q1=>⟨d,v,rfl,r1,_,s1,.bl,q1⟩⟩
theorem k_int{K:PySem.W.Frag}(d:D):PySem.W.kitOne K (.type (tyD d)) (.type "int")=some (isD "int" d):=by cases d <;> rfl
theorem k_bool{K:PySem.W.Frag}(d:D):PySem.W.kitOne K (.type (tyD d)) (.type "bool")=some (isD "bool" d):=by cases d <;> rfl
theorem k_str{K:PySem.W.Frag}(d:D):PySem.W.kitOne K (.type (tyD d)) (.type "str")=some (isD "str" d):=by cases d <;> rfl
theorem k_tuple{K:PySem.W.Frag}(d:D):PySem.W.kitOne K (.type (tyD d)) (.type "tuple")=some (isD "tuple" d):=by cases d <;> rfl
variable {a b:Expr}{ta tb:DTE}
def gIx:DOp
 | .list xs,.int i,Q=>∃ d,atI xs i=some d/\Q d
 | .tuple xs,.int i,Q=>∃ d,atI xs i=some d/\Q d
 | .str x,.int i,Q=>x.length<=sizeLine/\∃ c,atI x.cps.toList i=some c/\Q (.str ⟨#[c]⟩)
 | _,_,_=>False
theorem atI_rep{K:PySem.W.Frag}{H:Hp}{xs:List D}{vs:List V}{i:Int}{d:D}(r:Reps K H xs vs)(h:atI xs i=some d):∃ v,atI vs i=some v/\Rep K H d v:=by
 unfold atI at h ⊢
 rw [<-r.length]
 cases e:ixN xs.length i with
 | none=>rw [e] at h;cases h
 | some j =>
  rw [e] at h
  exact r.get h
theorem de_ix(ha:DV X a ta)(hb:DE X b tb)(hs:PlainIx b):DE X (.Subscript a b pos) (dOp gIx ta tb) :=
 DE.of (pe_ix ix_seq ha.pe hb.pe hs) fun σ H H₀ σD QD ok q=>⟨H₀,σD,_,ok,q,fun v H1 d s1 r1 q1=>⟨H₀,σD,_,ok.after s1,q1,fun w H2 d2 s2 r2 q2=>by
  have r1:=r1.same s2
  have sm:=s1.trans s2
  cases d2 with
  | int i =>
   cases r2
   cases d with
   | list xs =>
    obtain⟨l,vs,rfl,hl,r⟩:=r1.list.sq
    obtain⟨d,e,q⟩:=q2
    obtain⟨x,e1,e2⟩:=atI_rep r e
    exact .inl ⟨l,vs,i,x,rfl,rfl,hl,e1,d,sm,e2,q⟩
   | tuple xs =>
    obtain⟨l,vs,rfl,hl,r⟩:=r1.tuple
    obtain⟨d,e,q⟩:=q2
    obtain⟨x,e1,e2⟩:=atI_rep r e
    exact .inr (.inl ⟨l,vs,i,x,rfl,rfl,hl,e1,d,sm,e2,q⟩)
   | str x =>
    cases r1.str
    obtain⟨hz,c,e,q⟩:=q2
    exact .inr (.inr ⟨x,i,c,rfl,rfl,hz,e,_,sm,.str,q⟩)
   | _=>exact q2.elim
  | _=>cases d <;> exact q2.elim⟩⟩
abbrev DTO:=DSt->(Option Int->Prop)->Prop
structure DO(X:Cx)(e:Option Expr)(t:DTO):Prop where
 po:PO X e (fun σ H Q=>∃ H₀ σD QD,DOk X.K H₀ H σD σ/\t σD QD/\∀ o H',Same H H'->QD o->Q o H')
def dNoPart:DTO:=fun _ Q=>Q none
def dPart(t:DTE):DTO:=fun σ Q=>t σ fun d=>match d with
 | .int i=>Q (some i)
 | _=>False
theorem do_none:DO X none dNoPart:=⟨fun pins s σ H Q I ⟨H₀,σD,QD,ok,q,k⟩=>po_none pins s σ H Q I (k none H (Same.refl _) q)⟩
theorem do_some(h:DE X a ta):DO X (some a) (dPart ta):=⟨fun pins s σ H Q I ⟨H₀,σD,QD,ok,q,k⟩=>po_some h.pe pins s σ H Q I ⟨H₀,σD,_,ok,q,fun v H1 d s1 r1 q1=>by
 cases d with
 | int i=>cases r1;exact⟨i,rfl,k _ _ s1 q1⟩
 | _=>exact q1.elim⟩⟩
def sliceD(xs:List D)(lo hi:Option Int):List D:=(xs.drop (HT.sIx xs.length 0 lo)).take (HT.sIx xs.length xs.length hi-HT.sIx xs.length 0 lo)
theorem Reps.cut{K:PySem.W.Frag}{H:Hp}{xs:List D}{vs:List V}(r:Reps K H xs vs)(lo hi:Option Int):Reps K H (sliceD xs lo hi) (cutV vs lo hi):=by
 unfold sliceD cutV
 rw [<-r.length]
 exact(r.drop _).take _
variable {lo hi:Option Expr}{tl th:DTO}{p2:Pos}
theorem sl_tupS:SlR X (fun x lo hi H Q=>∃ a xs,x=.ref a/\SqT X.K H a xs/\∀ p H',Same H H'->SqT X.K H' p (cutV xs lo hi)->Q (.ref p) H'):=by
 intro pins s σ H x v vl vu lo hi sl Q I rx hs pl pu h
 obtain⟨a,xs,rfl,hx,q⟩:=h
 by_cases hw:HT.sIx xs.length 0 lo=0/\HT.sIx xs.length xs.length hi=xs.length
 ·cases rx
  obtain⟨its,r,ht,hz⟩:=I.tuple hx
  have hlen:its.toArray.size=xs.length:=by rw [List.size_toArray];exact r.length.symm
  refine⟨"tuple",_,PyProof.Rows.slot_tuple_getitem.lookup,ht.typeIs,tup_whole ht hs pl pu (by rw [hlen];exact hw.1) (by rw [hlen];exact hw.2) ⟨.ref a,H,I,rfl,q a H (Same.refl H) ?_⟩⟩
  unfold cutV
  rw [hw.1,hw.2,List.drop_zero,Nat.sub_zero,List.take_length]
  exact hx
 ·exact sl_tup pins s σ H (.ref a) v vl vu lo hi sl Q I rx hs pl pu ⟨a,xs,rfl,hx,hw,fun p hp=>q p _ (same_new hp _) (SqT.of upd_same)⟩
def dSl(te:DTE)(tl th:DTO):DTE:=fun σ Q=>te σ fun d=>tl σ fun l=>th σ fun u=>match d with
 | .list xs=>Q (.list (sliceD xs l u))
 | .tuple xs=>Q (.tuple (sliceD xs l u))
 | _=>False
theorem de_slice(he:DV X e ta)(hl:DO X lo tl)(hu:DO X hi th):DE X (.Subscript e (.Slice lo hi none p2) pos) (dSl ta tl th):=⟨fun pins s σ H H₀ σD Q I ok q=>by
 refine thn (pe_slice (SlR.or sl_list sl_tupS) he.pe hl.po hu.po pins s σ H (fun v H'=>(∃ d,Same H H'/\Rep X.K H' d v/\Q d)\/∃ p vs xs,v=.ref p/\Same H H'/\H p=none/\H' p=some (.lst vs)/\Reps X.K H' xs vs/\Q (.list xs)) I ?_) fun u s' ⟨v,H',I',r,z⟩=>?_
 ·exact⟨H₀,σD,_,ok,q,fun v H1 d s1 r1 q1=>⟨H₀,σD,_,ok.after s1,q1,fun l H2 s2 q2=>⟨H₀,σD,_,(ok.after s1).after s2,q2,fun u H3 s3 q3=>by
   cases d with
   | list xs =>
    obtain⟨b,vs,rfl,hb,r⟩:=((r1.same s2).same s3).list.sq
    exact .inl ⟨b,vs,rfl,hb,fun p hp=>.inr ⟨p,_,_,rfl,((s1.trans s2).trans s3).trans (same_new hp _),((s1.trans s2).trans s3).free hp,upd_same,(r.cut l u).same (same_new hp _),q3⟩⟩
   | tuple xs =>
    obtain⟨b,vs,rfl,hb,r⟩:=((r1.same s2).same s3).tuple
    exact .inr ⟨b,vs,rfl,hb,fun p H4 s4 e4=>.inl ⟨_,((s1.trans s2).trans s3).trans s4,.tup e4 ((r.cut l u).same s4),q3⟩⟩
   | _=>exact q3.elim⟩⟩⟩
 ·rcases z with⟨d,sm,rp,qd⟩ | ⟨p,vs,xs,rfl,sm,n,e,rp,qd⟩
  ·exact⟨v,H',d,I',r,sm,rp,qd⟩
  ·obtain⟨H'',J,sm',r'⟩:=freeze I' sm n e rp
   exact⟨.ref p,H'',.list xs,J,r,sm',r',qd⟩⟩
def dScrSl(i:Nat)(tl th:DTO):DTF:=fun σ Q=>match σ[i]? with
 | some (some (.scr ns))=>tl σ fun l=>th σ fun u=>Q ((sliceD (ns.map PyData.int) l u))
 | _=>False
theorem df_scr(i:Nat){x:Str}{pos':Pos}(hl:DO X lo tl)(hu:DO X hi th)(hN:X.N[i]?=some x:=by rfl)(hv:Vis X.env.scope x:=by first | exact Or.inl rfl | exact Or.inr (Or.inl rfl) | exact Or.inr (Or.inr rfl))(hd:(x == ("__debug__" : Str))=false:=by decide)
  (hcd:(x == ("__classdict__" : Str))=false:=by decide):DF X (.Subscript (.Name x pos') (.Slice lo hi none p2) pos) (dScrSl i tl th) :=
 DF.of (pe_slice sl_list (pe_var (i:=i) hN hv hd hcd) hl.po hu.po) fun σ H H₀ σD QD ok q=>by
  unfold dScrSl at q
  split at q
  ·next ns e =>
   obtain⟨b,e1,hb⟩:=ok.scr e
   exact⟨_,e1,H₀,σD,_,ok,q,fun l H2 s2 q2=>⟨H₀,σD,_,ok.after s2,q2,fun u H3 s3 q3=>⟨b,_,rfl,s3.seq (s2.seq hb),fun p hp=>⟨p,_,_,rfl,(s2.trans s3).trans (same_new hp _),(s2.trans s3).free hp,upd_same,Reps.ints.cut l u,q3⟩⟩⟩⟩
  ·exact q.elim
def dScrLen(i:Nat):DTE:=fun σ Q=>match σ[i]? with
 | some (some (.scr ns))=>Q (.int ns.length)
 | _=>False
theorem de_scrLen(i:Nat){x:Str}{pos':Pos}(hg:Gl X "len")(hm:X.mg "len" = none)(hN:X.N[i]?=some x:=by rfl)(hv:Vis X.env.scope x:=by first | exact Or.inl rfl | exact Or.inr (Or.inl rfl) | exact Or.inr (Or.inr rfl))(hd:(x == ("__debug__" : Str))=false:=by decide)
  (hcd:(x == ("__classdict__" : Str))=false:=by decide):DE X (.Call (.Name "len" p) [.Name x pos'] [] pos) (dScrLen i) :=
 DE.of (pe_callB call_len_seq hg hm PySem.boot_len (pa_cons (pe_var (i:=i) hN hv hd hcd) pa_nil)) fun σ H H₀ σD QD ok q=>by
  unfold dScrLen at q
  split at q
  ·next ns e =>
   obtain⟨b,e1,hb⟩:=ok.scr e
   exact⟨_,e1,b,_,rfl,.inl hb,_,Same.refl _,.int,by rw [List.length_map];exact q⟩
  ·exact q.elim
def dScrIx(i:Nat)(tb:DTE):DTE:=fun σ Q=>match σ[i]? with
 | some (some (.scr ns))=>tb σ fun d=>match d with
  | .int k=>∃ n,atI ns k=some n/\Q (.int n)
  | _=>False
 | _=>False
theorem atI_map{α β:Type}(f:α->β)(xs:List α)(i:Int):atI (xs.map f) i=(atI xs i).map f:=by
 unfold atI
 rw [List.length_map]
 cases ixN xs.length i with
 | none=>rfl
 | some j=>simp
theorem de_scrIx(i:Nat){x:Str}{pos':Pos}(hb:DE X b tb)(hs:PlainIx b)(hN:X.N[i]?=some x:=by rfl)(hv:Vis X.env.scope x:=by first | exact Or.inl rfl | exact Or.inr (Or.inl rfl) | exact Or.inr (Or.inr rfl))(hd:(x == ("__debug__" : Str))=false:=by decide)
  (hcd:(x == ("__classdict__" : Str))=false:=by decide):DE X (.Subscript (.Name x pos') b pos) (dScrIx i tb) :=
 DE.of (pe_ix ix_list (pe_var (i:=i) hN hv hd hcd) hb.pe hs) fun σ H H₀ σD QD ok q=>by
  unfold dScrIx at q
  split at q
  ·next ns e =>
   obtain⟨b,e1,hb⟩:=ok.scr e
   refine⟨_,e1,H₀,σD,_,ok,q,fun w H2 d2 s2 r2 q2=>?_⟩
   cases d2 with
   | int k =>
    cases r2
    obtain⟨n,en,q⟩:=q2
    exact⟨b,_,k,.int n,rfl,rfl,s2.seq hb,by rw [atI_map,en];rfl,_,s2,.int,q⟩
   | _=>exact q2.elim
  ·exact q.elim
end
structure ItOk(K:PySem.W.Frag)(Kp:Hp->Hp->Prop)(J:It)(H1:Hp)(ds:List D):Prop where
 go:∀ H i d,Kp H1 H->ds[i]?=some d->J.go i H/\∀ x H',J.yld i H x H'->Same H H'/\Rep K H' d x
 stop:∀ H,Kp H1 H->J.stop ds.length H
theorem ItOk.weak{K:PySem.W.Frag}{J:It}{H1:Hp}{ds:List D}(h:ItOk K Pers J H1 ds):ItOk K Same J H1 ds:=⟨fun H i d s=>h.go H i d s.pers,fun H s=>h.stop H s.pers⟩
def cnI(K:PySem.W.Frag)(Kp:Hp->Hp->Prop)(t:DTF):TI:=fun σ H R=>∃ H₀ σD QD,DOk K H₀ H σD σ/\t σD QD/\∀ J H1 ds,Same H H1->ItOk K Kp J H1 ds->QD ds->R J H1
structure DI(X:Cx)(tg iter:Expr)(t:DTF):Prop where
 pi:PI X tg iter (cnI X.K Pers t)
structure DIw(X:Cx)(tg iter:Expr)(t:DTF):Prop where
 pi:PI X tg iter (cnI X.K Same t)
section
variable {X:Cx}{tg iter e:Expr}{t:DTF}{te:DTE}{p pos:Pos}
theorem DI.w(h:DI X tg iter t):DIw X tg iter t:=⟨fun pins s σ H R I ⟨H₀,σD,QD,ok,q,k⟩=>h.pi pins s σ H R I ⟨H₀,σD,QD,ok,q,fun J H1 ds s1 o qd=>k J H1 ds s1 o.weak qd⟩⟩
theorem pi_seq{l:Expr}{tl:TE}(hl:PE X l tl):PI X tg l (fun σ H R=>tl σ H fun x H1=>(∃ a xs,x=.ref a/\SqL X.K H1 a xs/\R (Itl X.K a) H1)\/∃ a xs,x=.ref a/\SqT X.K H1 a xs/\R (Itt X.K a) H1):=by
 intro pins s σ H R I h
 refine thn (hl pins s σ H _ I h) fun v s1 ⟨x,H1,I1,r1,q1⟩=>?_
 rcases q1 with⟨a,xs,e,hq,q⟩ | ⟨a,xs,e,hq,q⟩
 ·subst e
  cases r1
  obtain⟨its,rv,p,hz⟩:=I1.list hq
  refine wpAny_pyIter_list p.isList ?_
  refine⟨s1.heap.objs.size,[s1.heap.objs.size],_,_,H1,rfl,I1.kept (t':=s1.toks) fun b o e=>Heap.get?_push_of_some _ e,turn_list a _,⟨_,Heap.get?_push_size _ rfl,rfl,rfl⟩,fun b hb=>?_,q⟩
  have e:b=s1.heap.objs.size:=by simpa using hb
  subst e
  exact I1.fpOk (Nat.le_refl _) (I1.hok.fresh (Nat.le_refl _))
 ·subst e
  cases r1
  obtain⟨its,rv,p,hz⟩:=I1.tuple hq
  refine wpAny_pyIter_tuple (show s1.heap.IsTuple a its.toArray from p) ?_
  refine⟨s1.heap.objs.size,[s1.heap.objs.size],_,_,H1,rfl,I1.kept (t':=s1.toks) fun b o e=>Heap.get?_push_of_some _ e,turn_tuple a _,⟨_,Heap.get?_push_size _ rfl,rfl,rfl⟩,fun b hb=>?_,q⟩
  have e:b=s1.heap.objs.size:=by simpa using hb
  subst e
  exact I1.fpOk (Nat.le_refl _) (I1.hok.fresh (Nat.le_refl _))
def dSeqI(te:DTE):DTF:=fun σ Q=>te σ fun d=>match d with
 | .list xs=>Q xs
 | .tuple xs=>Q xs
 | _=>False
theorem itl_ok{K:PySem.W.Frag}{Kp:Hp->Hp->Prop}{H1:Hp}{a:Addr}{xs:List D}{vs:List V}(kp:∀ H,Kp H1 H->SqL K H a vs/\Reps K H xs vs):ItOk K Kp (Itl K a) H1 xs where
 go:=fun H i d k e=>by
  obtain⟨hs,r⟩:=kp H k
  obtain⟨v,e1,r1⟩:=r.get e
  refine⟨⟨vs,v,hs,e1⟩,fun x H' y=>?_⟩
  obtain⟨rfl,y⟩:=y
  have:=y vs hs
  rw [e1] at this
  cases this
  exact⟨Same.refl _,r1⟩
 stop:=fun H k=>by
  obtain⟨hs,r⟩:=kp H k
  exact⟨vs,hs,by rw [r.length];exact Nat.le_refl _⟩
theorem itt_ok{K:PySem.W.Frag}{Kp:Hp->Hp->Prop}{H1:Hp}{a:Addr}{xs:List D}{vs:List V}(kp:∀ H,Kp H1 H->SqT K H a vs/\Reps K H xs vs):ItOk K Kp (Itt K a) H1 xs where
 go:=fun H i d k e=>by
  obtain⟨hs,r⟩:=kp H k
  obtain⟨v,e1,r1⟩:=r.get e
  refine⟨⟨vs,v,hs,e1⟩,fun x H' y=>?_⟩
  obtain⟨rfl,y⟩:=y
  have:=y vs hs
  rw [e1] at this
  cases this
  exact⟨Same.refl _,r1⟩
 stop:=fun H k=>by
  obtain⟨hs,r⟩:=kp H k
  exact⟨vs,hs,by rw [r.length];exact Nat.le_refl _⟩
theorem Pers.sqF{K:PySem.W.Frag}{H H':Hp}{a:Addr}{o:Obj}{vs:List V}(p:Pers H H')(h:H a=some (.frz o (.lst vs))):SqL K H' a vs:=.inl (.inr ⟨o,p _ _ h rfl⟩)
theorem di_seq(h:DE X e te):DI X tg e (dSeqI te):=⟨fun pins s σ H R I ⟨H₀,σD,QD,ok,q,k⟩=>pi_seq h.pe pins s σ H R I ⟨H₀,σD,_,ok,q,fun v H1 d s1 r1 q1=>by
 cases d with
 | list xs =>
  cases r1 with
  | lst hf r=>exact .inl ⟨_,_,rfl,.inl (.inr ⟨_,hf⟩),k _ _ xs s1 (itl_ok fun H' pr=>⟨pr.sqF hf,r.mono pr⟩) q1⟩
 | tuple xs =>
  cases r1 with
  | tup hf r=>exact .inr ⟨_,_,rfl,hf,k _ _ xs s1 (itt_ok fun H' pr=>⟨pr.sqT hf,r.mono pr⟩) q1⟩
 | _=>exact q1.elim⟩⟩
theorem RepL.sq'{K:PySem.W.Frag}{H H':Hp}{a:Addr}{vs:List V}(s:Same H H')(h:Rd H a (.lst vs)):SqL K H' a vs:=by
 rcases h with h | ⟨o,h⟩
 ·exact .inl (.inl (s _ _ h))
 ·exact .inl (.inr ⟨o,s _ _ h⟩)
theorem diw_seq(h:DV X e te):DIw X tg e (dSeqI te):=⟨fun pins s σ H R I ⟨H₀,σD,QD,ok,q,k⟩=>pi_seq h.pe pins s σ H R I ⟨H₀,σD,_,ok,q,fun v H1 d s1 r1 q1=>by
 cases d with
 | list xs =>
  obtain⟨a,vs,rfl,hf,r⟩:=r1.list
  exact .inl ⟨_,_,rfl,.inl hf,k _ _ xs s1 (itl_ok fun H' pr=>⟨RepL.sq' pr hf,r.same pr⟩) q1⟩
 | tuple xs =>
  obtain⟨a,vs,rfl,hf,r⟩:=r1.tuple
  exact .inr ⟨_,_,rfl,hf,k _ _ xs s1 (itt_ok fun H' pr=>⟨pr.pers.sqT hf,r.same pr⟩) q1⟩
 | _=>exact q1.elim⟩⟩
def rangeD(lo:Int)(n:Nat):List D:=(List.range n).map fun i=>.int (lo+(i:Nat))
theorem itr_ok{K:PySem.W.Frag}{Kp:Hp->Hp->Prop}{H1:Hp}(lo:Int)(n:Nat):ItOk K Kp (Itr lo n) H1 (rangeD lo n) where
 go:=fun H i d k e=>by
  have hi:i<n:=by have:=(List.getElem?_eq_some_iff.mp e).1;simpa [rangeD] using this
  refine⟨hi,fun x H' y=>?_⟩
  obtain⟨rfl,rfl⟩:=y
  refine⟨Same.refl _,?_⟩
  simp [rangeD,List.getElem?_map,List.getElem?_range hi] at e
  subst e
  exact .int
 stop:=fun H k=>by
  show n<=(rangeD lo n).length
  simp [rangeD]
def dRange1(ta:DTF):DTF:=fun σ Q=>ta σ fun ds=>match ds with
 | [.int j]=>(-(2 ^ 62)<=j/\j<2 ^ 62)/\Q (rangeD 0 j.toNat)
 | _=>False
variable {a b:Expr}
theorem di_range1(hg:Gl X "range")(hm:X.mg "range" = none)(ha:DA X [a] t)(hs:starEach [a] X.env = [(false,eval a X.env)]:=by rfl):DI X tg (.Call (.Name "range" p) [a] [] pos) (dRange1 t) :=
 ⟨fun pins s σ H R I ⟨H₀,σD,QD,ok,q,k⟩=>pi_range1 hg hm ha.pa hs pins s σ H R I ⟨H₀,σD,_,ok,q,fun vs H1 ds s1 r1 q1=>by
  match ds,r1,q1 with
  | [.int j],r1,q1 =>
   cases r1 with
   | cons r t =>
    cases t
    cases r
    exact⟨j,rfl,q1.1.1,q1.1.2,k _ _ _ s1 (itr_ok 0 j.toNat) q1.2⟩⟩⟩
def zipD(xs ys:List D):List D:=List.zipWith (fun a b=>.tuple [a,b]) xs ys
theorem pi_zipX{elts:List Expr}{x1}{tpos:Pos}{ta:TA}(hg:Gl X "zip")(hm:X.mg "zip" = none)(ha:PA X [a,b] ta)(hb:bootBuiltins "zip" = some (.type "zip"):=by first | exact boot_zip | rfl | decide +kernel)(hs:starEach [a,b] X.env = [(false,eval a X.env),(false,eval b X.env)]:=by rfl)(hs2:starEach [b] X.env = [(false,eval b X.env)]:=by rfl):
  PI X (.Tuple elts x1 tpos) (.Call (.Name "zip" p) [a,b] [] pos) (fun σ H R=>ta σ H fun vs H1=>∃ b1 b2 a b,vs = [.ref a,.ref b]/\(∃ xs,SqG b1 X.K H1 a xs)/\(∃ ys,SqG b2 X.K H1 b ys)/\R (Izg b1 b2 X.K a b) H1):=by
 intro pins s σ H R I h
 refine Call_ (ld_blt I hg hm hb (PyProof.Rows.callWith_type1 (thn (ha pos pins s σ H _ I h) fun us s1 ⟨vs,H1,I1,r1,q1⟩=>?_) (by rw [hs,hs2]) (by rw [hs2];rfl)))
 obtain⟨b1,b2,l1,l2,e,⟨xs,hq1⟩,⟨ys,hq2⟩,q⟩:=q1
 subst e
 obtain⟨v1,v2,rfl,r1',r2'⟩:=r1.two
 cases r1'
 cases r2'
 obtain⟨its1,rv1,p1,hz1⟩:=I1.sqG hq1
 obtain⟨its2,rv2,p2,hz2⟩:=I1.sqG hq2
 refine call_zipG p1 p2 fun h' hz hTI hTO hi1 hi2 hk=>wpAny_pyIter_zip hz ?_
 have I2:Inv X pins σ H1 { s1 with heap:=h' }:=I1.kept (t':=s1.toks) hk
 refine⟨_,[s1.heap.objs.size+4,s1.heap.objs.size+2,s1.heap.objs.size+3,s1.heap.objs.size,s1.heap.objs.size+1],_,_,H1,rfl,I2,turn_zipG (zipApart_new p1.lt p2.lt),⟨hz,hTI,⟨_,_,hTO⟩,hi1,hi2⟩,fun b hb=>?_,q⟩
 have hb':s1.heap.objs.size<=b:=by
  simp only [List.mem_cons,List.not_mem_nil,or_false] at hb
  rcases hb with rfl | rfl | rfl | rfl | rfl <;> omega
 exact I1.fpOk hb' (I1.hok.fresh hb')
theorem itz_ok{K:PySem.W.Frag}{Kp:Hp->Hp->Prop}{H1:Hp}{b1 b2:Bool}{l m:Addr}{xs ys:List D}{vs ws:List V}(kp:∀ H,Kp H1 H->(SqG b1 K H l vs/\Reps K H xs vs)/\SqG b2 K H m ws/\Reps K H ys ws):ItOk K Kp (Izg b1 b2 K l m) H1 (zipD xs ys) where
 go:=fun H i d k e=>by
  obtain⟨⟨h1,r1⟩,h2,r2⟩:=kp H k
  unfold zipD at e
  rw [List.getElem?_zipWith] at e
  cases ex:xs[i]? with
  | none=>rw [ex] at e;cases e
  | some x =>
   cases ey:ys[i]? with
   | none=>rw [ex,ey] at e;cases e
   | some y =>
    rw [ex,ey] at e
    cases e
    obtain⟨v,e1,q1⟩:=r1.get ex
    obtain⟨w,e2,q2⟩:=r2.get ey
    refine⟨⟨vs,ws,v,w,h1,h2,e1,e2⟩,fun z H' yl=>?_⟩
    obtain⟨p,v',w',hp,rfl,rfl,y1,y2⟩:=yl
    have z1:=y1 vs h1
    have z2:=y2 ws h2
    rw [e1] at z1
    rw [e2] at z2
    cases z1
    cases z2
    exact⟨same_new hp _,.tup (SqT.of upd_same) (.cons (q1.same (same_new hp _)) (.cons (q2.same (same_new hp _)) .nil))⟩
 stop:=fun H k=>by
  obtain⟨⟨h1,r1⟩,h2,r2⟩:=kp H k
  refine⟨vs,ws,h1,h2,?_⟩
  unfold zipD
  rw [List.length_zipWith,<-r1.length,<-r2.length]
  omega
def dZip(t:DTF):DTF:=fun σ Q=>t σ fun ds=>match ds with
 | [.list xs,.list ys]=>Q (zipD xs ys)
 | [.list xs,.tuple ys]=>Q (zipD xs ys)
 | [.tuple xs,.list ys]=>Q (zipD xs ys)
 | [.tuple xs,.tuple ys]=>Q (zipD xs ys)
 | _=>False
theorem Rep.seqP{K:PySem.W.Frag}{H:Hp}{d:D}{v:V}{xs:List D}(h:Rep K H d v)(e:d=.list xs\/d=.tuple xs):∃ b a vs,v=.ref a/\∀ H',Pers H H'->SqG b K H' a vs/\Reps K H' xs vs:=by
 cases h with
 | lst hf r =>
  rcases e with e | e
  ·cases e;exact⟨false,_,_,rfl,fun H' p=>⟨p.sqF hf,r.mono p⟩⟩
  ·cases e
 | tup hf r =>
  rcases e with e | e
  ·cases e
  ·cases e;exact⟨true,_,_,rfl,fun H' p=>⟨p.sqT hf,r.mono p⟩⟩
 | _=>rcases e with e | e <;> cases e
theorem RepT.seqS{K:PySem.W.Frag}{H:Hp}{d:D}{v:V}{xs:List D}(h:RepT K H d v)(e:d=.list xs\/d=.tuple xs):∃ b a vs,v=.ref a/\∀ H',Same H H'->SqG b K H' a vs/\Reps K H' xs vs:=by
 rcases h with h | ⟨ys,rfl,a,vs,rfl,hf,r⟩
 ·obtain⟨b,a,vs,e,k⟩:=h.seqP e
  exact⟨b,a,vs,e,fun H' s=>k H' s.pers⟩
 ·rcases e with e | e
  ·cases e;exact⟨false,a,vs,rfl,fun H' s=>⟨RepL.sq' s hf,r.same s⟩⟩
  ·cases e
theorem zip_cases {ds:List D} {Q:List D->Prop} (h:match ds with
 | [.list xs,.list ys]=>Q (zipD xs ys)
 | [.list xs,.tuple ys]=>Q (zipD xs ys)
 | [.tuple xs,.list ys]=>Q (zipD xs ys)
 | [.tuple xs,.tuple ys]=>Q (zipD xs ys)
 | _=>False):∃ d1 d2 xs ys,ds = [d1,d2]/\(d1=.list xs\/d1=.tuple xs)/\(d2=.list ys\/d2=.tuple ys)/\Q (zipD xs ys):=by
 split at h
 ·exact⟨_,_,_,_,rfl,.inl rfl,.inl rfl,h⟩
 ·exact⟨_,_,_,_,rfl,.inl rfl,.inr rfl,h⟩
 ·exact⟨_,_,_,_,rfl,.inr rfl,.inl rfl,h⟩
 ·exact⟨_,_,_,_,rfl,.inr rfl,.inr rfl,h⟩
 ·exact h.elim
theorem diw_zip{elts:List Expr}{x1}{tpos:Pos}(hg:Gl X "zip")(hm:X.mg "zip" = none)(ha:DAv X [a,b] t)(hs:starEach [a,b] X.env = [(false,eval a X.env),(false,eval b X.env)]:=by rfl)(hs2:starEach [b] X.env = [(false,eval b X.env)]:=by rfl):
  DIw X (.Tuple elts x1 tpos) (.Call (.Name "zip" p) [a,b] [] pos) (dZip t) :=
 ⟨fun pins s σ H R I ⟨H₀,σD,QD,ok,q,k⟩=>pi_zipX hg hm ha.pa (by first | exact boot_zip | rfl | decide +kernel) hs hs2 pins s σ H R I ⟨H₀,σD,_,ok,q,fun vs H1 ds s1 r1 q1=>by
  obtain⟨d1,d2,xs,ys,rfl,e1,e2,q2⟩:=zip_cases q1
  obtain⟨v,w,rfl,r,r2⟩:=r1.two
  obtain⟨b1,l,vs,rfl,k1⟩:=r.seqS e1
  obtain⟨b2,m,ws,rfl,k2⟩:=r2.seqS e2
  exact⟨b1,b2,l,m,rfl,⟨vs,(k1 _ (Same.refl _)).1⟩,⟨ws,(k2 _ (Same.refl _)).1⟩,k _ _ _ s1 (itz_ok fun H' pr=>⟨k1 H' pr,k2 H' pr⟩) q2⟩⟩⟩
def enumD:Nat->List D->List D
 | _,[]=>[]
 | k,x::xs=>.tuple [.int k,x]::enumD (k+1) xs
theorem enumD_get:∀{xs:List D} {k i:Nat} {x:D},(enumD k xs)[i]?=some x->∃ y,xs[i]?=some y/\x=.tuple [.int ((k+i:Nat):Int),y]
 | [],_,_,_,e=>by simp [enumD] at e
 | y::ys,k,0,x,e=>by simp [enumD] at e;subst e;exact⟨y,rfl,rfl⟩
 | y::ys,k,i+1,x,e=>by
  simp only [enumD,List.getElem?_cons_succ] at e
  obtain⟨z,e1,e2⟩:=enumD_get e
  refine⟨z,by simpa using e1,?_⟩
  rw [e2,show k+1+i=k+(i+1) by omega]
theorem enumD_len:∀(k:Nat) (xs:List D),(enumD k xs).length=xs.length
 | _,[]=>rfl
 | k,_::xs=>by simp [enumD,enumD_len (k+1) xs]
abbrev DTG:=D->DSt->(DSt->Prop)->Prop
abbrev DTGs:=List D->DSt->(DSt->Prop)->Prop
structure DG(X:Cx)(tg:Expr)(is:List Nat)(g:DTG):Prop where
 run:∀(pins:List (Addr×Obj)) (s:Shared) (σ:St) (H H₀:Hp) (σD:DSt) (v:V) (u:Value) (d:D) (Q:DSt->Prop),Inv X pins σ H s->DOk X.K H₀ H σD σ->RelV v u->Rep X.K H d v->g d σD Q ->
  wpAny (model X.prog X.w) X.A (assign tg X.env u) (fun _ s'=>∃ σ' σD',Inv X pins σ' H s'/\DOk X.K H₀ H σD' σ'/\(∀ j,j∉is->σ'[j]?=σ[j]?)/\Q σD') X.xe s
structure DGs(X:Cx)(ts:List Expr)(is:List Nat)(g:DTGs):Prop where
 run:∀(pins:List (Addr×Obj)) (s:Shared) (σ:St) (H H₀:Hp) (σD:DSt) (vs:List V) (us:List Value) (ds:List D) (Q:DSt->Prop),Inv X pins σ H s->DOk X.K H₀ H σD σ->Vals vs us->Reps X.K H ds vs->g ds σD Q ->
  wpAny (model X.prog X.w) X.A (assignInOrder ((assignEach ts X.env).map (·.2)) us) (fun _ s'=>∃ σ' σD',Inv X pins σ' H s'/\DOk X.K H₀ H σD' σ'/\(∀ j,j∉is->σ'[j]?=σ[j]?)/\Q σD') X.xe s
def dgName(i:Nat):DTG:=fun d σ Q=>Q (σ.set i (some (.val d)))
theorem dg_name{i:Nat}{x:Str}(hN:X.N.Nodup)(hi:X.N[i]?=some x)(hx:Loc X.env.scope x)(hf:X.fn x=true\/X.env.scope.names.lookup x=some .local:=by first | exact .inl rfl | exact .inr rfl | assumption):DG X (.Name x pos) [i] (dgName i) :=
 ⟨fun pins s σ H H₀ σD v u d Q I ok r rp q=>wpAny_assign_Name (store_ok I hN hi hx r (fun s' I'=>⟨_,_,I',ok.setV rp i,fun j hj=>List.getElem?_set_ne (fun z=>hj (by simp [z])),q⟩) hf)⟩
def dgNil:DTGs:=fun ds σ Q=>ds = []/\Q σ
def dgCons(g:DTG)(gs:DTGs):DTGs:=fun ds σ Q=>match ds with
 | d::r=>g d σ fun σ'=>gs r σ' Q
 | []=>False
theorem dgs_nil:DGs X [] [] dgNil:=⟨fun pins s σ H H₀ σD vs us ds Q I ok r rp q=>by
 obtain⟨rfl,q⟩:=q
 cases rp
 cases r
 exact assignInOrder_nil ⟨σ,σD,I,ok,fun _ _=>rfl,q⟩⟩
theorem dgs_cons{e:Expr}{es:List Expr}{i1 i2:List Nat}{g:DTG}{gs:DTGs}(h1:DG X e i1 g)(h2:DGs X es i2 gs)
  (hs:(assignEach (e::es) X.env).map (·.2)=assign e X.env::(assignEach es X.env).map (·.2):=by rfl):DGs X (e::es) (i1++i2) (dgCons g gs):=⟨fun pins s σ H H₀ σD vs us ds Q I ok r rp q=>by
 cases rp with
 | nil=>exact q.elim
 | cons rd rds =>
  cases r with
  | cons r rr =>
   rw [hs]
   refine assignInOrder_cons (thn (h1.run pins s σ H H₀ σD _ _ _ _ I ok r rd q) fun _ s1 ⟨σ1,σD1,I1,ok1,f1,q1⟩=>?_)
   refine thn (h2.run pins s1 σ1 H H₀ σD1 _ _ _ Q I1 ok1 rr rds q1) fun _ s2 ⟨σ2,σD2,I2,ok2,f2,q2⟩=>⟨σ2,σD2,I2,ok2,fun j hj=>?_,q2⟩
   rw [f2 j (fun z=>hj (List.mem_append_right _ z)),f1 j (fun z=>hj (List.mem_append_left _ z))]⟩
def dgTup(n:Nat)(gs:DTGs):DTG:=fun d σ Q=>match d with
 | .tuple xs=>xs.length=n/\gs xs σ Q
 | _=>False
theorem dg_tup{es:List Expr}{k:Nat}{is:List Nat}{gs:DTGs}{n:Nat}(hc:X.calm=true)(h:DGs X es is gs)(hn:(assignEach es X.env).length=n:=by rfl)(hst:(assignEach es X.env).findIdx? (·.1)=none:=by rfl):DG X (.Tuple es k pos) is (dgTup n gs):=⟨fun pins s σ H H₀ σD v u d Q I ok r rp q=>by
 cases d with
 | tuple xs =>
  obtain⟨hl,q⟩:=q
  cases rp with
  | tup hq rr =>
   cases r
   obtain⟨its,rv,ht,hz⟩:=I.tuple hq
   refine assign_Tuple_tuple (I.ok.hd hc) ht (by simp [hn,<-hl,<-rv.length,rr.length]) hst fun h' hx=>?_
   have I1:Inv X pins σ H { s with heap:=h' }:=I.kept (t':=s.toks) fun b o e=>hx b o (Nat.ne_of_lt (Heap.lt_size e)) e
   exact h.run pins _ σ H H₀ σD _ _ xs Q I1 ok (by simpa using rv) rr q
 | _=>exact q.elim⟩
def lcD(f:D->(Option D->Prop)->Prop):List D->(List D->Prop)->Prop
 | [],Q=>Q []
 | d::ds,Q=>f d fun o=>lcD f ds fun ys=>Q (match o with | some y=>y::ys | none=>ys)
def seenW:Option W->Option W
 | some (.own (.lst xs))=>some (.vw xs)
 | some (.own (.dct xs))=>some (.vd xs)
 | some (.own (.nst _ _))=>none
 | some (.own (.anc _ _))=>none
 | some (.own (.ins _ _))=>none
 | some (.own (.mix _))=>none
 | some (.tmp _)=>none
 | w=>w
def startD(k:Nat)(js:List Nat)(σ:DSt):DSt:=List.replicate k none++js.map fun j=>seenW (σ[j]?).join
def lcF(g:DTG)(tt:DTT)(te:DTE)(σ0:DSt):D->(Option D->Prop)->Prop:=fun d k=>g d σ0 fun σ2=>tt σ2 fun b=>if b=true then te σ2 fun y=>k (some y) else k none
def dLC(k:Nat)(js:List Nat)(ti:DTF)(g:DTG)(tt:DTT)(te:DTE):DTF:=fun σ Q=>ti σ fun ds=>ds.length<=sizeLine/\lcD (lcF g tt te (startD k js σ)) ds Q
structure DTs(X:Cx)(ifs:List Expr)(t:DTT):Prop where
 pts:PTs X ifs (cnT X.K t)
def dTrue:DTT:=fun _ Q=>Q true
theorem dts_nil:DTs X [] dTrue:=⟨fun pins s σ H Q I ⟨H₀,σD,QD,ok,q,k⟩=>pts_nil pins s σ H Q I (k true H (Same.refl _) q)⟩
theorem Slots.keepN{K:PySem.W.Frag}{H₀ H:Hp}{σD:DSt}{σ:St}{fp:List Addr}(h:Slots K H₀ H σD σ fp):∀{σ':St},σ'.length=σ.length->(∀ j:Nat,σD[j]?=some Option.none\/σ'[j]?=σ[j]?)->Slots K H₀ H σD σ' fp:=by
 induction h with
 | nil=>intro σ' hl _;cases σ' with
  | nil=>exact .nil
  | cons _ _=>simp at hl
 | none t ih =>
  intro σ' hl k
  cases σ' with
  | nil=>simp at hl
  | cons x σ'=>exact .none (ih (by simpa using hl) fun j=>by simpa using k (j+1))
 | val r t ih =>
  intro σ' hl k
  cases σ' with
  | nil=>simp at hl
  | cons x σ' =>
   have:=k 0
   simp at this
   subst this
   exact .val r (ih (by simpa using hl) fun j=>by simpa using k (j+1))
 | vw r t ih =>
  intro σ' hl k
  cases σ' with
  | nil=>simp at hl
  | cons x σ' =>
   have:=k 0
   simp at this
   subst this
   exact .vw r (ih (by simpa using hl) fun j=>by simpa using k (j+1))
 | vd r t ih =>
  intro σ' hl k
  cases σ' with
  | nil=>simp at hl
  | cons x σ' =>
   have:=k 0
   simp at this
   subst this
   exact .vd r (ih (by simpa using hl) fun j=>by simpa using k (j+1))
 | exc r t ih =>
  intro σ' hl k
  cases σ' with
  | nil=>simp at hl
  | cons x σ' =>
   have:=k 0
   simp at this
   subst this
   exact .exc r (ih (by simpa using hl) fun j=>by simpa using k (j+1))
 | scr r t ih =>
  intro σ' hl k
  cases σ' with
  | nil=>simp at hl
  | cons x σ' =>
   have:=k 0
   simp at this
   subst this
   exact .scr r (ih (by simpa using hl) fun j=>by simpa using k (j+1))
 | pen r t ih =>
  intro σ' hl k
  cases σ' with
  | nil=>simp at hl
  | cons x σ' =>
   have:=k 0
   simp at this
   subst this
   exact .pen r (ih (by simpa using hl) fun j=>by simpa using k (j+1))
 | tmp r t ih =>
  intro σ' hl k
  cases σ' with
  | nil=>simp at hl
  | cons x σ' =>
   have:=k 0
   simp at this
   subst this
   exact .tmp r (ih (by simpa using hl) fun j=>by simpa using k (j+1))
 | own r t ih =>
  intro σ' hl k
  cases σ' with
  | nil=>simp at hl
  | cons x σ' =>
   have:=k 0
   simp at this
   subst this
   exact .own r (ih (by simpa using hl) fun j=>by simpa using k (j+1))
theorem DOk.keepN{K:PySem.W.Frag}{H₀ H:Hp}{σD:DSt}{σ σ':St}(h:DOk K H₀ H σD σ)(hl:σ'.length=σ.length)(k:∀ j:Nat,σD[j]?=some Option.none\/σ'[j]?=σ[j]?):DOk K H₀ H σD σ':=let ⟨s,fp,sl,r⟩:=h;⟨s,fp,sl.keepN hl k,r⟩
theorem DOk.block{K:PySem.W.Frag}{H₀ H:Hp}{σD:DSt}{σ:St}(h:DOk K H₀ H σD σ)(k:Nat)(js:List Nat):DOk K H H (startD k js σD) (startLC k js σ):=by
 refine⟨Same.refl _,[],?_,List.nodup_nil,fun a ha=>by cases ha⟩
 have two:∀ js:List Nat,Slots K H H (js.map fun j=>seenW (σD[j]?).join) (js.map fun j=>(σ[j]?).join) []:=by
  intro js
  induction js with
  | nil=>exact .nil
  | cons j js ih =>
   simp only [List.map_cons]
   have nn:∀ v,Slots K H H (none::js.map fun j=>seenW (σD[j]?).join) (v::js.map fun j=>(σ[j]?).join) []:=fun v=>.none ih
   cases e:σD[j]? with
   | none=>exact nn _
   | some o =>
    cases o with
    | none=>exact nn _
    | some w =>
     cases w with
     | val d =>
      obtain⟨v,e1,r⟩:=h.val e
      rw [e1]
      exact .val r ih
     | vw xs =>
      obtain⟨v,e1,r⟩:=h.vw e
      rw [e1]
      exact .vw r ih
     | vd xs =>
      obtain⟨v,e1,r⟩:=h.vd e
      rw [e1]
      exact .vd r ih
     | exc xs =>
      obtain⟨v,e1,r⟩:=h.exc e
      rw [e1]
      exact .exc r ih
     | scr ns =>
      obtain⟨a,e1,r⟩:=h.scr e
      rw [e1]
      exact .scr r ih
     | pen =>
      obtain⟨a,e1,r⟩:=h.pen e
      rw [e1]
      exact .pen r ih
     | tmp d=>exact nn _
     | own o =>
      cases o with
      | lst xs =>
       obtain⟨a,vs,e1,e2,r,_⟩:=h.ownL e
       rw [e1]
       exact .vw ⟨a,vs,rfl,.inl e2,r⟩ ih
      | dct xs =>
       obtain⟨a,vs,e1,e2,r,_⟩:=h.ownD e
       rw [e1]
       exact .vd ⟨a,vs,rfl,e2,r⟩ ih
      | nst xss ds=>exact nn _
      | anc _ _=>exact nn _
      | ins _ _=>exact nn _
      | mix _=>exact nn _
 unfold startD startLC
 induction k with
 | zero=>exact two js
 | succ k ih=>exact .none ih
theorem lc_turns{g:DTG}{tt:DTT}{te:DTE}{k:Nat}{js is:List Nat}{σ:St}{σD:DSt}{H₀ H1:Hp}{J:It}{ds:List D}{QD:List D->Prop}{Dd:Addr}{gL:TG}(ok:DOk X.K H₀ H1 σD σ)(it:ItOk X.K Same J H1 ds)(hz:ds.length<=sizeLine)
  (hg:∀ d v σ' H' Q (σ0:DSt),DOk X.K H1 H' σ0 σ'->Rep X.K H' d v->g d σ0 Q->gL v σ' H' (fun σ2 H2=>H2=H'/\σ2.length=σ'.length/\(∀ j,j∉is->σ2[j]?=σ'[j]?)/\∃ σD2,DOk X.K H1 H' σD2 σ2/\Q σD2))
  (mono:∀ v σ' H' (Q Q':St->Hp->Prop),(∀ σ2 H2,Q σ2 H2->Q' σ2 H2)->gL v σ' H' Q->gL v σ' H' Q')
  (his:∀ j∈is,j<k) (hn:H1 Dd=none) (q:lcD (lcF g tt te (startD k js σD)) ds QD) :
  lcTurns J Dd gL (cnT X.K tt) (cnE X.K te) (startLC k js σ) H1 (fun v H'=>∃ a vs xs,v=.ref a/\Same H1 H'/\H1 a=none/\H' a=some (.lst vs)/\Reps X.K H' xs vs/\QD xs):=by
 have sub:∀{Q1:List D->Prop} {i:Nat} {d:D},ds[i]?=some d->lcD (lcF g tt te (startD k js σD)) (ds.drop i) Q1=lcF g tt te (startD k js σD) d (fun o=>lcD (lcF g tt te (startD k js σD)) (ds.drop (i+1)) fun ys=>Q1 (match o with | some y=>y::ys | none=>ys)):=fun{Q1 i d} e=>by
  obtain⟨hi,e'⟩:=List.getElem?_eq_some_iff.mp e
  rw [List.drop_eq_getElem_cons hi,e']
  rfl
 refine⟨fun i m σ' H'=>m=ds.length-i/\i<=ds.length/\Same H1 H'/\σ'.length=(startLC k js σ).length/\(∀ j,k<=j->σ'[j]?=(startLC k js σ)[j]?)/\∃ acc vs,H' Dd=some (.lst vs)/\Reps X.K H' acc vs/\acc.length<=i/\lcD (lcF g tt te (startD k js σD)) (ds.drop i) (fun ys=>QD (acc++ys)),
  ⟨ds.length,rfl,Nat.zero_le _,same_new hn _,rfl,fun _ _=>rfl,[],[],upd_same,.nil,Nat.le_refl _,q⟩,?_⟩
 rintro i m σ' H' ⟨rfl,hi,sm,hl,fr,acc,vs,eD,ra,la,q1⟩
 have ok1:DOk X.K H1 H' (startD k js σD) σ':=by
  refine DOk.keepN ((ok.block k js).after sm) hl fun j=>?_
  by_cases hj:j<k
  ·left
   unfold startD
   rw [List.getElem?_append_left (by simpa using hj),List.getElem?_replicate,if_pos hj]
  ·right
   exact fr j (by omega)
 by_cases hlt:i<ds.length
 ·have e:ds[i]?=some ds[i]:=by simp [hlt]
  obtain⟨go,yl⟩:=it.go H' i ds[i] sm e
  refine .inr ⟨go,fun x H2 y=>?_⟩
  obtain⟨s2,r2⟩:=yl x H2 y
  rw [sub e] at q1
  refine mono _ _ _ _ _ (fun σ2 H3 z=>?_) (hg ds[i] x σ' H2 _ _ (ok1.after s2) r2 q1)
  obtain⟨rfl,l2,f2,σD2,ok2,q2⟩:=z
  have fr2:∀ j,k<=j->σ2[j]?=(startLC k js σ)[j]?:=fun j hj=>by rw [f2 j (fun z=>absurd (his j z) (by omega)),fr j hj]
  refine⟨H1,σD2,_,ok2,q2,fun b H4 s4 q4=>?_⟩
  cases b with
  | true =>
   rw [if_pos rfl] at q4 ⊢
   refine⟨H1,σD2,_,ok2.after s4,q4,fun y H5 dy s5 r5 q5=>?_⟩
   have eD5:=s5 _ _ (s4 _ _ (s2 _ _ eD))
   have ra5:=((ra.same s2).same s4).same s5
   refine⟨vs,eD5,by rw [<-ra5.length];omega,ds.length-(i+1),by omega,rfl,hlt,?_,l2.trans hl,fr2,acc ++ [dy],vs ++ [y],upd_same,?_,by rw [List.length_append,List.length_singleton];omega,?_⟩
   ·exact Same.but (((sm.trans s2).trans s4).trans s5) hn But.write
   ·exact(ra5.append (.cons r5 .nil)).mono (upd_pers eD5 rfl)
   ·simpa using q5
  | false =>
   rw [if_neg Bool.false_ne_true] at q4 ⊢
   exact⟨ds.length-(i+1),by omega,rfl,hlt,(sm.trans s2).trans s4,l2.trans hl,fr2,acc,vs,s4 _ _ (s2 _ _ eD),(ra.same s2).same s4,by omega,by simpa using q4⟩
 ·have e:i=ds.length:=by omega
  subst e
  rw [List.drop_length] at q1
  refine .inl ⟨it.stop H' sm,Dd,vs,acc,rfl,sm,hn,eD,ra,?_⟩
  have:lcD (lcF g tt te (startD k js σD)) [] (fun ys=>QD (acc++ys)):=q1
  simpa [lcD] using this
def cnG(K:PySem.W.Frag)(is:List Nat)(g:DTG):TG:=fun v σ H Q=>∃ H₀ σD d QD,DOk K H₀ H σD σ/\Rep K H d v/\g d σD QD/\∀ σ' σD',σ'.length=σ.length->DOk K H₀ H σD' σ'->(∀ j,j∉is->σ'[j]?=σ[j]?)->QD σD'->Q σ' H
theorem DG.pg{is:List Nat}{g:DTG}(h:DG X tg is g):PG X tg (cnG X.K is g):=fun pins s σ H v u Q I r ⟨H₀,σD,d,QD,ok,rp,q,k⟩=>thn (h.run pins s σ H H₀ σD v u d QD I ok r rp q) fun _ s' ⟨σ',σD',I',ok',f,qd⟩=>⟨σ',H,I',k σ' σD' (by rw [I'.len,I.len]) ok' f qd⟩
variable {elt:Expr}{ifs:List Expr}{scope:Scope}{cl:List (Str×Addr)}{N' capt:List Str}{k:Nat}{js is:List Nat}{ti:DTF}{g:DTG}{tt:DTT}{te:DTE}
theorem df_lc(hc:X.calm=true)(L:LCok X scope cl N' capt k js)
  (hi:DIw X tg iter ti) (hg:∀ C fp s2 H2,DG (cxLC X N' scope cl C fp s2 H2) tg is g) (ht:∀ C fp s2 H2,DTs (cxLC X N' scope cl C fp s2 H2) ifs tt) (he:∀ C fp s2 H2,DE (cxLC X N' scope cl C fp s2 H2) elt te)
  (his:∀ j∈is,j<k:=by decide) (hs:∀ x,foldedSetIterable iter X.env x=pure x:=by intro _;rfl):DF X (.ListComp elt [⟨tg,iter,ifs,0⟩] scope pos) (dLC k js ti g tt te) :=
 DF.of (pe_lc hc L hi.pi (fun C fp s2 H2=>(hg C fp s2 H2).pg) (fun C fp s2 H2=>(ht C fp s2 H2).pts) (fun C fp s2 H2=>(he C fp s2 H2).pe) hs) fun σ H H₀ σD QD ok q=>⟨H₀,σD,_,ok,q,fun J H1 ds s1 it q1 Dd hn=>by
  have z:=lc_turns (k:=k) (js:=js) (is:=is) (gL:=cnG X.K is g) (Dd:=Dd) (ok.after s1) it q1.1 (fun d v σ' H' Q σ0 ok0 r0 q0=>⟨H1,σ0,d,Q,ok0,r0,q0,fun σ2 σD2 l2 ok2 f2 q2=>⟨rfl,l2,f2,σD2,ok2,q2⟩⟩)
   (fun v σ' H' Q Q' m ⟨a,b,c,d,e1,e2,e3,e4⟩=>⟨a,b,c,d,e1,e2,e3,fun σ2 σD2 l o f q=>m _ _ (e4 σ2 σD2 l o f q)⟩) his hn q1.2
  obtain⟨W,w0,turn⟩:=z
  refine⟨W,w0,fun i m σ' H' w=>?_⟩
  rcases turn i m σ' H' w with⟨st,a,vs,xs,e,sm,n,e2,r,qd⟩ | h
  ·exact .inl ⟨st,a,vs,xs,e,s1.trans sm,s1.free n,e2,r,qd⟩
  ·exact .inr h⟩
end
inductive Ret where
 | val (d:D) | new (xs:List D)
def Ret.d:Ret->D
 | .val d=>d
 | .new xs=>.list xs
abbrev DSp:=List W->(Ret->Prop)->Prop
def RepR(K:PySem.W.Frag)(H H':Hp):Ret->V->Prop
 | .val d,v=>Rep K H' d v
 | .new xs,v=>∃ a vs,v=.ref a/\H a=none/\H' a=some (.lst vs)/\Reps K H' xs vs
def cnSp(K:PySem.W.Frag)(sp:DSp):Sp:=fun vs H Q _=>∃ ws QD,RepWs K H ws vs/\sp ws QD/\∀ v H' r,Same H H'->RepR K H H' r v->QD r->Q v H'
def dCall(sp:DSp)(t:DTP):DTE:=fun σ Q=>t σ fun ws=>sp ws fun r=>Q r.d
def dCallF(sp:DSp)(t:DTP):DTF:=fun σ Q=>t σ fun ws=>sp ws fun r=>match r with
 | .new xs=>Q xs
 | .val _=>False
section
variable {X:Cx}{e:Expr}{es:List Expr}{k k':Nat}{x:Str}{ps:List Str}{sp:DSp}{t:DTP}{p pos:Pos}
theorem call_out{pins:List (Addr×Obj)}{σ:St}{H H₀:Hp}{σD:DSt}{s:Shared}{Q:Ret->Prop}(C:Callee X.prog X.w X.K X.mg X.base k x ps (cnSp X.K sp))(hr:Room k' X.A)(hg:Gl X x)(ha:DPs X (e::es) t)(hk:k<=k')
  (hdb:(x == ("__debug__" : Str))=false) (he:starEach (e::es) X.env=(false,eval e X.env)::starEach es X.env) (hpl:(backTo pos (starEach es X.env)).any (·.1)=false) (I:Inv X pins σ H s) (ok:DOk X.K H₀ H σD σ) (q:t σD fun ws=>sp ws Q) :
  wpAny (model X.prog X.w) X.A (eval (.Call (.Name x p) (e::es) [] pos) X.env) (fun u s'=>∃ v H' r,Inv X pins σ H' s'/\RelV v u/\Same H H'/\RepR X.K H H' r v/\Q r) X.xe s:=by
 refine thn (pe_callC C hr hg ha.pa hk hdb he hpl pins s σ H (fun v H'=>∃ r,Same H H'/\RepR X.K H H' r v/\Q r) I ?_) fun u s' ⟨v,H',I',r,z,sm,rp,qd⟩=>⟨v,H',z,I',r,sm,rp,qd⟩
 refine⟨H₀,σD,_,ok,q,fun vs H1 ws s1 r1 q1=>⟨ws,Q,by rw [List.append_nil];exact r1,q1,fun v H' r s2 rp qd=>⟨r,s1.trans s2,?_,qd⟩⟩⟩
 cases r with
 | val d=>exact rp
 | new xs=>obtain⟨a,vs,e1,n,e2,r⟩:=rp;exact⟨a,vs,e1,s1.free n,e2,r⟩
theorem de_call(C:Callee X.prog X.w X.K X.mg X.base k x ps (cnSp X.K sp))(hr:Room k' X.A)(hg:Gl X x)(ha:DPs X (e::es) t)(hk:k<=k':=by decide)(hdb:(x == ("__debug__" : Str))=false:=by decide)
  (he:starEach (e::es) X.env=(false,eval e X.env)::starEach es X.env:=by rfl) (hpl:(backTo pos (starEach es X.env)).any (·.1)=false:=by rfl):DE X (.Call (.Name x p) (e::es) [] pos) (dCall sp t) :=
 ⟨fun pins s σ H H₀ σD Q I ok q=>thn (call_out C hr hg ha hk hdb he hpl I ok q) fun u s' ⟨v,H',r,I',rv,sm,rp,qd⟩=>by
  cases r with
  | val d=>exact⟨v,H',d,I',rv,sm,rp,qd⟩
  | new xs =>
   obtain⟨a,vs,rfl,n,e,r⟩:=rp
   obtain⟨H'',J,sm',r'⟩:=freeze I' sm n e r
   exact⟨.ref a,H'',.list xs,J,rv,sm',r',qd⟩⟩
theorem df_call(C:Callee X.prog X.w X.K X.mg X.base k x ps (cnSp X.K sp))(hr:Room k' X.A)(hg:Gl X x)(ha:DPs X (e::es) t)(hk:k<=k':=by decide)(hdb:(x == ("__debug__" : Str))=false:=by decide)
  (he:starEach (e::es) X.env=(false,eval e X.env)::starEach es X.env:=by rfl) (hpl:(backTo pos (starEach es X.env)).any (·.1)=false:=by rfl):DF X (.Call (.Name x p) (e::es) [] pos) (dCallF sp t) :=
 ⟨fun pins s σ H H₀ σD Q I ok q=>thn (call_out C hr hg ha hk hdb he hpl I ok q) fun u s' ⟨v,H',r,I',rv,sm,rp,qd⟩=>by
  cases r with
  | val d=>exact qd.elim
  | new xs =>
   obtain⟨a,vs,rfl,n,e,r⟩:=rp
   exact⟨a,H',vs,xs,rv,I',sm,n,e,r,qd⟩⟩
end
structure DEnds where
 nx:DSt->Prop
 rt:Ret->Prop
 bk:DSt->Prop:=fun _=>False
 ct:DSt->Prop:=fun _=>False
abbrev DTS:=DEnds->DSt->Prop
def DSP(X:Cx)(pins:List (Addr×Obj))(H₀ H:Hp)(Dn:DEnds)(f:Flow)(s':Shared):Prop :=
 match f with
 | .next=>∃ σ' H' σD',Inv X pins σ' H' s'/\DOk X.K H₀ H' σD' σ'/\Pers H H'/\Dn.nx σD'
 | .brk=>∃ σ' H' σD',Inv X pins σ' H' s'/\DOk X.K H₀ H' σD' σ'/\Pers H H'/\Dn.bk σD'
 | .cont=>∃ σ' H' σD',Inv X pins σ' H' s'/\DOk X.K H₀ H' σD' σ'/\Pers H H'/\Dn.ct σD'
 | .ret u=>∃ v σ' H' r,Inv X pins σ' H' s'/\RelV v u/\Same H₀ H'/\RepR X.K H₀ H' r v/\Dn.rt r
structure DS(X:Cx)(st:Stmt)(t:DTS):Prop where
 run:∀(pins:List (Addr×Obj)) (s:Shared) (σ:St) (H H₀:Hp) (σD:DSt) (Dn:DEnds),Inv X pins σ H s->DOk X.K H₀ H σD σ->t Dn σD->wpAny (model X.prog X.w) X.A (exec st X.env) (DSP X pins H₀ H Dn) X.xe s
structure DSs(X:Cx)(st:List Stmt)(t:DTS):Prop where
 run:∀(pins:List (Addr×Obj)) (s:Shared) (σ:St) (H H₀:Hp) (σD:DSt) (Dn:DEnds),Inv X pins σ H s->DOk X.K H₀ H σD σ->t Dn σD->wpAny (model X.prog X.w) X.A (execs st X.env) (DSP X pins H₀ H Dn) X.xe s
theorem DSP.back{X:Cx}{pins:List (Addr×Obj)}{H₀ H H1:Hp}{Dn:DEnds}{f:Flow}{s':Shared}(p:Pers H H1)(h:DSP X pins H₀ H1 Dn f s'):DSP X pins H₀ H Dn f s':=by
 cases f with
 | next=>obtain⟨a,b,c,e1,e2,e3,e4⟩:=h;exact⟨a,b,c,e1,e2,p.trans e3,e4⟩
 | brk=>obtain⟨a,b,c,e1,e2,e3,e4⟩:=h;exact⟨a,b,c,e1,e2,p.trans e3,e4⟩
 | cont=>obtain⟨a,b,c,e1,e2,e3,e4⟩:=h;exact⟨a,b,c,e1,e2,p.trans e3,e4⟩
 | ret u=>exact h
def dEnds(K:PySem.W.Frag)(H₀ H:Hp)(Dn:DEnds):Ends where
 nx:=fun σ' H'=>∃ σD',DOk K H₀ H' σD' σ'/\Pers H H'/\Dn.nx σD'
 bk:=fun σ' H'=>∃ σD',DOk K H₀ H' σD' σ'/\Pers H H'/\Dn.bk σD'
 ct:=fun σ' H'=>∃ σD',DOk K H₀ H' σD' σ'/\Pers H H'/\Dn.ct σD'
 rt:=fun v H'=>∃ r,Same H₀ H'/\RepR K H₀ H' r v/\Dn.rt r
section
variable {X:Cx}{st:Stmt}{sts rest:List Stmt}{t u:DTS}{e:Expr}{te:DTE}{tf:DTF}{pos:Pos}
theorem SP.dsp{pins:List (Addr×Obj)}{H₀ H:Hp}{Dn:DEnds}{f:Flow}{s':Shared}(h:SP X pins (dEnds X.K H₀ H Dn) f s'):DSP X pins H₀ H Dn f s':=by
 cases f with
 | next=>obtain⟨a,b,e1,c,e2,e3,e4⟩:=h;exact⟨a,b,c,e1,e2,e3,e4⟩
 | brk=>obtain⟨a,b,e1,c,e2,e3,e4⟩:=h;exact⟨a,b,c,e1,e2,e3,e4⟩
 | cont=>obtain⟨a,b,e1,c,e2,e3,e4⟩:=h;exact⟨a,b,c,e1,e2,e3,e4⟩
 | ret u=>obtain⟨v,a,b,e1,e2,r,e3,e4,e5⟩:=h;exact⟨v,a,b,r,e1,e2,e3,e4,e5⟩
theorem DS.of{t':TS}(h:PS X st t')(k:∀ σ H H₀ σD Dn,DOk X.K H₀ H σD σ->t Dn σD->t' (dEnds X.K H₀ H Dn) σ H):DS X st t :=
 ⟨fun pins s σ H H₀ σD Dn I ok q=>thn (h pins s σ H _ I (k σ H H₀ σD Dn ok q)) fun _ _ z=>z.dsp⟩
def cnS(K:PySem.W.Frag)(t:DTS):TS:=fun E σ H=>∃ H₀ σD Dn,DOk K H₀ H σD σ/\t Dn σD/\(∀ σ' H' σD',DOk K H₀ H' σD' σ'->Pers H H'->Dn.nx σD'->E.nx σ' H')/\(∀ v H' r,Same H₀ H'->RepR K H₀ H' r v->Dn.rt r->E.rt v H') /\
 (∀ σ' H' σD',DOk K H₀ H' σD' σ'->Pers H H'->Dn.bk σD'->E.bk σ' H')/\∀ σ' H' σD',DOk K H₀ H' σD' σ'->Pers H H'->Dn.ct σD'->E.ct σ' H'
theorem DSs.ps(h:DSs X sts t):PSs X sts (cnS X.K t):=fun pins s σ H E I ⟨H₀,σD,Dn,ok,q,k1,k2,k3,k4⟩=>thn (h.run pins s σ H H₀ σD Dn I ok q) fun f s' z=>by
 cases f with
 | next=>obtain⟨a,b,c,e1,e2,e3,e4⟩:=z;exact⟨a,b,e1,k1 a b c e2 e3 e4⟩
 | brk=>obtain⟨a,b,c,e1,e2,e3,e4⟩:=z;exact⟨a,b,e1,k3 a b c e2 e3 e4⟩
 | cont=>obtain⟨a,b,c,e1,e2,e3,e4⟩:=z;exact⟨a,b,e1,k4 a b c e2 e3 e4⟩
 | ret u=>obtain⟨v,a,b,r,e1,e2,e3,e4,e5⟩:=z;exact⟨v,a,b,e1,e2,k2 v b r e3 e4 e5⟩
def dNext:DTS:=fun Dn σ=>Dn.nx σ
def dSeq(t u:DTS):DTS:=fun Dn σ=>t { Dn with nx:=u Dn } σ
theorem dss_nil:DSs X [] dNext:=⟨fun _ _ σ H _ σD _ I ok h=>wpAny_execs_nil ⟨σ,H,σD,I,ok,Pers.refl _,h⟩⟩
theorem dss_cons(h1:DS X st t)(h2:DSs X rest u):DSs X (st::rest) (dSeq t u):=⟨fun pins s σ H H₀ σD Dn I ok q=>by
 refine wpAny_execs_cons (thn (h1.run pins s σ H H₀ σD { Dn with nx:=u Dn } I ok q) fun f s1 z=>?_)
 cases f with
 | next =>
  obtain⟨σ',H',σD',I',ok',p,q'⟩:=z
  exact thn (h2.run pins s1 σ' H' H₀ σD' Dn I' ok' q') fun _ _ y=>y.back p
 | ret v=>exact z
 | brk=>exact z
 | cont=>exact z⟩
theorem dss_one(h1:DS X st t):DSs X [st] t:=⟨fun pins s σ H H₀ σD Dn I ok q=>by
 refine wpAny_execs_cons (thn (h1.run pins s σ H H₀ σD Dn I ok q) fun f s1 z=>?_)
 cases f with
 | next=>exact wpAny_execs_nil z
 | ret v=>exact z
 | brk=>exact z
 | cont=>exact z⟩
theorem nst_fp{K:PySem.W.Frag}{H:Hp}{xss:List (List D)}{ds:List D}{v:V}{f1 f2:List Addr}(r:RepO K H (.nst xss ds) v f1)(r2:RepO K H (.nst xss ds) v f2):f1=f2:=by
 obtain⟨a,as,us,rfl,rfl,e,n,_⟩:=r
 obtain⟨a2,as2,us2,e0,rfl,e2,n2,_⟩:=r2
 cases e0
 rw [e] at e2
 have h1:as.map V.ref++us=as2.map V.ref++us2:=HO.lst.inj (Option.some.inj e2)
 have h2:as.map V.ref=as2.map V.ref:=(List.append_inj h1 (by rw [List.length_map,List.length_map,n.len,n2.len])).1
 have h3:as=as2:=(List.map_inj_right fun x y h=>V.ref.inj h).mp h2
 rw [h3]
theorem RepO.fp{K:PySem.W.Frag}{H:Hp}{o:O}{v:V}{f1 f2:List Addr}(r:RepO K H o v f1)(r2:RepO K H o v f2):f1=f2:=by
 induction o with
 | lst xs =>
  obtain⟨b,_,eb,rfl,_⟩:=r
  obtain⟨b2,_,eb2,rfl,_⟩:=r2
  rw [eb] at eb2
  cases eb2
  rfl
 | dct xs =>
  obtain⟨b,_,eb,rfl,_⟩:=r
  obtain⟨b2,_,eb2,rfl,_⟩:=r2
  rw [eb] at eb2
  cases eb2
  rfl
 | nst xss ds=>exact nst_fp r r2
 | anc a o ih=>exact ih r.2 r2.2
 | mix ms =>
  obtain⟨a,us,bs,rfl,rfl,e1,m⟩:=r
  obtain⟨a2,us2,bs2,e0,rfl,e2,m2⟩:=r2
  cases e0
  rw [e1] at e2
  cases e2
  rw [m.fp m2]
 | ins c fs =>
  obtain⟨a,dx,C,fv,rfl,rfl,_,e1,_⟩:=r
  obtain⟨a2,dx2,C2,fv2,e0,rfl,_,e2,_⟩:=r2
  cases e0
  rw [e1] at e2
  cases e2
  rfl
theorem DOk.frz{pins:List (Addr×Obj)}{s:Shared}{σ:St}{H H₀:Hp}{σD:DSt}{i:Nat}{xs:List D}(I:Inv X pins σ H s)(ok:DOk X.K H₀ H σD σ)(e:σD[i]?=some (some (.own (.lst xs)))):∃ H',Inv X pins σ H' s/\DOk X.K H₀ H' (σD.set i (some (.val (.list xs)))) σ/\Pers H H':=by
 obtain⟨a,vs,e1,e2,r,n⟩:=ok.ownL e
 obtain⟨o,J⟩:=I.frz e2
 have ps:Pers H (upd H a (.frz o (.lst vs))):=upd_pers e2 rfl
 refine⟨_,J,?_,ps⟩
 obtain⟨s0,fp,sl,nd,fr⟩:=id ok
 have sm:Same H₀ (upd H a (.frz o (.lst vs))):=fun b u hb=>by rw [upd_ne (ne_of_none hb n)];exact s0 b u hb
 have hi:i<σD.length:=(List.getElem?_eq_some_iff.mp e).1
 -- the slot is forgotten first,then filled with the value
 obtain⟨_,fp1,sl1,nd1,fr1⟩:DOk X.K H₀ H (σD.set i none) (σ.set i (some (.ref a))):=ok.setN (some (.ref a)) i
 have eσ:σ.set i (some (.ref a))=σ:=by
  refine List.ext_getElem? fun j=>?_
  by_cases hj:i=j
  ·subst hj
   rw [List.getElem?_set_self (by rw [<-ok.len];exact hi),e1]
  ·rw [List.getElem?_set_ne hj]
 rw [eσ] at sl1
 have off:a∉fp1:=fun ha=>by
  -- every slot's own addresses apart: a belongs to slot i alone
  have key:∀{σD:DSt} {σ:St} {fp:List Addr},Slots X.K H₀ H σD σ fp->fp.Nodup->∀{i:Nat},σD[i]?=some (some (.own (.lst xs)))->σ[i]?=some (some (.ref a))->∀{fp1:List Addr},Slots X.K H₀ H (σD.set i none) σ fp1->a∉fp1:=by
   intro σD σ fp h
   have det:∀{σD:DSt} {σ:St} {f1 f2:List Addr},Slots X.K H₀ H σD σ f1->Slots X.K H₀ H σD σ f2->f1=f2:=by
    intro σD σ f1 f2 h1
    induction h1 generalizing f2 with
    | nil=>intro h2;cases h2;rfl
    | none _ ih=>intro h2;cases h2 with | none t=>exact ih t
    | val _ _ ih=>intro h2;cases h2 with | val _ t=>exact ih t
    | vw _ _ ih=>intro h2;cases h2 with | vw _ t=>exact ih t
    | vd _ _ ih=>intro h2;cases h2 with | vd _ t=>exact ih t
    | exc _ _ ih=>intro h2;cases h2 with | exc _ t=>exact ih t
    | scr _ _ ih=>intro h2;cases h2 with | scr _ t=>exact ih t
    | pen _ _ ih=>intro h2;cases h2 with | pen _ t=>exact ih t
    | tmp _ _ ih=>intro h2;cases h2 with | tmp _ t=>exact ih t
    | @own o v f ws vs fp r _ ih =>
     intro h2
     cases h2 with
     | own r2 t =>
      cases o with
      | lst xs =>
       obtain⟨b,_,eb,rfl,_⟩:=r
       obtain⟨b2,_,eb2,rfl,_⟩:=r2
       rw [eb] at eb2
       cases eb2
       rw [ih t]
      | dct xs =>
       obtain⟨b,_,eb,rfl,_⟩:=r
       obtain⟨b2,_,eb2,rfl,_⟩:=r2
       rw [eb] at eb2
       cases eb2
       rw [ih t]
      | nst xss ds =>
       rw [nst_fp r r2,ih t]
      | anc _ _=>rw [RepO.fp r r2,ih t]
      | ins _ _=>rw [RepO.fp r r2,ih t]
      | mix _=>rw [RepO.fp r r2,ih t]
   induction h with
   | nil=>intro _ i e;simp at e
   | none t ih =>
    intro nd i e ev fp1 h1
    cases i with
    | zero=>simp at e
    | succ i=>cases h1 with | none t1=>exact ih nd (by simpa using e) (by simpa using ev) t1
   | val r t ih =>
    intro nd i e ev fp1 h1
    cases i with
    | zero=>simp at e
    | succ i=>cases h1 with | val _ t1=>exact ih nd (by simpa using e) (by simpa using ev) t1
   | vw r t ih =>
    intro nd i e ev fp1 h1
    cases i with
    | zero=>simp at e
    | succ i=>cases h1 with | vw _ t1=>exact ih nd (by simpa using e) (by simpa using ev) t1
   | vd r t ih =>
    intro nd i e ev fp1 h1
    cases i with
    | zero=>simp at e
    | succ i=>cases h1 with | vd _ t1=>exact ih nd (by simpa using e) (by simpa using ev) t1
   | exc r t ih =>
    intro nd i e ev fp1 h1
    cases i with
    | zero=>simp at e
    | succ i=>cases h1 with | exc _ t1=>exact ih nd (by simpa using e) (by simpa using ev) t1
   | scr r t ih =>
    intro nd i e ev fp1 h1
    cases i with
    | zero=>simp at e
    | succ i=>cases h1 with | scr _ t1=>exact ih nd (by simpa using e) (by simpa using ev) t1
   | pen r t ih =>
    intro nd i e ev fp1 h1
    cases i with
    | zero=>simp at e
    | succ i=>cases h1 with | pen _ t1=>exact ih nd (by simpa using e) (by simpa using ev) t1
   | tmp r t ih =>
    intro nd i e ev fp1 h1
    cases i with
    | zero=>simp at e
    | succ i=>cases h1 with | tmp _ t1=>exact ih nd (by simpa using e) (by simpa using ev) t1
   | @own o v f ws wvs fp' r t ih =>
    intro nd i e ev fp1 h1
    rw [List.nodup_append] at nd
    cases i with
    | zero =>
     simp at e ev
     subst e ev
     obtain⟨b,_,eb,rfl,_⟩:=r
     cases eb
     cases h1 with
     | none t1 =>
      rw [det t1 t]
      exact fun z=>nd.2.2 _ (by simp) _ z rfl
    | succ i =>
     have e':ws[i]?=some (some (.own (.lst xs))):=by simpa using e
     have ev':wvs[i]?=some (some (.ref a)):=by simpa using ev
     cases h1 with
     | own r1 t1 =>
      intro z
      rcases List.mem_append.mp z with z | z
      ·obtain⟨v',e1,f',⟨b,zs,rfl,rfl,hb,rb⟩,m⟩:=t.get e'
       rw [ev'] at e1
       cases e1
       cases o with
       | lst ys =>
        obtain⟨b1,_,eb1,rfl,_⟩:=r
        obtain⟨b2,_,eb2,rfl,_⟩:=r1
        rw [eb1] at eb2
        cases eb2
        exact nd.2.2 a z a (m a (by simp)) rfl
       | dct ys =>
        obtain⟨b1,_,eb1,rfl,_⟩:=r
        obtain⟨b2,_,eb2,rfl,_⟩:=r1
        rw [eb1] at eb2
        cases eb2
        exact nd.2.2 a z a (m a (by simp)) rfl
       | nst yss ds =>
        rw [<-nst_fp r r1] at z
        exact nd.2.2 a z a (m a (by simp)) rfl
       | anc _ _ =>
        rw [<-RepO.fp r r1] at z
        exact nd.2.2 a z a (m a (by simp)) rfl
       | ins _ _ =>
        rw [<-RepO.fp r r1] at z
        exact nd.2.2 a z a (m a (by simp)) rfl
       | mix _ =>
        rw [<-RepO.fp r r1] at z
        exact nd.2.2 a z a (m a (by simp)) rfl
      ·exact ih nd.2.1 e' ev' t1 z
  exact key sl nd e e1 sl1 ha
 have sl2:Slots X.K H₀ (upd H a (.frz o (.lst vs))) (σD.set i none) σ fp1:=sl1.keep ps (fun h=>h.frz e2) fun b hb w hw=>by rw [upd_ne (fun z=>off (by rw [<-z];exact hb))];exact hw
 have fin:DOk X.K H₀ (upd H a (.frz o (.lst vs))) (σD.set i none) σ:=⟨sm,fp1,sl2,nd1,fr1⟩
 have:=fin.setV (d:=.list xs) (v:=.ref a) (.lst upd_same (r.mono ps)) i
 rw [List.set_set,eσ] at this
 exact this
def dRet(te:DTE):DTS:=fun Dn σ=>te σ fun d=>Dn.rt (.val d)
def dRetF(tf:DTF):DTS:=fun Dn σ=>tf σ fun xs=>Dn.rt (.new xs)
theorem ds_ret(he:DE X e te):DS X (.Return (some e) pos) (dRet te) :=
 DS.of (ps_ret he.pe) fun σ H H₀ σD Dn ok q=>⟨H₀,σD,_,ok,q,fun v H1 d s1 r1 q1=>⟨.val d,ok.same.trans s1,r1,q1⟩⟩
theorem ds_retF(he:DF X e tf):DS X (.Return (some e) pos) (dRetF tf) :=
 DS.of (ps_ret he.pe) fun σ H H₀ σD Dn ok q=>⟨H₀,σD,_,ok,q,fun a H1 vs xs s1 n e r1 q1=>⟨.new xs,ok.same.trans s1,⟨a,vs,rfl,ok.same.free n,e,r1⟩,q1⟩⟩
def dSet(i:Nat)(te:DTE):DTS:=fun Dn σ=>te σ fun d=>Dn.nx (σ.set i (some (.val d)))
def dSetO(i:Nat)(tf:DTF):DTS:=fun Dn σ=>tf σ fun xs=>Dn.nx (σ.set i (some (.own (.lst xs))))
def dSetP(i:Nat)(tf:DTF):DTS:=fun Dn σ=>tf σ fun xs=>(∃ a b c:Int,xs = [.int a,.int b,.int c])/\Dn.nx (σ.set i (some .pen))
theorem ds_set{i:Nat}{x:Str}{pos':Pos}(hN:X.N.Nodup)(hi:X.N[i]?=some x)(hx:Loc X.env.scope x)(he:DE X e te)(hs:swapsWith e (some (.Name x pos')) pos.line X.env=pure false:=by rfl)(hf:X.fn x=true\/X.env.scope.names.lookup x=some .local:=by first | exact .inl rfl | exact .inr rfl | assumption):
  DS X (.Assign [.Name x pos'] e pos) (dSet i te) :=
 DS.of (ps_set hN hi hx he.pe hs hf) fun σ H H₀ σD Dn ok q=>⟨H₀,σD,_,ok,q,fun v H1 d s1 r1 q1=>⟨_,(ok.after s1).setV r1 i,s1.pers,q1⟩⟩
theorem ds_setO{i:Nat}{x:Str}{pos':Pos}(hN:X.N.Nodup)(hi:X.N[i]?=some x)(hx:Loc X.env.scope x)(he:DF X e tf)(hs:swapsWith e (some (.Name x pos')) pos.line X.env=pure false:=by rfl)(hf:X.fn x=true\/X.env.scope.names.lookup x=some .local:=by first | exact .inl rfl | exact .inr rfl | assumption):
  DS X (.Assign [.Name x pos'] e pos) (dSetO i tf) :=
 DS.of (ps_set hN hi hx he.pe hs hf) fun σ H H₀ σD Dn ok q=>⟨H₀,σD,_,ok,q,fun a H1 vs xs s1 n e r1 q1=>⟨_,ok.setO s1 n e r1 i,s1.pers,q1⟩⟩
theorem ds_setP{i:Nat}{x:Str}{pos':Pos}(hN:X.N.Nodup)(hi:X.N[i]?=some x)(hx:Loc X.env.scope x)(he:DF X e tf)(hs:swapsWith e (some (.Name x pos')) pos.line X.env=pure false:=by rfl)(hf:X.fn x=true\/X.env.scope.names.lookup x=some .local:=by first | exact .inl rfl | exact .inr rfl | assumption):
  DS X (.Assign [.Name x pos'] e pos) (dSetP i tf):=⟨fun pins s σ H H₀ σD Dn I ok q=>by
 refine thn (ps_set hN hi hx he.pe hs hf pins s σ H { nx:=fun σ' H'=>∃ a,Same H H'/\H a=none/\σ'=σ.set i (some (.ref a))/\(∃ x y z:Int,H' a=some (.lst [.int x,.int y,.int z]))/\Dn.nx (σD.set i (some .pen)),rt:=fun _ _=>False } I ⟨H₀,σD,_,ok,q,fun a H1 vs xs s1 n e r1 q1=>?_⟩) fun f s' z=>?_
 ·obtain⟨⟨x,y,z,rfl⟩,q1⟩:=q1
  cases r1 with
  | cons r1 t=>cases t with
   | cons r2 t=>cases t with
    | cons r3 t =>
     cases t
     cases r1
     cases r2
     cases r3
     exact⟨a,s1,n,rfl,⟨x,y,z,e⟩,q1⟩
 ·cases f with
  | next =>
   obtain⟨σ',H',I',a,sm,n,rfl,⟨x,y,z,e⟩,q⟩:=z
   have sm2:Same H (upd H' a (PenO a)):=fun b u hb=>by rw [upd_ne (ne_of_none hb n)];exact sm b u hb
   exact⟨_,_,_,I'.toPen e,(ok.after sm2).put (.pen upd_same) i,sm2.pers,q⟩
  | ret u=>obtain⟨_,_,_,_,_,z⟩:=z;exact z.elim
  | brk=>obtain⟨_,_,_,z⟩:=z;exact z.elim
  | cont=>obtain⟨_,_,_,z⟩:=z;exact z.elim⟩
def dAsg(te:DTE)(g:DTG):DTS:=fun Dn σ=>te σ fun d=>g d σ Dn.nx
theorem ds_asg{tg:Expr}{is:List Nat}{g:DTG}(he:DE X e te)(hg:DG X tg is g)(hs:swapsWithSole [tg] e pos.line X.env=pure false:=by rfl)(hw:swappedStores [tg] e X.env=pure none:=by rfl)
  (h1:(assignEach [tg] X.env).map (·.2) = [assign tg X.env]:=by rfl):DS X (.Assign [tg] e pos) (dAsg te g) :=
 DS.of (ps_asg he.pe hg.pg hs hw h1) fun σ H H₀ σD Dn ok q=>⟨H₀,σD,_,ok,q,fun v H1 d s1 r1 q1=>⟨H₀,σD,d,_,ok.after s1,r1,q1,fun σ' σD' _ ok' _ q'=>⟨σD',ok',s1.pers,q'⟩⟩⟩
def dPar(i j:Nat)(t:DTF):DTS:=fun Dn σ=>t σ fun ds=>match ds with
 | [d,e]=>Dn.nx ((σ.set i (some (.val d))).set j (some (.val e)))
 | _=>False
theorem ds_par{i j:Nat}{x y:Str}{a b:Expr}{px py pt:Pos}{kt k2 pt2}(hc:X.calm=true)(hN:X.N.Nodup)(hi:X.N[i]?=some x)(hj:X.N[j]?=some y)(hij:i≠j)
  (hx:X.env.scope.names.lookup x=some .local) (hy:X.env.scope.names.lookup y=some .local) (ha:DA X [a,b] tf)
  (hw:swappedStores [.Tuple [.Name x px,.Name y py] kt pt] (.Tuple [a,b] k2 pt2) X.env=pure (some [x,y]))
  (hs:swapsWithSole [.Tuple [.Name x px,.Name y py] kt pt] (.Tuple [a,b] k2 pt2) pos.line X.env=pure false:=by rfl) :
  DS X (.Assign [.Tuple [.Name x px,.Name y py] kt pt] (.Tuple [a,b] k2 pt2) pos) (dPar i j tf) :=
 DS.of (ps_par hc hN hi hj hij hx hy ha.pa hw hs) fun σ H H₀ σD Dn ok q=>⟨H₀,σD,_,ok,q,fun vs H1 ds s1 r1 q1=>by
  match ds,r1,q1 with
  | [d,e],r1,q1 =>
   cases r1 with
   | cons p1 t1=>cases t1 with
    | cons p2 t2 =>
     cases t2
     exact⟨_,_,rfl,_,((ok.after s1).setV p1 i).setV p2 j,s1.pers,q1⟩⟩
def dPar3(i j k:Nat)(t:DTF):DTS:=fun Dn σ=>t σ fun ds=>match ds with
 | [d,e,f]=>Dn.nx (((σ.set i (some (.val d))).set j (some (.val e))).set k (some (.val f)))
 | _=>False
theorem ds_par3{i j k:Nat}{x y z:Str}{a b c:Expr}{px py pz pt:Pos}{kt k2 pt2}(hc:X.calm=true)(hN:X.N.Nodup)(hi:X.N[i]?=some x)(hj:X.N[j]?=some y)(hk:X.N[k]?=some z)(hij:i≠j)(hik:i≠k)(hjk:j≠k)
  (hx:X.env.scope.names.lookup x=some .local) (hy:X.env.scope.names.lookup y=some .local) (hz:X.env.scope.names.lookup z=some .local) (ha:DA X [a,b,c] tf)
  (hw:swappedStores [.Tuple [.Name x px,.Name y py,.Name z pz] kt pt] (.Tuple [a,b,c] k2 pt2) X.env=pure (some [x,y,z]))
  (hs:swapsWithSole [.Tuple [.Name x px,.Name y py,.Name z pz] kt pt] (.Tuple [a,b,c] k2 pt2) pos.line X.env=pure false:=by rfl) :
  DS X (.Assign [.Tuple [.Name x px,.Name y py,.Name z pz] kt pt] (.Tuple [a,b,c] k2 pt2) pos) (dPar3 i j k tf) :=
 DS.of (ps_par3 hc hN hi hj hk hij hik hjk hx hy hz ha.pa hw hs) fun σ H H₀ σD Dn ok q=>⟨H₀,σD,_,ok,q,fun vs H1 ds s1 r1 q1=>by
  match ds,r1,q1 with
  | [d,e,f],r1,q1 =>
   cases r1 with
   | cons p1 t1=>cases t1 with
    | cons p2 t2=>cases t2 with
     | cons p3 t3 =>
      cases t3
      exact⟨_,_,_,rfl,_,(((ok.after s1).setV p1 i).setV p2 j).setV p3 k,s1.pers,q1⟩⟩
def dIf(c:DTT)(t u:DTS):DTS:=fun Dn σ=>c σ fun b=>if b=true then t Dn σ else u Dn σ
theorem ds_if{c:Expr}{a b:List Stmt}{tc:DTT}(hc:DT X c tc)(ha:DSs X a t)(hb:DSs X b u):DS X (.If c a b pos) (dIf tc t u):=⟨fun pins s σ H H₀ σD Dn I ok q=>by
 refine wpAny_If (thn (hc.run pins s σ H H₀ σD _ I ok q) fun d s1 ⟨H1,I1,sm,q1⟩=>?_)
 cases d with
 | true=>exact thn (ha.run pins s1 σ H1 H₀ σD Dn I1 (ok.after sm) (by simpa using q1)) fun _ _ z=>z.back sm.pers
 | false=>exact thn (hb.run pins s1 σ H1 H₀ σD Dn I1 (ok.after sm) (by simpa using q1)) fun _ _ z=>z.back sm.pers⟩
def forD(g:DTG)(tb:DTS)(Dn:DEnds):List D->DSt->Prop
 | [],σ=>Dn.nx σ
 | d::ds,σ=>g d σ fun σ2=>tb { Dn with nx:=forD g tb Dn ds,ct:=forD g tb Dn ds,bk:=Dn.nx } σ2
theorem forD_suf{g:DTG}{tb:DTS}{Dn:DEnds}(Iv:List D->DSt->Prop)(hs:∀ d ds σ (N:DSt->Prop),Iv (d::ds) σ->(∀ σ',Iv ds σ'->N σ')->g d σ fun σ2=>tb { Dn with nx:=N,ct:=N,bk:=Dn.nx } σ2)(hd:∀ σ,Iv [] σ->Dn.nx σ):∀{ds:List D} {σ:DSt},Iv ds σ->forD g tb Dn ds σ
 | [],σ,h=>hd σ h
 | d::ds,σ,h=>hs d ds σ _ h fun σ' h'=>forD_suf Iv hs hd h'
def dFor(ti:DTF)(g:DTG)(tb:DTS):DTS:=fun Dn σ=>ti σ fun ds=>forD g tb Dn ds σ
theorem ds_for{tg iter:Expr}{body:List Stmt}{ti:DTF}{is:List Nat}{g:DTG}{tb:DTS}(hp:PassesOwn (model X.prog X.w) X.A X.env X.xe)(hc:X.calm=true)(hi:DI X tg iter ti)(hg:DG X tg is g)(hb:DSs X body tb)
  (hs:∀ x,foldedSetIterable iter X.env x=pure x:=by intro _;rfl):DS X (.For tg iter body [] pos) (dFor ti g tb) :=
 DS.of (ps_for hp hc hi.pi hg.pg hb.ps hs) fun σ H H₀ σD Dn ok q=>⟨H₀,σD,_,ok,q,fun J H1 ds s1 it q1=>by
  have sub:∀{i:Nat} {d:D} {σ':DSt},ds[i]?=some d->forD g tb Dn (ds.drop i) σ'=g d σ' (fun σ2=>tb { Dn with nx:=forD g tb Dn (ds.drop (i+1)),ct:=forD g tb Dn (ds.drop (i+1)),bk:=Dn.nx } σ2):=fun{i d σ'} e=>by
   obtain⟨hi,e'⟩:=List.getElem?_eq_some_iff.mp e
   rw [List.drop_eq_getElem_cons hi,e']
   rfl
  refine⟨fun i m σ' H'=>m=ds.length-i/\i<=ds.length/\Pers H1 H'/\∃ σD',DOk X.K H₀ H' σD' σ'/\forD g tb Dn (ds.drop i) σD',⟨ds.length,rfl,Nat.zero_le _,Pers.refl _,σD,ok.after s1,q1⟩,?_⟩
  rintro i m σ' H' ⟨rfl,hi,pr,σD',ok',q'⟩
  by_cases hlt:i<ds.length
  ·have e:ds[i]?=some ds[i]:=by simp [hlt]
   obtain⟨go,yl⟩:=it.go H' i ds[i] pr e
   rw [sub e] at q'
   refine .inr ⟨go,fun σ2 H2=>Pers H1 H2/\∃ σD2,DOk X.K H₀ H2 σD2 σ2/\forD g tb Dn (ds.drop (i+1)) σD2,fun σ2 H2 ⟨p2,σD2,ok2,q2⟩=>⟨ds.length-(i+1),by omega,rfl,hlt,p2,σD2,ok2,q2⟩,fun x H2 y=>?_⟩
   obtain⟨s2,r2⟩:=yl x H2 y
   have p2:=pr.trans s2.pers
   refine⟨H₀,σD',ds[i],_,ok'.after s2,r2,q',fun σ3 σD3 _ ok3 _ q3=>?_⟩
   exact⟨H₀,σD3,_,ok3,q3,fun σ4 H4 σD4 ok4 p4 q4=>⟨p2.trans p4,σD4,ok4,q4⟩,fun v H4 r sm rp qr=>⟨r,sm,rp,qr⟩,fun σ4 H4 σD4 ok4 p4 q4=>⟨σD4,ok4,(s1.pers.trans p2).trans p4,q4⟩,fun σ4 H4 σD4 ok4 p4 q4=>⟨p2.trans p4,σD4,ok4,q4⟩⟩
  ·have e:i=ds.length:=by omega
   subst e
   rw [List.drop_length] at q'
   exact .inl ⟨it.stop H' pr,σD',ok',s1.pers.trans pr,q'⟩⟩
variable {ta tb:DTE}
def dApp(i:Nat)(te:DTE):DTS:=fun Dn σ=>match σ[i]? with
 | some (some (.own (.lst xs)))=>te σ fun d=>xs.length<sizeLine/\Dn.nx (clr (σ.set i (some (.own (.lst (xs ++ [d]))))))
 | _=>False
theorem ds_append(i:Nat){x:Str}{p1 apos cpos:Pos}(he:DE X e te)(hN:X.N[i]?=some x:=by rfl)(hv:Vis X.env.scope x:=by first | exact Or.inl rfl | exact Or.inr (Or.inl rfl) | exact Or.inr (Or.inr rfl))(hd:(x == ("__debug__" : Str))=false:=by decide)
  (hcd:(x == ("__classdict__" : Str))=false:=by decide)
  (hbase:attributeBase (.Name x p1) "append" X.env (eval (.Name x p1) X.env)=eval (.Name x p1) X.env:=by rfl)
  (hfew:((backTo cpos (starEach (e :: []) X.env)).all (fun x=>!x.1) && (backToKw cpos (keywordEach [] X.env)).all (fun x=>x.1.isSome)
   && decide ((e :: []).length+([]:List Keyword).length+(if ([]:List Keyword).isEmpty then 0 else 1)<30))=true:=by rfl)
  (hline:(apos.endLine == cpos.line)=true:=by rfl) (hst:starEach (e :: []) X.env=(false,eval e X.env)::starEach [] X.env:=by rfl) (hplain:(backTo cpos (starEach [] X.env)).any (·.1)=false:=by rfl)
  (hs:swapsWith (.Call (.Attribute (.Name x p1) "append" apos) [e] [] cpos) none pos.line X.env=pure false:=by rfl):DS X (.Expr (.Call (.Attribute (.Name x p1) "append" apos) [e] [] cpos) pos) (dApp i te) :=
 DS.of (ps_expr (pe_bm PySem.F.plainAttrs_list PySem.F.slot_list_append PySem.F.type_list_append mt_append (pe_var (i:=i) hN hv hd hcd) (pa_cons he.pe pa_nil hst) hbase hfew hline hst hplain) hs) fun σ H H₀ σD Dn ok q=>by
  unfold dApp at q
  split at q
  ·next xs eo =>
   obtain⟨a,vs,e1,e2,r,n⟩:=ok.ownL eo
   refine⟨.ref a,e1,.inl ⟨rfl,vs,SqL.of e2⟩,H₀,σD,_,ok,q,fun v H1 d s1 r1 q1=>?_⟩
   refine⟨a,vs,v,rfl,rfl,s1 _ _ e2,by rw [<-r.length];exact q1.1,_,(ok.after s1).write eo e1 (s1 _ _ e2) ((r.same s1).append (.cons r1 .nil)),s1.pers.trans (upd_pers (s1 _ _ e2) rfl),q1.2⟩
  ·exact q.elim
def dPutI(i:Nat)(ti te:DTE):DTS:=fun Dn σ=>te σ fun d=>match σ[i]? with
 | some (some (.own (.lst xs)))=>ti σ fun k=>match k with
  | .int k=>∃ j,ixN xs.length k=some j/\Dn.nx (clr (σ.set i (some (.own (.lst (xs.set j d))))))
  | _=>False
 | _=>False
theorem ds_putI(i:Nat){ie:Expr}{x:Str}{p1 tpos:Pos}(he:DE X e te)(hi:DE X ie ta)(hN:X.N[i]?=some x:=by rfl)(hv:Vis X.env.scope x:=by first | exact Or.inl rfl | exact Or.inr (Or.inl rfl) | exact Or.inr (Or.inr rfl))(hd:(x == ("__debug__" : Str))=false:=by decide)
  (hcd:(x == ("__classdict__" : Str))=false:=by decide)
  (ha:∀ v,assign (.Subscript (.Name x p1) ie tpos) X.env v=(do
   let ov <-holding [v] (eval (.Name x p1) X.env)
   let iv <-holding [v,ov] (eval ie X.env)
   standAt tpos
   holding [v,ov,iv] (setItem ov iv v)
   release [v,ov,iv] []):=by intro _;rfl)
  (hs:swapsWithSole [.Subscript (.Name x p1) ie tpos] e pos.line X.env=pure false:=by rfl) (hw:swappedStores [.Subscript (.Name x p1) ie tpos] e X.env=pure none:=by rfl)
  (h1:(assignEach [.Subscript (.Name x p1) ie tpos] X.env).map (·.2) = [assign (.Subscript (.Name x p1) ie tpos) X.env]:=by rfl):DS X (.Assign [.Subscript (.Name x p1) ie tpos] e pos) (dPutI i ta te) :=
 DS.of (ps_asg he.pe (pg_sub (pe_var (i:=i) hN hv hd hcd) hi.pe set_list ha) hs hw h1) fun σ H H₀ σD Dn ok q=>⟨H₀,σD,_,ok,q,fun v H1 d s1 r1 q1=>by
  split at q1
  ·next xs eo =>
   obtain⟨a,vs,e1,e2,r,n⟩:=(ok.after s1).ownL eo
   refine⟨.ref a,e1,H₀,σD,_,ok.after s1,q1,fun w H2 k s2 r2 q2=>?_⟩
   cases k with
   | int k =>
    cases r2
    obtain⟨j,ej,q2⟩:=q2
    exact⟨a,vs,k,j,rfl,rfl,s2 _ _ e2,by rw [<-r.length];exact ej,_,((ok.after s1).after s2).write eo e1 (s2 _ _ e2) (Reps.set (r1.same s2) j (r.same s2)),(s1.pers.trans s2.pers).trans (upd_pers (s2 _ _ e2) rfl),q2⟩
   | _=>exact q2.elim
  ·exact q1.elim⟩
end
def startF(N:List Str)(ws:List W):DSt:=ws.map some++List.replicate (N.length-ws.length) none
section
variable {P:Program}{w:World}{K:PySem.W.Frag}{mg:Str->Option Value}{base:Heap}
theorem DOk.begin{H:Hp}{ws:List W}{vs:List V}(r:RepWs K H ws vs)(N:List Str):DOk K H H (startF N ws) (start N vs):=by
 refine⟨Same.refl _,[],?_,List.nodup_nil,fun a ha=>by cases ha⟩
 unfold startF start
 rw [<-r.length]
 generalize N.length-ws.length=n
 have rep:∀ n:Nat,Slots K H H (List.replicate n none) (List.replicate n none) []:=fun n=>by
  induction n with
  | zero=>exact .nil
  | succ n ih=>exact .none ih
 induction r with
 | nil=>exact rep n
 | @cons w' v ws vs r t ih =>
  cases w' with
  | val d=>exact .val r ih
  | vw xs=>exact .vw r ih
  | vd xs=>exact .vd r ih
  | exc xs=>exact .exc r ih
  | scr ns=>obtain⟨a,rfl,r⟩:=r;exact .scr r ih
  | pen=>obtain⟨a,rfl,r⟩:=r;exact .pen r ih
  | tmp d=>exact r.elim
  | own o=>exact r.elim
theorem Fun.dok{x qual:Str}{st:Stmt}{f:Addr}{fd:FuncData}{N ps:List Str}{k:Nat}{sp:DSp}(F:Fun K x qual st f fd)(S:FnScope N ps (defScope st))(len:∀ ws Q,sp ws Q->ws.length=ps.length)
  (hbody:∀(cdv:Value) (A:Around) (outer:List Env) (s:Shared) (H:Hp) (ws:List W) (Q:Ret->Prop) (E:XK),Room k (A.deeper (envOfC qual (defScope st) s.heap.objs.size f cdv))->sp ws Q ->
   ∃ t,DSs (cxOf CX0 P w K mg base N qual (defScope st) f cdv A outer s H E).nox (defBody st) t/\t { nx:=fun _=>Q (.val .none),rt:=Q } (startF N ws)):FnOk P w K mg base CX0 (k+1) f fd ps (cnSp K sp):=by
 refine F.ok S (fun vs H Q E h=>?_) fun cdv A outer s H vs Q E hr h=>?_
 ·obtain⟨ws,QD,r,q,_⟩:=h
  rw [<-r.length]
  exact len ws QD q
 ·obtain⟨ws,QD,r,q,kk⟩:=h
  obtain⟨t,ht,hq⟩:=hbody cdv A outer s H ws QD E hr q
  refine⟨_,ht.ps,H,_,_,DOk.begin r N,hq,fun σ' H' σD' ok' p' q'=>kk .non H' (.val .none) ok'.same .non q',fun v H' r' sm rp qr=>kk v H' r' sm rp qr,fun _ _ _ _ _ z=>z.elim,fun _ _ _ _ _ z=>z.elim⟩
end
def sp_drawH:Sp:=fun vs H Q _=>∃(p:Addr) (m:Int),vs = [.ref p,.int m]/\0<m/\m<10000000000000000000000000000000000000000000000000000000000000/\Pen H p/\∀(v:Int) H',0<=v->v<m->Pen H' p->But p H H'->Q (.int v) H'
def sp__law_draw:DSp:=fun ws Q=>∃ m:Int,ws = [.pen,.val (.int m)]/\0<m/\m<10000000000000000000000000000000000000000000000000000000000000/\∀ v:Int,0<=v->v<m->Q (.val (.int v))
theorem pen_fn{P:Program}{w:World}{K:PySem.W.Frag}{mg:Str->Option Value}{base:Heap}{k:Nat}{f:Addr}{fd:FuncData}{ps:List Str}(F:FnOk P w K mg base CX0 k f fd ps sp_drawH):FnOk P w K mg base CX0 k f fd ps (cnSp K sp__law_draw):=by
 refine⟨fun vs H Q E h=>?_,fun A outer s H args us vs Q E hr e0 hb hv hs=>?_⟩
 ·obtain⟨ws,QD,rw',⟨m,rfl,hm,hM,q⟩,kk⟩:=h
  cases rw' with
  | cons r1 t=>cases t with
   | cons r2 t =>
    cases t
    obtain⟨p,rfl,hp⟩:=r1
    have r2:Rep K H (.int m) _:=r2
    cases r2
    exact F.len [.ref p,.int m] (upd H p (.lst [.int 0,.int 0,.int 0])) (fun _ _=>True) E ⟨p,m,rfl,hm,hM,⟨0,0,0,upd_same⟩,fun _ _ _ _ _ _=>trivial⟩
 ·obtain⟨ws,QD,rw',⟨m,rfl,hm,hM,q⟩,kk⟩:=hs
  cases rw' with
  | cons r1 t=>cases t with
   | cons r2 t =>
    cases t
    obtain⟨p,rfl,hp⟩:=r1
    have r2:Rep K H (.int m) _:=r2
    cases r2
    obtain⟨⟨x,y,z,tx,ty,tz,n,e⟩,_,_⟩:=e0.hok p _ hp
    have mu:Mut (H p):=by rw [hp];exact trivial
    have hok1:HOk P w (upd H p (.lst [.int x,.int y,.int z])) s.heap:=e0.hok.write (h':=s.heap) mu (.inl rfl) (fun b u _ q=>q) ⟨_,e⟩ ⟨by show 3<=sizeLine;decide,[_,_,_],n,.cons ⟨_,rfl⟩ (.cons ⟨_,rfl⟩ (.cons ⟨_,rfl⟩ .nil)),e⟩
    have nn:∀ b,H b=none->b≠p:=fun b h z=>by rw [z,hp] at h;cases h
    have e1:Env0 P w K mg base A outer s (upd H p (.lst [.int x,.int y,.int z])):=⟨e0.frames,e0.mod,fun b o h=>⟨(e0.bs b o h).1,by rw [upd_ne (nn b (e0.bs b o h).2)];exact(e0.bs b o h).2⟩,e0.bsz,e0.funs,fun b hb=>by rw [upd_ne (nn b (e0.frf b hb))];exact e0.frf b hb,hok1,e0.bare⟩
    refine codeAny_mono (F.run A outer s _ args us [.ref p,.int m] (fun v H'=>∃ i,v=.int i/\0<=i/\i<m/\Pen H' p/\But p (upd H p (.lst [.int x,.int y,.int z])) H') E hr e1 hb hv ⟨p,m,rfl,hm,hM,⟨x,y,z,upd_same⟩,fun v H' h1 h2 h3 h4=>⟨v,rfl,h1,h2,h3,h4⟩⟩) fun r s' z=>?_
    cases r with
    | error e=>exact z
    | ok fl =>
     cases fl with
     | ret u =>
      obtain⟨v,H',os,bare,un,hok',rv,i,rfl,h1,h2,⟨a',b',c',hp'⟩,bt⟩:=z
      obtain⟨zz,its,n',r',e'⟩:=hok' p _ hp'
      have pk:∃(x y z:Int) (tx ty tz:Tok),its = [.int x tx,.int y ty,.int z tz]:=by
       cases r' with
       | cons r1 r=>cases r with
        | cons r2 r=>cases r with
         | cons r3 r =>
          cases r
          obtain⟨t1,rfl⟩:=r1
          obtain⟨t2,rfl⟩:=r2
          obtain⟨t3,rfl⟩:=r3
          exact⟨_,_,_,_,_,_,rfl⟩
      obtain⟨x',y',z',tx',ty',tz',rfl⟩:=pk
      have np:∀{b:Addr} {u:HO},H b=some u->u≠PenO p->b≠p:=fun{b u} h n z=>by rw [z,hp] at h;cases h;exact n rfl
      have hpen:∀{b:Addr},b≠p->upd H' p (PenO p) b=H' b:=fun h=>upd_ne h
      refine⟨.int i,upd H' p (PenO p),os,bare,⟨fun b o h n'=>un.keep b o h (by rw [upd_ne (nn b n')];exact n'),fun b o h n'=>un.slot b o h (by rw [upd_ne (nn b n')];exact n'),fun b o h n' hx=>?_,un.there,fun b xs h=>?_,fun b o u h=>?_,fun b ps h=>?_⟩,?_,rv,kk (.int i) _ (.val (.int i)) (fun b o h=>?_) (show Rep K _ (.int i) (.int i) from .int) (q i h1 h2)⟩
      ·rw [hpen (nn b n')]
       exact un.free b o h (by rw [upd_ne (nn b n')];exact n') hx
      ·have nb:=np h (by unfold PenO;intro z;cases z)
       rw [hpen nb]
       exact un.tups b xs (by rw [upd_ne nb];exact h)
      ·have nb:=np h (by unfold PenO;intro z;cases z)
       rw [hpen nb]
       exact un.frzs b o u (by rw [upd_ne nb];exact h)
      ·have nb:=np h (by unfold PenO;intro z;cases z)
       obtain⟨more,e2⟩:=un.tbls b ps (by rw [upd_ne nb];exact h)
       exact⟨more,by rw [hpen nb];exact e2⟩
      ·exact hok'.write (h':=s'.heap) (by rw [hp'];exact trivial) (.inl rfl) (fun b u _ q=>q) ⟨_,e'⟩ (penO_ok e')
      ·by_cases hb:b=p
       ·subst hb
        rw [hp] at h
        cases h
        exact upd_same
       ·rw [upd_ne hb]
        exact bt b o hb (by rw [upd_ne hb];exact h)
     | next=>exact z
     | brk=>exact z
     | cont=>exact z
section
variable {prog:Program}{w:World}{A:Around}{E:Value->Shared->Prop}{s:Shared}
theorem draw_list{it t:Addr}{items:Array Value}(hne:t≠it):∀(n i:Nat) (s:Shared) (Q:List Value->Shared->Prop),s.heap.IsListIter it t i->s.heap.IsList t items->i+n<=items.size ->
  (∀ h',h'.IsListIter it t (i+n)->Heap.SameBut it s.heap h'->Q ((items.toList.drop i).take n) { s with heap:=h' })->wpAny (model prog w) A (draw (.ref it) n) Q E s
 | 0,i,s,Q,hit,_,_,hQ=>by
  show wpAny _ _ (pure []) Q E s
  exact wpAny_pure (by simpa using hQ s.heap hit (Heap.SameBut.refl ..))
 | n+1,i,s,Q,hit,ht,hle,hQ=>by
  have hlt:i<items.size:=by omega
  show wpAny _ _ (pyNext (.ref it) >>= _) Q E s
  refine wpAny_bind (wpAny_pyNext_list_item hit ht (x:=items[i]) (by simp [hlt]) fun h₁ hit₁ hs₁=>?_)
  have ht1:h₁.IsList t items:=by obtain⟨o,e,r⟩:=ht;exact⟨o,(hs₁.2 t hne).trans e,r⟩
  refine wpAny_bind (wpAny_holding (draw_list hne n (i+1) _ _ hit₁ ht1 (by omega) fun h₂ hit₂ hs₂=>wpAny_pure ?_))
  have hd:items.toList.drop i=items[i]::items.toList.drop (i+1):=by simp [List.drop_eq_getElem_cons,hlt]
  have:=hQ h₂ (by rw [show i+(n+1)=i+1+n by omega];exact hit₂) (hs₁.trans hs₂)
  rw [hd,List.take_succ_cons] at this
  exact this
theorem unpackItems_list{t:Addr}{items:Array Value}{Q:List Value->Shared->Prop}(hh:A.handled=none)(ht:s.heap.IsList t items)
  (hQ:∀ h',Heap.ExtBut s.heap.objs.size s.heap h'->Q items.toList { s with heap:=h' }):wpAny (model prog w) A (unpackItems (.ref t) items.size none) Q E s:=by
 have hlt:t≠s.heap.objs.size:=by obtain⟨o,ho,_⟩:=ht;exact Nat.ne_of_lt (Heap.lt_size ho)
 have push:∀ o:Obj,(s.heap.push o).IsList t items:=fun o=>by obtain⟨o',e,r⟩:=ht;exact⟨o',Heap.get?_push_of_some _ e,r⟩
 unfold unpackItems
 refine wpAny_bind ?_
 ·unfold notIterableAtAll
  refine wpAny_bind (wpAny_specialOf ht.typeIs slot_list_iter.lookup ?_)
  refine wpAny_pure ?_
  simp only [Bool.false_eq_true,if_false]
  refine wpAny_bind (wpAny_holding (wpAny_pyIter_list ht ?_))
  refine wpAny_bind (wpAny_holding (draw_list hlt items.size 0 _ _ ⟨_,Heap.get?_push_size _ rfl,rfl,rfl⟩ (push _) (by omega) fun h₁ hit₁ hs₁=>?_))
  have hall:List.take items.size (List.drop 0 items.toList)=items.toList:=by
   rw [List.drop_zero];exact List.take_of_length_le (by simp)
  rw [hall]
  rw [if_neg (by simp)]
  have ht₁:h₁.IsList t items:=by obtain⟨o',e,r⟩:=push { cls:=.type "list_iterator",data:=.fields #[.ref t,.int 0 0] };exact⟨o',(hs₁.2 t hlt).trans e,r⟩
  refine wpAny_bind (wpAny_holding (wpAny_pyNext_list_end hh hit₁ ht₁ (by simp) fun h₂ he₂=>?_))
  simp only [Option.isSome_none,Bool.false_eq_true,if_false]
  refine wpAny_pure (hQ h₂ fun b o hb e=>he₂ b o hb (hs₁.extBut b o hb (Heap.get?_push_of_some _ e)))
theorem assign_Tuple_list{env:Env}{elts:List Expr}{x1}{pos:Pos}{t:Addr}{items:Array Value}{Q:Unit->Shared->Prop}(hh:A.handled=none)(ht:s.heap.IsList t items)
  (hn:(assignEach elts env).length=items.size) (hstar:(assignEach elts env).findIdx? (·.1)=none)
  (h:∀ h',Heap.ExtBut s.heap.objs.size s.heap h'->wpAny (model prog w) A (assignInOrder ((assignEach elts env).map (·.2)) items.toList) Q E { s with heap:=h' }) :
  wpAny (model prog w) A (assign (.Tuple elts x1 pos) env (.ref t)) Q E s:=by
 rw [assign_Tuple]
 refine wpAny_bind (wpAny_standAt ?_)
 unfold unpack
 rw [hn,hstar]
 exact wpAny_bind (wpAny_holding (unpackItems_list hh ht h))
end
section
variable {X:Cx}{tg iter e:Expr}{es:List Expr}{te:DTE}{tf:DTF}{p pos:Pos}
def dgSeq(n:Nat)(gs:DTGs):DTG:=fun d σ Q=>match d with
 | .tuple xs=>xs.length=n/\gs xs σ Q
 | .list xs=>xs.length=n/\gs xs σ Q
 | _=>False
theorem dg_seq{k:Nat}{is:List Nat}{gs:DTGs}{n:Nat}(hc:X.calm=true)(h:DGs X es is gs)(hn:(assignEach es X.env).length=n:=by rfl)(hst:(assignEach es X.env).findIdx? (·.1)=none:=by rfl):DG X (.Tuple es k pos) is (dgSeq n gs):=⟨fun pins s σ H H₀ σD v u d Q I ok r rp q=>by
 cases d with
 | tuple xs=>exact(dg_tup (k:=k) (pos:=pos) hc h hn hst).run pins s σ H H₀ σD v u _ Q I ok r rp q
 | list xs =>
  obtain⟨hl,q⟩:=q
  cases rp with
  | lst hq rr =>
   cases r
   obtain⟨its,rv,ht,hz⟩:=I.list (.inl (.inr ⟨_,hq⟩))
   refine assign_Tuple_list (I.ok.hd hc) ht.isList (by simp [hn,<-hl,<-rv.length,rr.length]) hst fun h' hx=>?_
   have I1:Inv X pins σ H { s with heap:=h' }:=I.kept (t':=s.toks) fun b o e=>hx b o (Nat.ne_of_lt (Heap.lt_size e)) e
   exact h.run pins _ σ H H₀ σD _ _ xs Q I1 ok (by simpa using rv) rr q
 | _=>exact q.elim⟩
variable {elt:Expr}{ifs:List Expr}{scope:Scope}{cl:List (Str×Addr)}{N' capt:List Str}{k:Nat}{js is:List Nat}{ti:DTF}{g:DTG}{tt:DTT}
theorem setLC_out{i:Nat}{x:Str}{pos' spos:Pos}(hN:X.N.Nodup)(hi':X.N[i]?=some x)(hx:Loc X.env.scope x)(hc:X.calm=true)(L:LCok X scope cl N' capt k js)
  (hi:DIw X tg iter ti) (hg:∀ C fp s2 H2,DG (cxLC X N' scope cl C fp s2 H2) tg is g) (ht:∀ C fp s2 H2,DTs (cxLC X N' scope cl C fp s2 H2) ifs tt) (he:∀ C fp s2 H2,DE (cxLC X N' scope cl C fp s2 H2) elt te)
  (his:∀ j∈is,j<k) (hsw:swapsWith (.ListComp elt [⟨tg,iter,ifs,0⟩] scope pos) (some (.Name x pos')) spos.line X.env=pure true) (hs:∀ x,foldedSetIterable iter X.env x=pure x) (hf:X.fn x=true\/X.env.scope.names.lookup x=some .local)
  {pins:List (Addr×Obj)} {s:Shared} {σ:St} {H H₀:Hp} {σD:DSt} {Q:List D->Prop} (I:Inv X pins σ H s) (ok:DOk X.K H₀ H σD σ) (q:dLC k js ti g tt te σD Q) :
  wpAny (model X.prog X.w) X.A (exec (.Assign [.Name x pos'] (.ListComp elt [⟨tg,iter,ifs,0⟩] scope pos) spos) X.env) (fun f s'=>f=.next/\∃ a H' vs xs,Inv X pins (σ.set i (some (.ref a))) H' s'/\Same H H'/\H a=none/\H' a=some (.lst vs)/\Reps X.K H' xs vs/\Q xs) X.xe s:=by
 refine thn (ps_setLC (wi:=cnI X.K Same ti) (g:=cnG X.K is g) (tt:=cnT X.K tt) (te:=cnE X.K te) hN hi' hx hc L hi.pi (fun C fp s2 H2=>(hg C fp s2 H2).pg) (fun C fp s2 H2=>(ht C fp s2 H2).pts) (fun C fp s2 H2=>(he C fp s2 H2).pe) hsw hs hf pins s σ H
  { nx:=fun σ' H'=>∃ a vs xs,σ'=σ.set i (some (.ref a))/\Same H H'/\H a=none/\H' a=some (.lst vs)/\Reps X.K H' xs vs/\Q xs,rt:=fun _ _=>False } I ?_) fun f s' z=>?_
 ·refine⟨H₀,σD,_,ok,q,fun J H1 ds s1 it q1 Dd hn=>?_⟩
  have z:=lc_turns (k:=k) (js:=js) (is:=is) (gL:=cnG X.K is g) (Dd:=Dd) (ok.after s1) it q1.1 (fun d v σ' H' Q σ0 ok0 r0 q0=>⟨H1,σ0,d,Q,ok0,r0,q0,fun σ2 σD2 l2 ok2 f2 q2=>⟨rfl,l2,f2,σD2,ok2,q2⟩⟩)
   (fun v σ' H' Q Q' m ⟨a,b,c,d,e1,e2,e3,e4⟩=>⟨a,b,c,d,e1,e2,e3,fun σ2 σD2 l o f q=>m _ _ (e4 σ2 σD2 l o f q)⟩) his hn q1.2
  obtain⟨W,w0,turn⟩:=z
  refine⟨W,w0,fun i m σ' H' w=>?_⟩
  rcases turn i m σ' H' w with⟨st,aa,vs,xs,e,sm,n,e2,r,qd⟩ | h
  ·exact .inl ⟨st,aa,vs,xs,by rw [e],s1.trans sm,s1.free n,e2,r,qd⟩
  ·exact .inr h
 ·cases f with
  | next=>obtain⟨σ',H',I',a,vs,xs,rfl,sm,n,e,r,q⟩:=z;exact⟨rfl,a,H',vs,xs,I',sm,n,e,r,q⟩
  | ret u=>obtain⟨_,_,_,_,_,z⟩:=z;exact z.elim
  | brk=>obtain⟨_,_,_,z⟩:=z;exact z.elim
  | cont=>obtain⟨_,_,_,z⟩:=z;exact z.elim
theorem ds_setLC{i:Nat}{x:Str}{pos' spos:Pos}(hN:X.N.Nodup)(hi':X.N[i]?=some x)(hx:Loc X.env.scope x)(hc:X.calm=true)(L:LCok X scope cl N' capt k js)
  (hi:DIw X tg iter ti) (hg:∀ C fp s2 H2,DG (cxLC X N' scope cl C fp s2 H2) tg is g) (ht:∀ C fp s2 H2,DTs (cxLC X N' scope cl C fp s2 H2) ifs tt) (he:∀ C fp s2 H2,DE (cxLC X N' scope cl C fp s2 H2) elt te)
  (his:∀ j∈is,j<k:=by decide) (hsw:swapsWith (.ListComp elt [⟨tg,iter,ifs,0⟩] scope pos) (some (.Name x pos')) spos.line X.env=pure true:=by rfl) (hs:∀ x,foldedSetIterable iter X.env x=pure x:=by intro _;rfl) (hf:X.fn x=true\/X.env.scope.names.lookup x=some .local:=by first | exact .inl rfl | exact .inr rfl | assumption) :
  DS X (.Assign [.Name x pos'] (.ListComp elt [⟨tg,iter,ifs,0⟩] scope pos) spos) (dSet i (dFz (dLC k js ti g tt te))):=⟨fun pins s σ H H₀ σD Dn I ok q=>by
 refine thn (setLC_out hN hi' hx hc L hi hg ht he his hsw hs hf I ok q) fun f s' ⟨ef,a,H',vs,xs,I',sm,n,e,r,qd⟩=>?_
 subst ef
 obtain⟨H'',J,sm',r'⟩:=freeze I' sm n e r
 exact⟨_,H'',_,J,(ok.after sm').setV r' i,sm'.pers,qd⟩⟩
inductive RepRs(K:PySem.W.Frag):Hp->Hp->List Ret->List V->Prop
 | nil {H H':Hp} (s:Same H H'):RepRs K H H' [] []
 | val {H H1 H':Hp} {d:D} {v:V} {rs:List Ret} {vs:List V} (s:Same H H1) (r:Rep K H1 d v) (t:RepRs K H1 H' rs vs):RepRs K H H' (.val d::rs) (v::vs)
 | new {H H1 H':Hp} {xs:List D} {a:Addr} {ws:List V} {rs:List Ret} {vs:List V} (s:Same H H1) (n:H a=none) (e:H1 a=some (.lst ws)) (r:Reps K H1 xs ws) (t:RepRs K H1 H' rs vs):RepRs K H H' (.new xs::rs) (.ref a::vs)
theorem RepRs.more{K:PySem.W.Frag}{H H':Hp}{rs:List Ret}{vs:List V}(h:RepRs K H H' rs vs){H2:Hp}(s2:Same H' H2):RepRs K H H2 rs vs:=by
 induction h with
 | nil s=>exact .nil (s.trans s2)
 | val s r _ ih=>exact .val s r (ih s2)
 | new s n e r _ ih=>exact .new s n e r (ih s2)
theorem RepRs.length{K:PySem.W.Frag}{H H':Hp}{rs:List Ret}{vs:List V}(h:RepRs K H H' rs vs):rs.length=vs.length:=by
 induction h with
 | nil s=>rfl
 | val s _ _ ih=>simp [ih]
 | new s _ _ _ _ ih=>simp [ih]
def Ret.w:Ret->W
 | .val d=>.val d
 | .new xs=>.own (.lst xs)
def setVs:List Nat->List V->St->St
 | i::is,v::vs,σ=>setVs is vs (σ.set i (some v))
 | _,_,σ=>σ
abbrev DTM:=DSt->(List Ret->Prop)->Prop
structure DM(X:Cx)(es:List Expr)(t:DTM):Prop where
 run:∀(pos:Pos) (pins:List (Addr×Obj)) (s:Shared) (σ:St) (H H₀:Hp) (σD:DSt) (Q:List Ret->Prop),Inv X pins σ H s->DOk X.K H₀ H σD σ->t σD Q ->
  wpAny (model X.prog X.w) X.A (spliced (backTo pos (starEach es X.env))) (fun us s'=>∃ vs H' rs,Inv X pins σ H' s'/\Vals vs us/\RepRs X.K H H' rs vs/\Q rs) X.xe s
structure DGN(X:Cx)(es:List Expr)(is:List Nat):Prop where
 pgs:PGs X es (fun vs σ H Q=>vs.length=is.length/\Q (setVs is vs σ) H)
section
variable {pins:List (Addr×Obj)}{σ:St}{H:Hp}{s:Shared}
mutual
theorem RepN.reads(I:Inv X pins σ H s):∀{d:D} {v:V} {u:Value},RepN X.K H d v->RelV v u->∃ as,Reads s.heap u d as
 | _,_,_,.non,r=>by cases r;exact⟨_,.none⟩
 | _,_,_,.bl,r=>by cases r;exact⟨_,.bool _⟩
 | _,_,_,.int,r=>by obtain⟨t,rfl⟩:=r;exact⟨_,.int _ _⟩
 | _,_,_,.str,r=>by obtain⟨t,rfl⟩:=r;exact⟨_,.str _ _⟩
 | _,_,_,.tup h q,r=>by
  cases r
  obtain⟨its,rv,⟨o,e1,e2,n,e3⟩,_⟩:=I.tuple h
  obtain⟨as,ra⟩:=RepNs.reads I q rv
  exact⟨_,.tuple e1 e2 e3 (by simpa using ra)⟩
 | _,_,_,.lst h q,r=>by
  cases r
  obtain⟨z,its,n,rv,e⟩:=h.ok I.hok
  obtain⟨as,ra⟩:=RepNs.reads I q rv
  exact⟨_,.list e rfl rfl (by simpa using ra)⟩
theorem RepNs.reads(I:Inv X pins σ H s):∀{ds:List D} {vs:List V} {us:List Value},RepNs X.K H ds vs->Vals vs us->∃ as,ReadsAll s.heap us ds as
 | _,_,_,.nil,r=>by cases r;exact⟨_,.nil⟩
 | _,_,_,.cons q t,r=>by
  cases r with
  | cons r1 r2 =>
   obtain⟨as,ra⟩:=RepN.reads I q r1
   obtain⟨bs,rb⟩:=RepNs.reads I t r2
   exact⟨_,.cons ra rb⟩
end
end
def DEndN(X:Cx)(pins:List (Addr×Obj))(σ:St)(H:Hp)(Q:D->Prop)(u:Value)(s':Shared):Prop:=∃ v H' d,Inv X pins σ H' s'/\RelV v u/\Same H H'/\RepN X.K H' d v/\Q d
structure DN(X:Cx)(e:Expr)(t:DTE):Prop where
 run:∀(pins:List (Addr×Obj)) (s:Shared) (σ:St) (H H₀:Hp) (σD:DSt) (Q:D->Prop),Inv X pins σ H s->DOk X.K H₀ H σD σ->t σD Q->wpAny (model X.prog X.w) X.A (eval e X.env) (DEndN X pins σ H Q) X.xe s
structure DAn(X:Cx)(es:List Expr)(t:DTF):Prop where
 run:∀(pos:Pos) (pins:List (Addr×Obj)) (s:Shared) (σ:St) (H H₀:Hp) (σD:DSt) (Q:List D->Prop),Inv X pins σ H s->DOk X.K H₀ H σD σ->t σD Q ->
  wpAny (model X.prog X.w) X.A (spliced (backTo pos (starEach es X.env))) (fun us s'=>∃ vs H' ds,Inv X pins σ H' s'/\Vals vs us/\Same H H'/\RepNs X.K H' ds vs/\Q ds) X.xe s
def cnN(K:PySem.W.Frag)(t:DTE):TE:=fun σ H Q=>∃ H₀ σD QD,DOk K H₀ H σD σ/\t σD QD/\∀ v H' d,Same H H'->RepN K H' d v->QD d->Q v H'
def cnAn(K:PySem.W.Frag)(t:DTF):TA:=fun σ H Q=>∃ H₀ σD QD,DOk K H₀ H σD σ/\t σD QD/\∀ vs H' ds,Same H H'->RepNs K H' ds vs->QD ds->Q vs H'
theorem DN.pe{t:DTE}(h:DN X e t):PE X e (cnN X.K t):=fun pins s σ H Q I ⟨H₀,σD,QD,ok,q,k⟩=>thn (h.run pins s σ H H₀ σD QD I ok q) fun u s' ⟨v,H',d,I',r,sm,rp,qd⟩=>⟨v,H',I',r,k v H' d sm rp qd⟩
theorem DAn.pa{t:DTF}(h:DAn X es t):PA X es (cnAn X.K t):=fun pos pins s σ H Q I ⟨H₀,σD,QD,ok,q,k⟩=>thn (h.run pos pins s σ H H₀ σD QD I ok q) fun us s' ⟨vs,H',ds,I',r,sm,rp,qd⟩=>⟨vs,H',I',r,k vs H' ds sm rp qd⟩
theorem DN.of{t:DTE}{t':TE}(h:PE X e t')(k:∀ σ H H₀ σD QD,DOk X.K H₀ H σD σ->t σD QD->t' σ H (fun v H'=>∃ d,Same H H'/\RepN X.K H' d v/\QD d)):DN X e t :=
 ⟨fun pins s σ H H₀ σD Q I ok q=>thn (h pins s σ H _ I (k σ H H₀ σD Q ok q)) fun u s' ⟨v,H',I',r,d,sm,rp,qd⟩=>⟨v,H',d,I',r,sm,rp,qd⟩⟩
def dLay(t:DTE):DTE:=fun σ Q=>t σ fun d=>d.canLay0=true/\Q d
theorem nodict{d:D}(c:d.canLay0=true):∀ kvs,d ≠ .dict kvs:=fun kvs e=>by subst e;simp [PyData.canLay0] at c
theorem DE.dn{t:DTE}(h:DE X e t):DN X e (dLay t):=⟨fun pins s σ H H₀ σD Q I ok q=>thn (h.run pins s σ H H₀ σD _ I ok q) fun u s' ⟨v,H',d,I',r,sm,rp,qd⟩=>⟨v,H',d,I',r,sm,rp.now (nodict qd.1) qd.1,qd.2⟩⟩
def dNowV(i:Nat):DTE:=fun σ Q=>match σ[i]? with
 | some (some (.val d))=>d.canLay0=true/\Q d
 | some (some (.own (.lst xs)))=>PyData.canLayAll0 xs=true/\Q (.list xs)
 | some (some (.vw xs))=>PyData.canLayAll0 xs=true/\Q (.list xs)
 | some (some (.tmp d))=>Q d
 | _=>False
theorem dn_var(i:Nat){x:Str}{pos:Pos}(hN:X.N[i]?=some x:=by rfl)(hv:Vis X.env.scope x:=by first | exact Or.inl rfl | exact Or.inr (Or.inl rfl) | exact Or.inr (Or.inr rfl))(hd:(x == ("__debug__" : Str))=false:=by decide)
  (hcd:(x == ("__classdict__" : Str))=false:=by decide):DN X (.Name x pos) (dNowV i):=by
 refine DN.of (pe_var (i:=i) hN hv hd hcd) fun σ H H₀ σD QD ok q=>?_
 unfold dNowV at q
 split at q
 ·next d e =>
  obtain⟨v,e1,r⟩:=ok.val e
  exact⟨v,e1,d,Same.refl _,r.now (nodict q.1) q.1,q.2⟩
 ·next xs e =>
  obtain⟨a,vs,e1,e2,r,_⟩:=ok.ownL e
  exact⟨.ref a,e1,.list xs,Same.refl _,.lst (.inl e2) (r.now q.1),q.2⟩
 ·next xs e =>
  obtain⟨v,e1,a,vs,rfl,e2,r⟩:=ok.vw e
  exact⟨.ref a,e1,.list xs,Same.refl _,.lst e2 (r.now q.1),q.2⟩
 ·next d e =>
  obtain⟨v,e1,r⟩:=ok.tmp e
  exact⟨v,e1,d,Same.refl _,r,q⟩
 ·exact q.elim
theorem dan_nil:DAn X [] dNil:=⟨fun pos pins s σ H H₀ σD Q I ok q=>thn (pa_nil pos pins s σ H (fun vs H'=>vs = []/\H'=H) I ⟨rfl,rfl⟩) fun us s' ⟨vs,H',I',r,e1,e2⟩=>by subst e1 e2;exact⟨[],H',[],I',r,Same.refl _,.nil,q⟩⟩
theorem dan_cons{t:DTE}{r:DTF}(ha:DN X e t)(hr:DAn X es r)(hs:starEach (e::es) X.env=(false,eval e X.env)::starEach es X.env:=by rfl):DAn X (e::es) (dCons t r):=⟨fun pos pins s σ H H₀ σD Q I ok q=>by
 refine thn (pa_cons ha.pe hr.pa hs pos pins s σ H (fun vs H'=>∃ ds,Same H H'/\RepNs X.K H' ds vs/\Q ds) I ?_) fun us s' ⟨vs,H',I',r,ds,sm,rp,qd⟩=>⟨vs,H',ds,I',r,sm,rp,qd⟩
 exact⟨H₀,σD,_,ok,q,fun v H1 d s1 r1 q1=>⟨H₀,σD,_,ok.after s1,q1,fun vs H2 ds s2 r2 q2=>⟨d::ds,s1.trans s2,.cons (r1.same s2) r2,q2⟩⟩⟩⟩
theorem RepNs.length{K:PySem.W.Frag}{H:Hp}:∀{ds:List D} {vs:List V},RepNs K H ds vs->ds.length=vs.length
 | _,_,.nil=>rfl
 | _,_,.cons _ t=>by simp [t.length]
theorem dn_lst{t:DTF}(h:DAn X es t):DN X (.List es pos) (dFz (dLst t)) :=
 DN.of (pe_lst h.pa) fun σ H H₀ σD QD ok q=>⟨H₀,σD,_,ok,q,fun vs H1 ds s1 r1 q1=>⟨by rw [<-r1.length];exact q1.1,fun p hp=>⟨.list ds,s1.trans (same_new hp _),.lst (.inl upd_same) (r1.same (same_new hp _)),q1.2⟩⟩⟩
end
section
variable {X:Cx}{tg iter e:Expr}{es:List Expr}{te:DTE}{tf:DTF}{p pos:Pos}
end
section
variable {prog:Program}{w:World}{A:Around}{E:Value->Shared->Prop}{s:Shared}
theorem zDraws{b:Bool}{it l:Addr}{items:Array Value}(hh:A.handled=none)(hne:l≠it):Draws prog w A it [it,l] items.size (fun i x=>items[i]?=some x) (fun i h=>zIt b h it l i/\zSq b h l items) where
 live:=fun i h st=>by
  obtain⟨o,e,_⟩:=st.1.own
  exact⟨o,e⟩
 frame:=fun i h h' st k=>⟨st.1.at fun o e=>k it (by simp) o e,by
  cases b
  ·obtain⟨o,e,r⟩:=(show h.IsList l items from st.2);exact(show h'.IsList l items from⟨o,k l (by simp) o e,r⟩)
  ·obtain⟨o,e,r⟩:=(show h.IsTuple l items from st.2);exact(show h'.IsTuple l items from⟨o,k l (by simp) o e,r⟩)⟩
 item:=fun i s Q E hi st hQ=>by
  refine znext_item st.1 st.2 (x:=items[i]) (by simp [hi]) fun h' hit' hs'=>?_
  refine hQ _ h' s.toks (by simp [hi]) ⟨hit',?_⟩ hs'
  cases b
  ·obtain⟨o,e,r⟩:=(show s.heap.IsList l items from st.2);exact(show h'.IsList l items from⟨o,(hs'.2 l hne).trans e,r⟩)
  ·obtain⟨o,e,r⟩:=(show s.heap.IsTuple l items from st.2);exact(show h'.IsTuple l items from⟨o,(hs'.2 l hne).trans e,r⟩)
 done:=fun s Q E st hE=>znext_end hh st.1 st.2 (by simp) hE
theorem meets_enumG(b:Bool)(l:Addr)(items:Array Value):
  Meets (Builtin.«enumerate.__new__» ⟨[.type "enumerate",.ref l],[]⟩) (fun _ R s=>zSq b s.heap l items /\
   R (.ok (.ret (.ref (s.heap.push (zOb b l)).objs.size)))
    { s with heap:=(s.heap.push (zOb b l)).push { cls:=.type "enumerate",data:=.fields #[.none,.bool false,.ref s.heap.objs.size,rawInt 0,.none,.none] } }) :=
 .of_wp fun prog w A R s h=>by
  obtain⟨hp,g,d,tk,os⟩:=s;obtain⟨hl,h⟩:=h
  have hsub:=sub_enumerate
  wp_walk
  refine wpAny_stack_any fun st=>wpAny_pure ?_
  split
  ·rename_i c _ _ _ _ _
   cases (c == Value.type "enumerate")
   ·wp_walk using ziter hl
    exact⟨_,rfl,h⟩
   ·wp_walk using ziter hl
    exact⟨_,rfl,h⟩
  ·wp_walk using ziter hl
   exact⟨_,rfl,h⟩
theorem call_enumG{b:Bool}{l:Addr}{items:Array Value}{Q:Value->Shared->Prop}(hL:zSq b s.heap l items)
  (h:∀ h',IsEnum h' (s.heap.objs.size+1) s.heap.objs.size 0 .none->zIt b h' s.heap.objs.size l 0->h'.objs.size=s.heap.objs.size+2 ->
   (∀ b o,s.heap.get? b=some o->h'.get? b=some o)->Q (.ref (s.heap.objs.size+1)) { s with heap:=h' }) :
  wpAny (model prog w) A (call (.type "enumerate") [.ref l]) Q E s:=by
 refine callType_new F.called_enumerate (by decide) (F.typeCall_enumerate_1 _) (F.newCall_enumerate_1 _) (fun obj=>F.args_object_init_2 obj _) F.entry_enumerate_new (meets_enumG b l items) ⟨hL,?_⟩
 have hz:(s.heap.push (zOb b l)).objs.size=s.heap.objs.size+1:=Heap.size_push ..
 show _/\_
 rw [hz]
 have he:IsEnum ((s.heap.push (zOb b l)).push
   { cls:=.type "enumerate",data:=.fields #[.none,.bool false,.ref s.heap.objs.size,rawInt 0,.none,.none] }) (s.heap.objs.size+1) s.heap.objs.size 0 .none:=by
  have:=Heap.get?_push_size (s.heap.push (zOb b l))
   (o:={ cls:=.type "enumerate",data:=.fields #[.none,.bool false,.ref s.heap.objs.size,rawInt 0,.none,.none] }) rfl
  rw [hz] at this;exact this
 have hi:zIt b ((s.heap.push (zOb b l)).push { cls:=.type "enumerate",data:=.fields #[.none,.bool false,.ref s.heap.objs.size,rawInt 0,.none,.none] }) s.heap.objs.size l 0:=by
  have g:((s.heap.push (zOb b l)).push { cls:=.type "enumerate",data:=.fields #[.none,.bool false,.ref s.heap.objs.size,rawInt 0,.none,.none] }).get? s.heap.objs.size=some (zOb b l):=Heap.get?_push_of_some _ (Heap.get?_push_size _ rfl)
  cases b
  ·exact⟨_,g,rfl,rfl⟩
  ·exact⟨_,g,rfl,rfl⟩
 exact⟨⟨_,he,rfl⟩,h _ he hi (by rw [Heap.size_push,hz]) fun b o x=>Heap.get?_push_of_some _ (Heap.get?_push_of_some _ x)⟩
end
def IteG(b:Bool)(K:PySem.W.Frag)(a:Addr):It :=
 ⟨fun i H=>∃ xs x,SqG b K H a xs/\xs[i]?=some x,fun i H v H'=>∃ p x,H p=none/\v=.ref p/\H'=upd H p (.tup [.int i,x])/\∀ xs,SqG b K H a xs->xs[i]?=some x,fun i H=>∃ xs,SqG b K H a xs/\xs.length<=i⟩
theorem turn_enumG{P:Program}{w:World}{K:PySem.W.Frag}{b:Bool}{elts:List Expr}{x1}{tpos:Pos}{l e it:Addr}(hne:e≠it)(hle:l≠it)(hel:e≠l):
  Turn P w K (.Tuple elts x1 tpos) (IteG b K l) [e,it] e (fun i h=>(∃ old,IsEnum h e it i old)/\zIt b h it l i) where
 mem:=by simp
 obj:=fun i h st c hb=>by
  obtain⟨⟨old,he⟩,h1⟩:=st
  simp only [List.mem_cons,List.not_mem_nil,or_false] at hb
  rcases hb with rfl | rfl
  ·exact⟨_,he,fun v q=>by cases (show Data.fields _=Data.cell v from q)⟩
  ·exact h1.own
 keep:=fun i h h' st k=>by
  obtain⟨⟨old,he⟩,h1⟩:=st
  exact⟨⟨old,k _ (by simp) _ he⟩,h1.at fun o e=>k it (by simp) o e⟩
 item:=by
  intro X hP hw hK hc i pins s σ H E I hf st hg
  subst hP hw hK
  obtain⟨xs,x,hq,hx⟩:=hg
  obtain⟨⟨old,he⟩,h1⟩:=st
  obtain⟨its,rv,p,hz⟩:=I.sqG hq
  obtain⟨u,hu,ru⟩:=rv.get hx
  have hlt:i<its.toArray.size:=by have:=(List.getElem?_eq_some_iff.mp hu).1;simpa using this
  refine wpAny_pyNext_enum_itemD (zDraws (b:=b) (A:=X.A.in1) (I.ok.hd hc) hle) he ⟨h1,p⟩ hlt hne (by simp [hne,hel]) fun u' h' tk hu' he' h1' hp' hsz hk=>⟨_,rfl,?_⟩
  have eu:u'=u:=by
   have e1:its.toArray[i]?=some u:=by simpa using hu
   rw [e1] at hu';exact(Option.some.inj hu').symm
  subst eu
  refine wpAny_letOwnedTupleGo_enum he' fun h'' he'' hsb=>?_
  have ne:s.heap.objs.size≠e:=fun q=>by have:=Heap.lt_size he;rw [<-q] at this;exact Nat.lt_irrefl _ this
  have hp2:=(hsb.2 _ ne).trans hp'
  have nb:∀ c o,s.heap.get? c=some o->c≠s.heap.objs.size:=fun c o e=>Nat.ne_of_lt (Heap.lt_size e)
  have I1:Inv X pins σ (upd H s.heap.objs.size (.tup [.int i,x])) { s with heap:=h'',toks:=tk+1 }:=by
   refine I.turnedNew (ch:=[e,it]) hf (Nat.le_refl _) (fun b u hb e=>?_) ⟨by simp [sizeLine_eq],[.int i tk,u'],.cons ⟨_,rfl⟩ (.cons ru .nil),?_⟩
   ·simp only [List.mem_cons,List.not_mem_nil,or_false,not_or] at hb
    exact(hsb.2 b hb.1).trans (hk b u hb.1 hb.2 e)
   ·exact⟨_,hp2,rfl,⟨_,rfl⟩,rfl⟩
  refine⟨.ref s.heap.objs.size,_,I1,rfl,⟨_,x,I.hok.fresh (Nat.le_refl _),rfl,rfl,fun xs' h=>by rw [I.sqG_inj h hq];exact hx⟩,⟨⟨_,he''⟩,?_⟩,fun b hb=>?_⟩
  ·exact h1'.1.at fun o e'=>(hsb.2 _ (Ne.symm hne)).trans e'
  ·rw [upd_ne]
   ·exact(hf b hb).1
   ·intro q
    subst q
    simp only [List.mem_cons,List.not_mem_nil,or_false] at hb
    obtain⟨o1,e1,_⟩:=h1.own
    rcases hb with q | q
    ·exact nb _ _ he q.symm
    ·exact nb _ _ e1 q.symm
 done:=by
  intro X hP hw hK hc i pins s σ H E I hf st hg
  subst hP hw hK
  obtain⟨xs,hq,hl⟩:=hg
  obtain⟨⟨old,he⟩,h1⟩:=st
  obtain⟨its,rv,p,hz⟩:=I.sqG hq
  have e1:=rv.length
  have hT:s.TypeIs (.ref e) "enumerate" :=⟨_,he,rfl⟩
  unfold pyNext
  refine wpAny_bind (wpAny_attempt (wpAny_callSpecial?_slot (name:=Str.ofString "__next__") hT F.slot_enumerate_next
   (wpAny_call_entry F.slot_enumerate_next hT F.entry_enumerate_next ?_ (F.args_enumerate_next_1 _))))
  show wpAny _ _ (field (.ref e) 2 >>= _) _ _ _
  refine wpAny_bind (wpAny_field he rfl (x:=.ref it) rfl ?_)
  refine wpAny_bind (znext_end (b:=b) (A:=X.A.in1) (I.ok.hd hc) h1 p (by simp;omega) fun h' x he' hx'=>?_)
  obtain⟨o,ho,hcc⟩:=hx'
  refine wpAny_bind (wpAny_isInstance (T := "StopIteration") (b:=true) ⟨o,ho,hcc⟩ isSubtype_stop ?_)
  refine wpAny_pure ⟨rfl,?_⟩
  refine I.turnedL (t':=s.toks) (ch:=[e,it]) hf fun b u hb e=>?_
  simp only [List.mem_cons,List.not_mem_nil,or_false,not_or] at hb
  exact he' b u hb.2 e
 self:=fun _ _ _ _ _ st h=>by
  obtain⟨⟨old,he⟩,h1⟩:=st
  exact wpAny_pyIter_enum he h
section
variable {X:Cx}{a:Expr}{t:DTF}{p pos:Pos}
theorem pi_enumX{elts:List Expr}{x1}{tpos:Pos}{ta:TA}(hg:Gl X "enumerate")(hm:X.mg "enumerate" = none)(ha:PA X [a] ta)(hs:starEach [a] X.env = [(false,eval a X.env)]:=by rfl):
  PI X (.Tuple elts x1 tpos) (.Call (.Name "enumerate" p) [a] [] pos) (fun σ H R=>ta σ H fun vs H1=>∃ b a,vs = [.ref a]/\(∃ xs,SqG b X.K H1 a xs)/\R (IteG b X.K a) H1):=by
 intro pins s σ H R I h
 refine Call_ (ld_blt I hg hm boot_enumerate (PyProof.Rows.callWith_type1 (thn (ha pos pins s σ H _ I h) fun us s1 ⟨vs,H1,I1,r1,q1⟩=>?_) hs rfl))
 obtain⟨b,l,e,⟨xs,hq⟩,q⟩:=q1
 subst e
 obtain⟨v1,rfl,r1'⟩:=r1.one
 cases r1'
 obtain⟨its,rv,p,hz⟩:=I1.sqG hq
 have hlt:=p.lt
 refine call_enumG p fun h' he hi hsz hk=>wpAny_pyIter_enum he ?_
 have I2:Inv X pins σ H1 { s1 with heap:=h' }:=I1.kept (t':=s1.toks) hk
 refine⟨_,[s1.heap.objs.size+1,s1.heap.objs.size],_,_,H1,rfl,I2,turn_enumG (Nat.ne_of_gt (Nat.lt_succ_self _)) (Nat.ne_of_lt hlt) (Nat.ne_of_gt (Nat.lt_succ_of_lt hlt)),⟨⟨_,he⟩,hi⟩,fun b hb=>?_,q⟩
 have hb':s1.heap.objs.size<=b:=by
  simp only [List.mem_cons,List.not_mem_nil,or_false] at hb
  rcases hb with rfl | rfl <;> omega
 exact I1.fpOk hb' (I1.hok.fresh hb')
theorem iteG_ok{K:PySem.W.Frag}{Kp:Hp->Hp->Prop}{H1:Hp}{b:Bool}{a:Addr}{xs:List D}{vs:List V}(kp:∀ H,Kp H1 H->SqG b K H a vs/\Reps K H xs vs):ItOk K Kp (IteG b K a) H1 (enumD 0 xs) where
 go:=fun H i d k e=>by
  obtain⟨hs,r⟩:=kp H k
  obtain⟨y,e1,rfl⟩:=enumD_get e
  obtain⟨v,e2,r1⟩:=r.get e1
  refine⟨⟨vs,v,hs,e2⟩,fun x H' yl=>?_⟩
  obtain⟨p,w,hp,rfl,rfl,y⟩:=yl
  have:=y vs hs
  rw [e2] at this
  cases this
  refine⟨same_new hp _,.tup (SqT.of upd_same) (.cons ?_ (.cons (r1.same (same_new hp _)) .nil))⟩
  rw [Nat.zero_add]
  exact .int
 stop:=fun H k=>by
  obtain⟨hs,r⟩:=kp H k
  exact⟨vs,hs,by rw [enumD_len,r.length];exact Nat.le_refl _⟩
def dEnumX(t:DTF):DTF:=fun σ Q=>t σ fun ds=>match ds with
 | [.list xs]=>Q (enumD 0 xs)
 | [.tuple xs]=>Q (enumD 0 xs)
 | _=>False
theorem di_enumX{elts:List Expr}{x1}{tpos:Pos}(hg:Gl X "enumerate")(hm:X.mg "enumerate" = none)(ha:DA X [a] t)(hs:starEach [a] X.env = [(false,eval a X.env)]:=by rfl):
  DI X (.Tuple elts x1 tpos) (.Call (.Name "enumerate" p) [a] [] pos) (dEnumX t) :=
 ⟨fun pins s σ H R I ⟨H₀,σD,QD,ok,q,k⟩=>pi_enumX hg hm ha.pa hs pins s σ H R I ⟨H₀,σD,_,ok,q,fun vs H1 ds s1 r1 q1=>by
  have key:∀ d xs,ds = [d]->(d=.list xs\/d=.tuple xs)->QD (enumD 0 xs)->∃ b a,vs = [.ref a]/\(∃ xs,SqG b X.K H1 a xs)/\R (IteG b X.K a) H1:=fun d xs e1 e2 q2=>by
   subst e1
   cases r1 with
   | cons r t =>
    cases t
    obtain⟨b,l,ws,rfl,kk⟩:=r.seqP e2
    exact⟨b,l,rfl,⟨ws,(kk _ (Pers.refl _)).1⟩,k _ _ _ s1 (iteG_ok fun H' pr=>kk H' pr) q2⟩
  split at q1
  ·exact key _ _ rfl (.inl rfl) q1
  ·exact key _ _ rfl (.inr rfl) q1
  ·exact q1.elim⟩⟩
end
theorem lcD_all{f:D->(Option D->Prop)->Prop}(Pv:D->D->Prop):∀{ds:List D} {Q:List D->Prop},(∀ d∈ds,∀ k:Option D->Prop,(∀ y,Pv d y->k (some y))->f d k)->(∀ ys,Paired Pv ds ys->Q ys)->lcD f ds Q
 | [],Q,_,q=>q [] .nil
 | d::ds,Q,h,q=>h d List.mem_cons_self _ fun y hy=>lcD_all Pv (fun e he=>h e (List.mem_cons_of_mem _ he)) fun ys hys=>q (y::ys) (.cons hy hys)
theorem lcD_fmT{α:Type}{f:D->(Option D->Prop)->Prop}(enc:α->D)(F:α->Option D){as:List α}{Q:List D->Prop}(h:∀ a∈as,∀ k:Option D->Prop,k (F a)->f (enc a) k)(q:Q (as.filterMap F)):lcD f (as.map enc) Q:=by
 induction as generalizing Q with
 | nil=>exact q
 | cons a as ih =>
  refine h a List.mem_cons_self _ (ih (fun e he=>h e (List.mem_cons_of_mem _ he)) ?_)
  rw [List.filterMap_cons] at q
  cases e:F a with
  | none=>rw [e] at q;exact q
  | some y=>rw [e] at q;exact q
theorem lcD_mapT{α:Type}{f:D->(Option D->Prop)->Prop}(enc:α->D)(F:α->D){as:List α}{Q:List D->Prop}(h:∀ a∈as,∀ k:Option D->Prop,k (some (F a))->f (enc a) k)(q:Q (as.map F)):lcD f (as.map enc) Q :=
 lcD_fmT enc (fun a=>some (F a)) h (by rw [List.filterMap_eq_map'];exact q)
theorem atI_zero{α:Type}(x:α)(xs:List α):atI (x::xs) 0=some x:=by
 have:=atI_nat (xs:=x::xs) (j:=0) (v:=x) rfl
 simpa using this
theorem atI_one{α:Type}(x y:α)(xs:List α):atI (x::y::xs) 1=some y:=by
 have:=atI_nat (xs:=x::y::xs) (j:=1) (v:=y) rfl
 simpa using this
theorem atI_two{α:Type}(x y z:α)(xs:List α):atI (x::y::z::xs) 2=some z:=by
 have:=atI_nat (xs:=x::y::z::xs) (j:=2) (v:=z) rfl
 simpa using this
theorem atI_three{α:Type}(x y z w:α)(xs:List α):atI (x::y::z::w::xs) 3=some w:=by
 have:=atI_nat (xs:=x::y::z::w::xs) (j:=3) (v:=w) rfl
 simpa using this
theorem sliceD_map{α:Type}(enc:α->D)(xs:List α)(lo hi:Option Int):∃ ys:List α,sliceD (xs.map enc) lo hi=ys.map enc/\(∀ y∈ys,y∈xs)/\ys.length<=xs.length:=by
 refine⟨(xs.drop (HT.sIx xs.length 0 lo)).take (HT.sIx xs.length xs.length hi-HT.sIx xs.length 0 lo),?_,fun y hy=>List.mem_of_mem_drop (List.mem_of_mem_take hy),?_⟩
 ·unfold sliceD
  rw [List.length_map,List.map_take,List.map_drop]
 ·rw [List.length_take,List.length_drop];omega
structure Sh(d:D)(n k:Nat):Prop where
 can:d.canLay0=true
 sho:d.showable=true
 dep:d.depth<=k
 len:d.shown.length<=n
theorem Sh.mono{d:D}{n k n' k':Nat}(h:Sh d n k)(h1:n<=n')(h2:k<=k'):Sh d n' k':=⟨h.can,h.sho,Nat.le_trans h.dep h2,Nat.le_trans h.len h1⟩
theorem Sh.none:Sh .none 4 0:=⟨rfl,rfl,Nat.le_refl _,Nat.le_of_ble_eq_true rfl⟩
theorem Sh.bool{b:Bool}:Sh (.bool b) 5 0:=⟨rfl,rfl,Nat.le_refl _,by cases b <;> exact Nat.le_of_ble_eq_true rfl⟩
theorem log_lt{i:Int}(h:i.natAbs<10 ^ 40):i.natAbs.log2<1920:=by
 by_cases h0:i.natAbs=0
 ·rw [h0];decide
 ·exact(Nat.log2_lt h0).mpr (Nat.lt_of_lt_of_le h (Nat.le_trans (by decide:10 ^ 40<=2 ^ 200) (Nat.pow_le_pow_right (by decide) (by decide))))
theorem Sh.int{i:Int}(h:i.natAbs<10 ^ 40):Sh (.int i) 41 0 :=
 ⟨rfl,by simp only [PyData.showable];exact decide_eq_true (log_lt h),Nat.le_refl _,by
  have:=int_text_length_le10 (a:=i) (k:=40) (by decide) h
  simp only [PyData.shown]
  show(Str.ofString (toString i)).length<=41
  rw [PySem.ofString_length]
  exact this⟩
theorem Sh.intB{i:Int}(h1 : -1000000000000000000000000000000000000000<=i)(h2:i<=1000000000000000000000000000000000000000):Sh (.int i) 41 0:=Sh.int (by omega)
theorem shAll_can:∀{xs:List D} {n k:Nat},(∀ x∈xs,Sh x n k)->PyData.canLayAll0 xs=true
 | [],_,_,_=>rfl
 | x::xs,n,k,h=>by simp only [PyData.canLayAll0,(h x List.mem_cons_self).can,shAll_can fun y hy=>h y (List.mem_cons_of_mem _ hy),Bool.and_self]
theorem shAll_sho:∀{xs:List D} {n k:Nat},(∀ x∈xs,Sh x n k)->PyData.showableAll xs=true
 | [],_,_,_=>rfl
 | x::xs,n,k,h=>by simp only [PyData.showableAll,(h x List.mem_cons_self).sho,shAll_sho fun y hy=>h y (List.mem_cons_of_mem _ hy),Bool.and_self]
theorem shAll_dep:∀{xs:List D} {n k:Nat},(∀ x∈xs,Sh x n k)->PyData.depthAll xs<=k
 | [],_,_,_=>Nat.zero_le _
 | x::xs,n,k,h=>by
  simp only [PyData.depthAll]
  exact Nat.max_le.mpr ⟨(h x List.mem_cons_self).dep,shAll_dep fun y hy=>h y (List.mem_cons_of_mem _ hy)⟩
theorem shAll_len:∀{xs:List D} {n k:Nat},(∀ x∈xs,Sh x n k)->((PyData.shownAll xs).map (·.length)).sum<=xs.length * n
 | [],_,_,_=>by simp [PyData.shownAll]
 | x::xs,n,k,h=>by
  simp only [PyData.shownAll,List.map_cons,List.sum_cons,List.length_cons]
  have h1:=(h x List.mem_cons_self).len
  have h2:=shAll_len fun y hy=>h y (List.mem_cons_of_mem _ hy)
  rw [Nat.succ_mul]
  omega
theorem shownAll_length:∀ xs:List D,(PyData.shownAll xs).length=xs.length
 | []=>rfl
 | x::xs=>by simp only [PyData.shownAll,List.length_cons,shownAll_length xs]
theorem Sh.lst{xs:List D}{n k m:Nat}(h:∀ x∈xs,Sh x n k)(hl:xs.length<=m):Sh (.list xs) (m * (n+2)+3) (k+1) where
 can:=by simpa [PyData.canLay0] using shAll_can h
 sho:=by simpa [PyData.showable] using shAll_sho h
 dep:=by simp only [PyData.depth];have:=shAll_dep h;omega
 len:=by
  simp only [PyData.shown]
  have h1:=listText_len_le (PyData.shownAll xs)
  have h2:=shAll_len h
  rw [shownAll_length] at h1
  have h3:xs.length * (n+2)<=m * (n+2):=Nat.mul_le_mul_right _ hl
  rw [Nat.mul_add] at h3
  omega
theorem Sh.tup{xs:List D}{n k m:Nat}(h:∀ x∈xs,Sh x n k)(hl:xs.length<=m):Sh (.tuple xs) (m * (n+2)+3) (k+1) where
 can:=by simpa [PyData.canLay0] using shAll_can h
 sho:=by simpa [PyData.showable] using shAll_sho h
 dep:=by simp only [PyData.depth];have:=shAll_dep h;omega
 len:=by
  simp only [PyData.shown]
  have h1:=tupleText_len_le (PyData.shownAll xs)
  have h2:=shAll_len h
  rw [shownAll_length] at h1
  have h3:xs.length * (n+2)<=m * (n+2):=Nat.mul_le_mul_right _ hl
  rw [Nat.mul_add] at h3
  omega
theorem Sh.lay{d:D}{n k:Nat}(h:Sh d n k)(hk:k<=64):Lay d:=by
 unfold Lay SeqAt.shaped
 rw [Bool.and_eq_true]
 exact⟨h.can,decide_eq_true (Nat.le_trans h.dep hk)⟩
theorem Sh.all{d:D}{n k:Nat}(h:Sh d n k)(hk:k<=64)(hn:n<=16777216):Lay d/\d.showable=true/\d.shown.length<=sizeLine:=⟨h.lay hk,h.sho,Nat.le_trans h.len (by rw [sizeLine_eq];exact hn)⟩
theorem Lay.int(i:Int):Lay (.int i):=rfl
theorem Lay.none:Lay .none:=rfl
theorem Lay.bool(b:Bool):Lay (.bool b):=rfl
theorem drawI{m:Int}{Q:Ret->Prop}(h1:0<m)(h2:m<10000000000000000000000000000000000000000000000000000000000000)(q:∀ v:Int,0<=v->v<m->Q (.val (.int v))):sp__law_draw [.pen,.val (.int m)] Q:=⟨m,rfl,h1,h2,q⟩
theorem mem_two{α:Type}{p:α->Prop}{a:α}{l:List α}(h:p a)(t:∀ y∈l,p y):∀ y∈a::l,p y:=fun y hy=>(List.mem_cons.mp hy).elim (fun e=>by rw [e];exact h) (t y)
theorem mem_no{α:Type}{p:α->Prop}:∀ y∈([]:List α),p y:=fun y hy=>by cases hy
section
variable {X:Cx}
theorem de_dic0{pos:Pos}:DE X (.Dict [] [] pos) (dC (.dict [])):=⟨fun pins s σ H H₀ σD Q I ok q=>thn (pe_dnew pins s σ H (fun v H'=>∃ p,v=.ref p/\H p=none/\H'=upd H p (.dK [])) I (fun p hp=>⟨p,rfl,hp,rfl⟩)) fun u s' ⟨v,H',I',r,p,e1,hp,e2⟩=>by
 subst e1 e2
 obtain⟨o,J⟩:=I'.frzK (vs:=[]) upd_same
 exact⟨.ref p,_,.dict [],J,r,fun b z hb=>by rw [upd_ne (ne_of_none hb hp),upd_ne (ne_of_none hb hp)];exact hb,.dic upd_same .nil,q⟩⟩
end
section
variable {X:Cx}
end
end L2
set_option maxHeartbeats 4000000
namespace PySem
section
variable {prog:Program}{w:World}{A:Around}{R:Result->Shared->Prop}{I:Addr}{fp wr:List Addr}{n:Nat}{P:Nat->Value->Prop}{St:Nat->Heap->Prop}
end
section
variable {prog:Program}{w:World}{A:Around}{E:Value->Shared->Prop}{s:Shared}{l:Addr}{its:Array Value}{d:Value}
end
section
variable {prog:Program}{w:World}{A:Around}{R:Result->Shared->Prop}{I:Addr}{fp wr:List Addr}{n:Nat}{P:Nat->Value->Prop}{St:Nat->Heap->Prop}
end
section
variable {prog:Program}{w:World}{A:Around}{E:Value->Shared->Prop}{s:Shared}{l:Addr}{its:Array Value}{d:Value}
end
end PySem
namespace L2
open PySem PySem.Spec PyProof.Rows
section
variable {X:Cx}{a d e:Expr}{ta:DTF}{td te:DTE}{p pos kp:Pos}
end
theorem sliceD_from(xs:List D){n:Int}(h:0<=n):sliceD xs (some n) none=xs.drop n.toNat:=by
 obtain⟨k,rfl⟩:∃ k:Nat,n=k:=⟨n.toNat,by omega⟩
 unfold sliceD
 rw [HT.sIx_none,HT.sIx_nat,Int.toNat_natCast]
 by_cases c:k<=xs.length
 ·rw [Nat.min_eq_left c,List.take_of_length_le (by rw [List.length_drop];omega)]
 ·rw [Nat.min_eq_right (by omega),List.drop_eq_nil_of_le (by omega:xs.length<=k),List.drop_eq_nil_of_le (Nat.le_refl _),List.take_nil]
theorem Lay.list{xs:List D}(h:∀ x∈xs,Lay x/\x.depth<=63):Lay (.list xs):=by
 unfold Lay SeqAt.shaped
 rw [Bool.and_eq_true]
 have h1:PyData.canLayAll0 xs=true:=by
  induction xs with
  | nil=>rfl
  | cons x xs ih =>
   simp only [PyData.canLayAll0,Bool.and_eq_true]
   exact⟨(h x List.mem_cons_self).1.can,ih fun y hy=>h y (List.mem_cons_of_mem _ hy)⟩
 have h2:PyData.depthAll xs<=63:=by
  clear h1
  induction xs with
  | nil=>simp [PyData.depthAll]
  | cons x xs ih =>
   simp only [PyData.depthAll]
   have:=(h x List.mem_cons_self).2
   have:=ih fun y hy=>h y (List.mem_cons_of_mem _ hy)
   omega
 refine⟨by simpa [PyData.canLay0] using h1,decide_eq_true ?_⟩
 simp only [PyData.depth]
 omega
theorem forD_all{g:DTG}{tb:DTS}{Dn:DEnds}{ds:List D}{σ:DSt}(S:DSt->Prop)(h0:S σ)(hs:∀ d∈ds,∀ σ (N:DSt->Prop),S σ->(∀ σ',S σ'->N σ')->g d σ fun σ2=>tb { Dn with nx:=N,ct:=N,bk:=Dn.nx } σ2)(hd:∀ σ,S σ->Dn.nx σ):forD g tb Dn ds σ:=by
 refine forD_suf (fun ds' σ=>(∀ d∈ds',d∈ds)/\S σ) ?_ (fun σ h=>hd σ h.2) ⟨fun _ h=>h,h0⟩
 rintro d ds' σ N ⟨h1,h2⟩ k
 exact hs d (h1 d List.mem_cons_self) σ N h2 fun σ' h'=>k σ' ⟨fun x hx=>h1 x (List.mem_cons_of_mem _ hx),h'⟩
def gReprA:D->(D->Prop)->Prop
 | .bool b,Q=>Q (.str (if b=true then "True" else "False"))
 | d,Q=>Lay d/\d.showable=true/\d.shown.length<=sizeLine/\Q (.str d.shown)
def dReprA(t:DTF):DTE:=fun σ Q=>t σ fun ds=>match ds with
 | [d]=>gReprA d Q
 | _=>False
section
variable {X:Cx}{e:Expr}{p pos:Pos}
theorem de_reprA{k:Nat}{t:DTF}(hr:Room k X.A)(hg:Gl X "repr")(hm:X.mg "repr" = none)(hv:bootBuiltins "repr" = some (.builtin "repr"))(ha:DAn X [e] t)(he:starEach [e] X.env=(false,eval e X.env)::starEach [] X.env:=by rfl):DE X (.Call (.Name "repr" p) [e] [] pos) (dReprA t):=by
 have hc:CallR X (.builtin "repr") (fun vs H Q=>∃ d v,vs = [v]/\RepN X.K H d v/\gReprA d fun r=>∃ x,r=.str x/\∀ H',H'=H->Q (.str x) H'):=fun pins s σ H xs us Q I rv ⟨d,v,e,r,q⟩=>by
  subst e
  obtain⟨u,rfl,r1⟩:=rv.one
  have gen:Lay d->d.showable=true->d.shown.length<=sizeLine->Q (.str d.shown) H->(∃ a,u=.ref a)->wpAny (model X.prog X.w) X.A (call (.builtin "repr") [u]) (EP X pins σ Q) X.xe s:=fun h1 h2 h3 h4 ⟨a,ea⟩=>by
   subst ea
   obtain⟨as,rd⟩:=r.reads I r1
   have hu:=hr.un
   have hd:=h1.deep
   refine repr_of_reads' rd h2 (PyData.noDict_hsm ?_) hr.gd (by omega) (fun _ _ e=>e) (fun h' u tk hk=>⟨.str d.shown,H,I.kept hk,⟨_,rfl⟩,h4⟩) h3
   exact PyData.hasDict_of_canLay _ h1.can
  cases r with
  | bl =>
   cases r1
   obtain⟨x,e,q⟩:=q
   cases e
   exact PySem.P.repr_of_bool ⟨.str _,H,I.tok _,⟨_,rfl⟩,q H rfl⟩
  | non =>
   cases r1
   obtain⟨_,_,_,x,e,q⟩:=q
   cases e
   exact PySem.P.repr_of_none ⟨.str _,H,I.tok _,⟨_,rfl⟩,q H rfl⟩
  | int =>
   obtain⟨t,rfl⟩:=r1
   obtain⟨_,h2,_,x,e,q⟩:=q
   cases e
   exact PySem.P.repr_of_int (of_decide_eq_true (by simpa [PyData.showable] using h2)) ⟨.str _,H,I.tok _,⟨_,rfl⟩,q H rfl⟩
  | str =>
   obtain⟨t,rfl⟩:=r1
   obtain⟨_,_,h3,x,e,q⟩:=q
   cases e
   exact PySem.P.repr_of_str ⟨.str _,H,I.tok _,⟨_,rfl⟩,q H rfl⟩ h3
  | tup h r =>
   obtain⟨h1,h2,h3,x,e,q⟩:=q
   cases e
   exact gen h1 h2 h3 (q H rfl) ⟨_,by cases r1;rfl⟩
  | lst h r =>
   obtain⟨h1,h2,h3,x,e,q⟩:=q
   cases e
   exact gen h1 h2 h3 (q H rfl) ⟨_,by cases r1;rfl⟩
 refine DE.of (pe_callB hc hg hm hv ha.pa (by decide) (by decide) he rfl) fun σ H H₀ σD QD ok q=>⟨H₀,σD,_,ok,q,fun vs H1 ds s1 r1 q1=>?_⟩
 match ds,r1,q1 with
 | [d],r1,q1 =>
  cases r1 with
  | cons r t =>
   cases t
   refine⟨d,_,rfl,r,?_⟩
   cases d with
   | bool b=>exact⟨_,rfl,fun H' e=>⟨_,by subst e;exact s1,.str,q1⟩⟩
   | _=>exact⟨q1.1,q1.2.1,q1.2.2.1,_,rfl,fun H' e=>⟨_,by subst e;exact s1,.str,q1.2.2.2⟩⟩
end
end L2
namespace SQ
open PySem PyProof.Rows
set_option autoImplicit false
section
variable (prog:Program)(w:World)(A:Around)(s:Shared)(κ:KeyKind)(kd:SortKind)
end
structure SG(kd:SortKind)(a₀:Array Keyed)(st:SortSt):Prop where
 perm:(arrOf st).Perm a₀
 kind:kindOf st=kd
 fail:failedOf st=none
structure Mv(lo hi:Nat)(st st':SortSt):Prop where
 out:∀ k,(k<lo\/hi<=k)->(arrOf st')[k]?=(arrOf st)[k]?
 pend:pendingOf st'=pendingOf st
theorem Mv.refl(lo hi:Nat)(st:SortSt):Mv lo hi st st:=⟨fun _ _=>rfl,rfl⟩
theorem Mv.trans{lo hi:Nat}{a b c:SortSt}(h1:Mv lo hi a b)(h2:Mv lo hi b c):Mv lo hi a c:=⟨fun k hk=>(h2.out k hk).trans (h1.out k hk),h2.pend.trans h1.pend⟩
theorem Mv.mono{lo hi lo' hi':Nat}{a b:SortSt}(h:Mv lo hi a b)(h1:lo'<=lo)(h2:hi<=hi'):Mv lo' hi' a b:=⟨fun k hk=>h.out k (by omega),h.pend⟩
abbrev Up(κ:KeyKind)(xs:Array Keyed)(lo n:Nat):Prop:=∀ i j,lo<=i->i<=j->j<lo+n->κ.kle (KK κ xs i) (KK κ xs j)
abbrev Dn(κ:KeyKind)(xs:Array Keyed)(lo n:Nat):Prop:=∀ i j,lo<=i->i<=j->j<lo+n->κ.kle (KK κ xs j) (KK κ xs i)
section
variable {prog:Program}{w:World}{A:Around}{E:Value->Shared->Prop}{s:Shared}{κ:KeyKind}{kd:SortKind}{a₀:Array Keyed}
end
end SQ
namespace SQ
open PySem PyProof.Rows
set_option autoImplicit false
section
variable {prog:Program}{w:World}{A:Around}{E:Value->Shared->Prop}{s:Shared}{κ:KeyKind}{kd:SortKind}{a₀:Array Keyed}
theorem Up.next{xs:Array Keyed}{lo n:Nat}(h:Up κ xs lo n)(h1:1<=n)(c:κ.blt (KK κ xs (lo+n)) (KK κ xs (lo+n-1))=false):Up κ xs lo (n+1):=fun i j a b d=>by
 by_cases e:j<lo+n
 ·exact h i j a b e
 ·have ej:j=lo+n:=by omega
  subst ej
  by_cases e2:i=lo+n
  ·subst e2;exact KeyOrd.kle_refl _
  ·exact KeyOrd.kle_trans (h i (lo+n-1) a (by omega) (by omega)) c
theorem Dn.next{xs:Array Keyed}{lo n:Nat}(h:Dn κ xs lo n)(h1:1<=n)(c:κ.kle (KK κ xs (lo+n)) (KK κ xs (lo+n-1))):Dn κ xs lo (n+1):=fun i j a b d=>by
 by_cases e:j<lo+n
 ·exact h i j a b e
 ·have ej:j=lo+n:=by omega
  subst ej
  by_cases e2:i=lo+n
  ·subst e2;exact KeyOrd.kle_refl _
  ·exact KeyOrd.kle_trans c (h i (lo+n-1) a (by omega) (by omega))
end
end SQ
namespace SQ
open PySem PyProof.Rows
set_option autoImplicit false
section
variable {prog:Program}{w:World}{A:Around}{E:Value->Shared->Prop}{s:Shared}{κ:KeyKind}{kd:SortKind}
end
end SQ
namespace SQ
open PySem PyProof.Rows
set_option autoImplicit false
def kk(κ:KeyKind)(p:Keyed):κ.α:=(κ.keyOf p.1).getD κ.dflt
def le(κ:KeyKind)(x y:Keyed):Prop:=κ.kle (kk κ x) (kk κ y)
theorem le_refl{κ:KeyKind}(x:Keyed):le κ x x:=KeyOrd.kle_refl _
def AllK(κ:KeyKind)(xs:Array Keyed):Prop:=∀ p∈xs.toList,κ.keyOf p.1=some (kk κ p)
abbrev Srt(κ:KeyKind)(xs:Array Keyed):Prop:=xs.toList.Pairwise (le κ)
theorem Srt.at{κ:KeyKind}{xs:Array Keyed}(h:Srt κ xs){i j:Nat}{p r:Keyed}(hij:i<=j)(e1:xs[i]?=some p)(e2:xs[j]?=some r):le κ p r:=by
 obtain⟨l1,rfl⟩:=Array.getElem?_eq_some_iff.mp e1
 obtain⟨l2,rfl⟩:=Array.getElem?_eq_some_iff.mp e2
 by_cases c:i=j
 ·subst c;exact le_refl _
 ·have:=List.pairwise_iff_getElem.mp h i j (by simpa using l1) (by simpa using l2) (by omega)
  simpa using this
structure MI(κ:KeyKind)(a b out:Array Keyed)(ia ib:Nat):Prop where
 perm:out.toList.Perm (a.toList.take ia++b.toList.take ib)
 sort:out.toList.Pairwise (le κ)
 la:∀ x∈out.toList,∀ y∈a.toList.drop ia,le κ x y
 lb:∀ x∈out.toList,∀ y∈b.toList.drop ib,le κ x y
theorem drop_next{α:Type}{xs:List α}{i:Nat}{p:α}(e:xs[i]?=some p):xs.drop i=p::xs.drop (i+1):=by
 obtain⟨l,rfl⟩:=List.getElem?_eq_some_iff.mp e
 exact List.drop_eq_getElem_cons l
section
variable {κ:KeyKind}{a b out:Array Keyed}{ia ib:Nat}
theorem tl_at{xs:Array Keyed}{i:Nat}{p:Keyed}(e:xs[i]?=some p):xs.toList[i]?=some p:=by simpa using e
theorem Srt.rest{xs:Array Keyed}(h:Srt κ xs){i:Nat}{p:Keyed}(e:xs[i]?=some p):∀ y∈xs.toList.drop i,le κ p y:=by
 have h2:=h.drop (i:=i)
 rw [drop_next (tl_at e)] at h2 ⊢
 intro y hy
 rcases List.mem_cons.mp hy with rfl | hy
 ·exact le_refl _
 ·exact(List.pairwise_cons.mp h2).1 y hy
def Mg(κ:KeyKind)(a b r:Array Keyed):Prop:=r.toList.Perm (a.toList++b.toList)/\r.toList.Pairwise (le κ)
end
structure Gm(st st':SortSt):Prop where
 k:kindOf st'=kindOf st
 a:arrOf st'=arrOf st
 p:pendingOf st'=pendingOf st
 f:failedOf st'=failedOf st
theorem Gm.refl(st:SortSt):Gm st st:=⟨rfl,rfl,rfl,rfl⟩
theorem Gm.trans{x y z:SortSt}(h:Gm x y)(g:Gm y z):Gm x z:=⟨g.k.trans h.k,g.a.trans h.a,g.p.trans h.p,g.f.trans h.f⟩
section
variable {prog:Program}{w:World}{A:Around}{E:Value->Shared->Prop}{s:Shared}{κ:KeyKind}{kd:SortKind}
end
end SQ
namespace SQ
open PySem PyProof.Rows
set_option autoImplicit false
section
variable {prog:Program}{w:World}{A:Around}{E:Value->Shared->Prop}{s:Shared}{κ:KeyKind}{kd:SortKind}
end
end SQ
namespace SQ
open PySem PyProof.Rows
set_option autoImplicit false
structure MH(κ:KeyKind)(a b out:Array Keyed)(na nb:Nat):Prop where
 perm:out.toList.reverse.Perm (a.toList.drop na++b.toList.drop nb)
 sort:out.toList.reverse.Pairwise (le κ)
 la:∀ x∈a.toList.take na,∀ y∈out.toList.reverse,le κ x y
 lb:∀ x∈b.toList.take nb,∀ y∈out.toList.reverse,le κ x y
section
variable {κ:KeyKind}{a b out:Array Keyed}{na nb:Nat}
theorem ext_take(xs:Array Keyed)(n:Nat):(xs.extract 0 n).toList=xs.toList.take n:=by
 rw [Array.toList_extract,List.extract_eq_take_drop,List.drop_zero,Nat.sub_zero]
theorem perm_lo{α:Type}{o x y u v:List α}(h:o.Perm (x++y)):(u++v++o).Perm ((u++x)++(v++y)):=by
 refine(List.Perm.append_left _ h).trans ?_
 rw [List.append_assoc,List.append_assoc u x]
 refine List.Perm.append_left u ?_
 rw [<-List.append_assoc,<-List.append_assoc]
 exact List.Perm.append_right y List.perm_append_comm
theorem MH.first(m:MH κ a b out na nb)(sa:Srt κ a)(sb:Srt κ b)(h:∀ x∈b.toList.take nb,∀ y∈a.toList,le κ x y):Mg κ a b (b.extract 0 nb++a.extract 0 na++out.reverse):=by
 refine⟨?_,?_⟩
 ·rw [Array.toList_append,Array.toList_append,ext_take,ext_take,Array.toList_reverse]
  have:=perm_lo (u:=b.toList.take nb) (v:=a.toList.take na) (m.perm.trans List.perm_append_comm)
  rw [List.take_append_drop,List.take_append_drop] at this
  exact this.trans List.perm_append_comm
 ·rw [Array.toList_append,Array.toList_append,ext_take,ext_take,Array.toList_reverse]
  refine List.pairwise_append.mpr ⟨List.pairwise_append.mpr ⟨sb.take,sa.take,fun x hx y hy=>h x hx y (List.mem_of_mem_take hy)⟩,m.sort,fun x hx y hy=>?_⟩
  rcases List.mem_append.mp hx with hx | hx
  ·exact m.lb x hx y hy
  ·exact m.la x hx y hy
end
section
variable {prog:Program}{w:World}{A:Around}{E:Value->Shared->Prop}{s:Shared}{κ:KeyKind}{kd:SortKind}
end
end SQ
namespace SQ
open PySem PyProof.Rows
set_option autoImplicit false
section
variable {prog:Program}{w:World}{A:Around}{E:Value->Shared->Prop}{s:Shared}{κ:KeyKind}{kd:SortKind}{a₀:Array Keyed}
theorem AllK.of{xs:Array Keyed}(h:∀ p∈xs.toList,∃ a,κ.keyOf p.1=some a):AllK κ xs:=fun p hp=>by
 obtain⟨a,e⟩:=h p hp
 unfold kk
 rw [e]
 rfl
end
end SQ
namespace SQ
open PySem PyProof.Rows
set_option autoImplicit false
section
variable {prog:Program}{w:World}{A:Around}{E:Value->Shared->Prop}{s:Shared}{κ:KeyKind}{kd:SortKind}{a₀:Array Keyed}
end
end SQ
namespace SQ
open PySem PyProof.Rows
set_option autoImplicit false
def Cov(κ:KeyKind)(xs:Array Keyed):Nat->List (Nat×Nat×Nat)->Nat->Prop
 | at_,[],hi=>at_=hi
 | at_,(b,n,_)::r,hi=>b=at_/\1<=n/\Up κ xs at_ n/\Cov κ xs (at_+n) r hi
section
variable {κ:KeyKind}
theorem Cov.le{xs:Array Keyed}:∀{l:List (Nat×Nat×Nat)} {at_ hi:Nat},Cov κ xs at_ l hi->at_+l.length<=hi
 | [],at_,hi,h=>by have:at_=hi:=h;simp;omega
 | (b,n,p)::r,at_,hi,h=>by
  obtain⟨_,h1,_,h2⟩:=h
  have:=h2.le
  simp only [List.length_cons];omega
end
section
variable {prog:Program}{w:World}{A:Around}{E:Value->Shared->Prop}{s:Shared}{κ:KeyKind}{kd:SortKind}{a₀:Array Keyed}
end
end SQ
namespace SQ
open PySem PyProof.Rows
set_option autoImplicit false
section
variable {prog:Program}{w:World}{A:Around}{E:Value->Shared->Prop}{s:Shared}
end
end SQ
namespace SQ
open PySem PyProof.Rows
set_option autoImplicit false
@[reducible] def intK:KeyKind where
 α:=Int
 blt a b:=decide (a<b)
 irrefl a:=by simp
 trans a b c h1 h2:=by simp only [decide_eq_true_eq] at *;omega
 negTrans a b c h:=by simp only [decide_eq_true_eq] at *;omega
 total a b h1 h2:=by simp only [decide_eq_false_iff_not] at *;omega
 keyOf v:=match v with | .int i _=>some i | _=>none
 dflt:=0
def RefIs(h:Heap)(v:Value)(is:List Int):Prop:=∃ a its,v=.ref a/\IsTup h a its/\IntsAre its.toList is
theorem RefIs.keep{h h':Heap}{v:Value}{is:List Int}(k:∀ b o,h.get? b=some o->h'.get? b=some o)(x:RefIs h v is):RefIs h' v is:=by
 obtain⟨a,its,e,t,i⟩:=x
 exact⟨a,its,e,t.keeps k,i⟩
open Classical in
noncomputable def refKey (h:Heap) (v:Value):Option (List Int):=if x:∃ is,RefIs h v is then some x.choose else none
@[reducible] noncomputable def tupK (h:Heap):KeyKind where
 α:=List Int
 blt a b:=decide (a<b)
 irrefl a:=by simpa using List.lt_irrefl a
 trans a b c h1 h2:=by simp only [decide_eq_true_eq] at *;exact List.lt_trans h1 h2
 negTrans a b c h:=by
  simp only [decide_eq_true_eq] at *
  by_cases c:a<b
  ·exact .inl c
  ·exact .inr (List.lt_of_le_of_lt (List.not_lt.mp c) h)
 total a b h1 h2:=by simp only [decide_eq_false_iff_not] at *;exact List.le_antisymm (List.not_lt.mp h2) (List.not_lt.mp h1)
 keyOf v:=refKey h v
 dflt:=[]
section
variable {prog:Program}{w:World}{A:Around}{E:Value->Shared->Prop}{s:Shared}
end
end SQ
namespace SQ
open PySem PyProof.Rows
set_option autoImplicit false
inductive All2{α β:Type}(R:α->β->Prop):List α->List β->Prop
 | nil:All2 R [] []
 | cons {a:α} {b:β} {as:List α} {bs:List β} (h:R a b) (t:All2 R as bs):All2 R (a::as) (b::bs)
theorem All2.len{α β:Type}{R:α->β->Prop}{as:List α}{bs:List β}(h:All2 R as bs):as.length=bs.length:=by
 induction h with
 | nil=>rfl
 | cons _ _ ih=>simp [ih]
section
variable {prog:Program}{w:World}{A:Around}{E:Value->Shared->Prop}{s:Shared}
end
end SQ
namespace L2
open PySem PySem.Spec PyProof.Rows SQ
def tD(is:List Int):D:=.tuple (is.map PyData.int)
section
variable {X:Cx}
end
end L2
namespace L2
open PySem PySem.Spec PyProof.Rows
namespace RV
theorem own1:Manifest.owners.lookup (String.ofList ['d','e','s','r','e','v','e','r'].reverse)=some Manifest.sig_reversed:=by kernel_rfl
theorem sNext:Slot "reversed" "__next__" "reversed.__next__" := .of (owner := "reversed") (n := "__next__") (by rw [typeLookup_type,builtinLookup_eq_fast];kernel_rfl) (by decide +kernel) (by decide +kernel) (by decide +kernel) (by first | exact .inl (by decide +kernel) | exact .inr (by decide +kernel)) (by rw [isSubtype_type];kernel_rfl)
theorem sIter:Slot "reversed" "__iter__" "reversed.__iter__" := .of (owner := "reversed") (n := "__iter__") (by rw [typeLookup_type,builtinLookup_eq_fast];kernel_rfl) (by decide +kernel) (by decide +kernel) (by decide +kernel) (by first | exact .inl (by decide +kernel) | exact .inr (by decide +kernel)) (by rw [isSubtype_type];kernel_rfl)
theorem aIter(a:Value):argsOk "reversed.__iter__" ⟨[a],[]⟩:=by
 unfold argsOk;rw [signature?_of (id := "reversed.__iter__") (n:=['_','_','r','e','t','i','_','_']) (o:=['d','e','s','r','e','v','e','r']) (by kernel_rfl) own1];kernel_rfl
theorem eIter:entryFor table "reversed.__iter__" = some Builtin.«dict_keyiterator.__iter__»:=entryFor_alias (id' := "dict_keyiterator.__iter__") (by kernel_rfl) (by first | rfl | decide +kernel | (unfold String.splitOn;simp +decide [String.splitOnAux])) (by decide +kernel) (by kernel_rfl)
end RV
namespace RV
def ob(l:Addr)(i:Int):Obj:={ cls:=.type "reversed",data:=.fields #[.ref l,rawInt i] }
def Is(h:Heap)(a l:Addr)(i:Int):Prop:=∃ o,h.get? a=some o/\o.cls=.type "reversed" /\ o.data=.fields #[.ref l,rawInt i]
theorem Is.typeIs{s:Shared}{a l:Addr}{i:Int}(x:Is s.heap a l i):s.TypeIs (.ref a) "reversed" := let ⟨o,ho,hc,_⟩:=x;⟨o,ho,hc⟩
theorem Is.at{h h':Heap}{a l:Addr}{i:Int}(x:Is h a l i)(e:∀ o,h.get? a=some o->h'.get? a=some o):Is h' a l i:=let ⟨o,ho,r⟩:=x;⟨o,e _ ho,r⟩
section
variable {prog:Program}{w:World}{A:Around}{E:Value->Shared->Prop}{s:Shared}
theorem iter{it l:Addr}{i:Int}{Q:Value->Shared->Prop}(hit:Is s.heap it l i)(h:Q (.ref it) s):wpAny (model prog w) A (pyIter (.ref it)) Q E s:=by
 refine wpAny_pyIter_slot hit.typeIs sIter (wpAny_call_entry sIter hit.typeIs eIter ?_ (aIter _))
 show wpAny _ _ (ret (.ref it)) _ _ s
 exact wpAny_pure ⟨_,rfl, "reversed",_,hit.typeIs,sNext.lookup,h⟩
end
end RV
section
variable {X:Cx}{tg a:Expr}{t:DTF}{p pos:Pos}
end
section
variable {X:Cx}{a:Expr}{p pos p2 pos2:Pos}
end
def zObj(TI TO:Addr)(old fl:Value):Obj:={ cls:=.type "zip",dict:=none,data:=.fields #[old,fl,.bool false,.ref TI,.ref TO],slots:=#[] }
def IsZ(h:Heap)(z TI TO:Addr)(old fl:Value):Prop:=h.get? z=some (zObj TI TO old fl)
def OldZ(old:Value):Prop:=old=.none\/∃ p:Addr,old=rawInt p
section
variable {prog:Program}{w:World}{A:Around}{E:Value->Shared->Prop}{s:Shared}
end
def ZSt(b1 b2:Bool)(z TI TO i1 i2 l1 l2:Addr)(k:Nat)(h:Heap):Prop:=∃ old fl a b,IsZ h z TI TO old fl/\OldZ old/\IsPair h TI (.ref i1) (.ref i2)/\IsPair h TO a b/\zIt b1 h i1 l1 k/\zIt b2 h i2 l2 k
theorem ZSt.keep{b1 b2:Bool}{z TI TO i1 i2 l1 l2:Addr}{k:Nat}{h h':Heap}(st:ZSt b1 b2 z TI TO i1 i2 l1 l2 k h)(kp:∀ b ∈ [z,TI,TO,i1,i2],∀ o,h.get? b=some o->h'.get? b=some o):ZSt b1 b2 z TI TO i1 i2 l1 l2 k h':=by
 obtain⟨old,fl,a,b,hz,ho,hI,hO,h1,h2⟩:=st
 exact⟨old,fl,a,b,kp _ (by simp) _ hz,ho,kp _ (by simp) _ hI,kp _ (by simp) _ hO,h1.at fun o e=>kp i1 (by simp) o e,h2.at fun o e=>kp i2 (by simp) o e⟩
section
variable {prog:Program}{w:World}{A:Around}{E:Value->Shared->Prop}{s:Shared}
end
section
variable {prog:Program}{w:World}{A:Around}{E:Value->Shared->Prop}{s:Shared}
end
section
variable {X:Cx}{a b:Expr}{p pos p2 pos2:Pos}{elts:List Expr}{tpos:Pos}
end
section
variable {X:Cx}
variable {o e:Expr}{to te:DTE}{apos cpos:Pos}
end
section
variable {X:Cx}{e:Expr}{tf:DTF}{pos:Pos}
end
section
variable (P:Program)(w:World)
end
section
variable {P:Program}{w:World}{H H':Hp}{h h':Heap}{a:Addr}{o:HO}
end
section
variable {P:Program}{w:World}{H:Hp}{h h':Heap}{x e:Addr}{o':HO}
end
section
variable {fs fs' ex ex':List Addr}{H H1 H2:Hp}{h h1 h2 h':Heap}{a x e:Addr}{o:HO}
end
section
variable {X:Cx}{pins:List (Addr×Obj)}{σ:List (Option V)}{H H':Hp}{s:Shared}{h':Heap}
end
section
variable {X:Cx}
variable {a b:Expr}{ta tb:TE}{pos:Pos}
variable {tA tB':TT}{rest:List Expr}
end
section
variable {X:Cx}{pins:List (Addr×Obj)}{σ:St}{H:Hp}{s:Shared}{a:Addr}{xs ys:List V}
end
section
variable {X:Cx}{pins:List (Addr×Obj)}{σ:St}{H:Hp}{s:Shared}{E:Value->Shared->Prop}
end
section
variable {X:Cx}{st:Stmt}{rest:List Stmt}{t u:TS}{e:Expr}{te:TE}{pos:Pos}
end
section
variable {X:Cx}{pos:Pos}
end
section
variable {X:Cx}{pos:Pos}
end
section
variable {X:Cx}{tg:Expr}
end
section
variable {X:Cx}{a b c:Expr}{ta tb tc:TE}{pos:Pos}
end
section
variable {X:Cx}{a b c:Expr}{ta tb tc:TE}{pos:Pos}
end
section
variable {prog:Program}{w:World}{A:Around}{E:Value->Shared->Prop}{s:Shared}{K:PySem.W.Frag}{x dx C f:Addr}{mA:Str->Option Value}{name:Str}{v:Value}
end
section
variable {P:Program}{w:World}{H H':Hp}{h h':Heap}{a C dx:Addr}{fs fs':List (Str×V)}
end
section
variable {X:Cx}{pins:List (Addr×Obj)}{σ:St}{H:Hp}{s:Shared}{a C dx:Addr}{fs:List (Str×V)}{f:Str}{v:V}{A:Around}{E:Value->Shared->Prop}
end
section
variable {X:Cx}{o e value:Expr}{f:Str}{pos pos' tpos:Pos}{ta tv:TE}
end
section
variable {X:Cx}{pins:List (Addr×Obj)}{σ:St}{H:Hp}{s:Shared}{A:Around}{E:Value->Shared->Prop}{Q:Value->Shared->Prop}{c:Value}{b:Bool}
end
section
variable {X:Cx}{e:Expr}{es:List Expr}{te:TE}{t:TA}{pos:Pos}
end
section
variable {X:Cx}{pins:List (Addr×Obj)}{σ:St}{H:Hp}{s s':Shared}
end
section
variable {X:Cx}{CX:CXT}{k:Nat}{f C:Addr}{fd:FuncData}{ps:List Str}{sp:Sp}{dvs:List V}{ds:List Value}{E:XK}{x m:Str}{p pos apos:Pos}{e o:Expr}{es:List Expr}{ta:TE}{t:TA}
end
section
variable {X:Cx}{CX:CXT}{k:Nat}{f C:Addr}{fd:FuncData}{ps ks:List Str}{sp:Sp}{E:XK}{x m:Str}{p pos apos kpos:Pos}{e o:Expr}{es:List Expr}{kws:List Keyword}{te ta:TE}{t tk:TA}{nm:Option Str}
variable {g:List Value->List Value->List Value}{gV:List V->List V->List V}
end
section
variable {X:Cx}{x:Str}{p pos:Pos}{e:Expr}{es:List Expr}{t:TA}{id T:String}{r:List V->Hp->VK->Prop}
end
section
variable {κ:Type}[DecidableEq κ]
def valV(kvs:List (κ×V))(k:κ):Option V:=(kvs.find? fun kv=>decide (kv.1=k)).map (·.2)
def putK(kvs:List (κ×V))(k:κ)(v:V):List (κ×V) :=
 if (kvs.any fun kv=>decide (kv.1=k))=true then kvs.map (fun kv=>if kv.1=k then (kv.1,v) else kv) else kvs ++ [(k,v)]
def dropK(kvs:List (κ×V))(k:κ):List (κ×V):=kvs.filter fun kv=>decide (kv.1≠k)
theorem valV_pos{p:κ×V}{r:List (κ×V)}{k:κ}(e:p.1=k):valV (p::r) k=some p.2:=by simp [valV,List.find?_cons,e]
theorem valV_neg{p:κ×V}{r:List (κ×V)}{k:κ}(e:¬ p.1=k):valV (p::r) k=valV r k:=by simp [valV,List.find?_cons,e]
theorem length_putK(kvs:List (κ×V))(k:κ)(v:V):(putK kvs k v).length<=kvs.length+1:=by
 unfold putK
 split
 ·rw [List.length_map];omega
 ·rw [List.length_append,List.length_cons,List.length_nil];omega
theorem RelO.getD{o:Option V}{u:Option Value}{d:V}{d':Value}(r:RelO o u)(rd:RelV d d'):RelV (o.getD d) (u.getD d'):=by
 cases o with
 | none=>cases u with
  | none=>exact rd
  | some _=>exact(show False from r).elim
 | some _=>cases u with
  | none=>exact(show False from r).elim
  | some _=>exact r
theorem KV.val{kvs:List (κ×V)}{vs:List (κ×Value)}(r:KV kvs vs)(k:κ):RelO (valV kvs k) (valueAt vs k):=by
 unfold KV at r
 induction r with
 | nil=>exact True.intro
 | @cons p q ps qs h t ih =>
  obtain⟨h1,h2⟩:=h
  by_cases e:p.1=k
  ·have e':q.1=k:=h1.symm.trans e
   have b:valueAt (q::qs) k=some q.2:=by simp [valueAt,List.find?_cons,e']
   rw [valV_pos e,b];exact h2
  ·have e':¬ q.1=k:=fun z=>e (h1.trans z)
   have b:valueAt (q::qs) k=valueAt qs k:=by simp [valueAt,List.find?_cons,e']
   rw [valV_neg e,b];exact ih
theorem KV.any{kvs:List (κ×V)}{vs:List (κ×Value)}(r:KV kvs vs)(k:κ):(kvs.any fun kv=>decide (kv.1=k))=vs.any fun kv=>decide (kv.1=k):=by
 unfold KV at r
 induction r with
 | nil=>rfl
 | cons h t ih=>rw [List.any_cons,List.any_cons,ih,h.1]
theorem KV.repl{kvs:List (κ×V)}{vs:List (κ×Value)}(r:KV kvs vs)(k:κ){y:V}{u:Value}(ry:RelV y u):
  KV (kvs.map fun kv=>if kv.1=k then (kv.1,y) else kv) (vs.map fun kv=>if kv.1=k then (kv.1,u) else kv):=by
 unfold KV at r ⊢
 induction r with
 | nil=>exact .nil
 | @cons p q ps qs h t ih =>
  rw [List.map_cons,List.map_cons]
  refine .cons ?_ ih
  obtain⟨h1,h2⟩:=h
  by_cases e:p.1=k
  ·rw [if_pos e,if_pos (h1.symm.trans e)];exact⟨h1,ry⟩
  ·rw [if_neg e,if_neg (fun z=>e (h1.trans z))];exact⟨h1,h2⟩
theorem KV.put{kvs:List (κ×V)}{vs:List (κ×Value)}(r:KV kvs vs)(k:κ){y:V}{u:Value}(ry:RelV y u):KV (putK kvs k y) (stored vs k u):=by
 unfold putK stored
 rw [r.any k]
 by_cases e:(vs.any fun kv=>decide (kv.1=k))=true
 ·rw [if_pos e,if_pos e];exact r.repl k ry
 ·rw [if_neg e,if_neg e];exact Paired.snoc r ⟨rfl,ry⟩
theorem KV.drop{kvs:List (κ×V)}{vs:List (κ×Value)}(r:KV kvs vs)(k:κ):KV (dropK kvs k) (without vs k):=by
 unfold KV at r ⊢
 unfold dropK without
 induction r with
 | nil=>exact .nil
 | @cons p q ps qs h t ih =>
  obtain⟨h1,h2⟩:=h
  rw [List.filter_cons,List.filter_cons]
  by_cases e:p.1=k
  ·have a:¬ decide (p.1≠k)=true:=by simp [e]
   have b:¬ decide (q.1≠k)=true:=by simp [h1.symm.trans e]
   rw [if_neg a,if_neg b];exact ih
  ·have e':¬ q.1=k:=fun z=>e (h1.trans z)
   have a:decide (p.1≠k)=true:=by simp [e]
   have b:decide (q.1≠k)=true:=by simp [e']
   rw [if_pos a,if_pos b];exact .cons ⟨h1,h2⟩ ih
theorem KV.length{kvs:List (κ×V)}{vs:List (κ×Value)}(r:KV kvs vs):kvs.length=vs.length:=Paired.length r
end
theorem kV_is{P:Program}{w:World}{k:Key}{u:Value}(r:RelV (kV k) u):(mixKind P w).is k u=true:=by
 cases k with
 | inl i=>obtain⟨t,e⟩:=(show ∃ t,u=Value.int i t from r);subst e;exact mixKind_int P w i t
 | inr x=>obtain⟨t,e⟩:=(show ∃ t,u=Value.str x t from r);subst e;exact mixKind_str P w x t
abbrev KT(H:Hp):List (List Key×V)->List (List Key×Addr×Value)->Prop:=Paired fun p q=>p.1=q.1/\H q.2.1=some (.tup (p.1.map kV))/\RelV p.2 q.2.2
theorem KT.val{H:Hp}{kvs:List (List Key×V)}{xs:List (List Key×Addr×Value)}(r:KT H kvs xs)(k:List Key):RelO (valV kvs k) ((atKey xs k).map (·.2)):=by
 induction r with
 | nil=>exact True.intro
 | @cons p q ps qs h t ih =>
  obtain⟨h1,_,h2⟩:=h
  by_cases e:p.1=k
  ·have e':q.1=k:=h1.symm.trans e
   have b:atKey (q::qs) k=some q.2:=by simp [atKey,List.find?_cons,e']
   rw [valV_pos e,b];exact h2
  ·have e':¬ q.1=k:=fun z=>e (h1.trans z)
   have b:atKey (q::qs) k=atKey qs k:=by simp [atKey,List.find?_cons,e']
   rw [valV_neg e,b];exact ih
theorem KT.keeps{H H':Hp}{kvs:List (List Key×V)}{xs:List (List Key×Addr×Value)}(r:KT H kvs xs)(ht:∀ b ys,H b=some (.tup ys)->H' b=some (.tup ys)):KT H' kvs xs :=
 Paired.mapP r fun _ _ z=>⟨z.1,ht _ _ z.2.1,z.2.2⟩
section
variable {P:Program}{w:World}{H:Hp}{h:Heap}{a:Addr}
theorem rd_of{u:HO}(ok:HOk P w H h)(e:Rd H a u):ObjOk P w H h a u:=e.ok ok
theorem dk_rd{kvs:List (Key×V)}(ok:HOk P w H h)(e:Rd H a (.dK kvs)):kvs.length<=sizeLine/\(a == sysModules)=false/\∃ vs,KV kvs vs/\h.DictOf (mixKind P w) a vs :=
 show ObjOk P w H h a (.dK kvs) from rd_of ok e
theorem dk_of{kvs:List (Key×V)}(ok:HOk P w H h)(e:H a=some (.dK kvs)):kvs.length<=sizeLine/\(a == sysModules)=false/\∃ vs,KV kvs vs/\h.DictOf (mixKind P w) a vs:=dk_rd ok (.inl e)
end
def DGet(H:Hp)(a:Addr)(y:V)(r:Option V):Prop :=
 (∃ kvs k,Rd H a (.dK kvs)/\y=kV k/\r=valV kvs k)\/∃ kvs k b,Rd H a (.dT kvs)/\y=.ref b/\H b=some (.tup (k.map kV))/\r=valV kvs k
def DPut(H:Hp)(a:Addr)(y v:V)(H':Hp):Prop :=
 (∃ kvs k,H a=some (.dK kvs)/\y=kV k/\kvs.length<sizeLine/\H'=upd H a (.dK (putK kvs k v))) \/
 ∃ kvs k b,H a=some (.dT kvs)/\y=.ref b/\H b=some (.tup (k.map kV))/\kvs.length<sizeLine/\H'=upd H a (.dT (putK kvs k v))
theorem DGet.k{H:Hp}{a:Addr}{kvs:List (Key×V)}{k:Key}(e:H a=some (.dK kvs)):DGet H a (kV k) (valV kvs k):=.inl ⟨kvs,k,.inl e,rfl,rfl⟩
theorem DGet.t{H:Hp}{a b:Addr}{kvs:List (List Key×V)}{k:List Key}(e:H a=some (.dT kvs))(eb:H b=some (.tup (k.map kV))):DGet H a (.ref b) (valV kvs k):=.inr ⟨kvs,k,b,.inl e,rfl,eb,rfl⟩
theorem DPut.k{H:Hp}{a:Addr}{kvs:List (Key×V)}{k:Key}{v:V}(e:H a=some (.dK kvs))(hl:kvs.length<sizeLine):DPut H a (kV k) v (upd H a (.dK (putK kvs k v))):=.inl ⟨kvs,k,e,rfl,hl,rfl⟩
theorem DPut.t{H:Hp}{a b:Addr}{kvs:List (List Key×V)}{k:List Key}{v:V}(e:H a=some (.dT kvs))(eb:H b=some (.tup (k.map kV)))(hl:kvs.length<sizeLine):
  DPut H a (.ref b) v (upd H a (.dT (putK kvs k v))):=.inr ⟨kvs,k,b,e,rfl,eb,hl,rfl⟩
section
variable {X:Cx}{pins:List (Addr×Obj)}{σ:St}{H:Hp}{s:Shared}{a:Addr}{y v:V}{u r:Value}{o:Option V}{A:Around}{E:Value->Shared->Prop}
theorem Inv.big(I:Inv X pins σ H s):sysModules<s.heap.objs.size:=by
 have h:mainGlobals<s.heap.objs.size:=(I.mod.glob.keeps I.bk).lt
 exact Nat.lt_trans (by decide) h
theorem d_write{h':Heap}{t':Nat}{ob:HO}(I:Inv X pins σ H s)(mu:Mut (H a))(hs:Heap.SameBut a s.heap h')(he:∃ q,h'.get? a=some q)(new:ObjOk X.prog X.w (upd H a ob) h' a ob):
  Inv X pins σ (upd H a ob) { s with heap:=h',toks:=t' } :=
 I.write (x:=a) (e:=a) mu (.inl rfl) (fun b q hb z=>(hs.2 b hb).trans z) he new
theorem dk_new{P:Program}{w:World}{H':Hp}{h':Heap}{kvs:List (Key×V)}{vs:List (Key×Value)}(z:kvs.length<=sizeLine)(hd:(a == sysModules)=false)(rel:KV kvs vs)(dd:h'.DictOf (mixKind P w) a vs):
  ObjOk P w H' h' a (.dK kvs):=⟨z,hd,vs,rel,dd⟩
end
section
variable {X:Cx}{pins:List (Addr×Obj)}{σ:St}{H:Hp}{s:Shared}{a:Addr}{kvs:List (Key×V)}{k:Key}{u:Value}{A:Around}{E:Value->Shared->Prop}
end
section
variable {X:Cx}{o i e value:Expr}{pos pos' tpos:Pos}{td ty tv:TE}
end
theorem dk_empty{P:Program}{w:World}{H:Hp}(h:Heap)(hb:sysModules<h.objs.size):ObjOk P w H (h.push { cls:=.type "dict",data:=.dict #[] }) h.objs.size (.dK []) :=
 ⟨Nat.zero_le _,beq_eq_false_iff_ne.mpr (Ne.symm (Nat.ne_of_lt hb)),[],.nil,Heap.DictOf.new h⟩
section
variable {X:Cx}{pos:Pos}
end
def tPairs:List (TE×TE)->St->Hp->(List (V×V)->Hp->Prop)->Prop
 | [],_,H,Q=>Q [] H
 | (tk,tv)::r,σ,H,Q=>tk σ H fun x H1=>tv σ H1 fun y H2=>tPairs r σ H2 fun ps H3=>Q ((x,y)::ps) H3
abbrev VV:List (V×V)->List (Value×Value)->Prop:=Paired fun p q=>RelV p.1 q.1/\RelV p.2 q.2
def PPs(X:Cx)(pos:Pos)(keys:List (Option Expr))(values:List Expr)(trs:List (TE×TE)):Prop :=
 ∀(pins:List (Addr×Obj)) (s:Shared) (σ:St) (H:Hp) (Q:List (V×V)->Hp->Prop),Inv X pins σ H s->tPairs trs σ H Q ->
  wpAny (model X.prog X.w) X.A (evalPairs (pairTrees keys values X.env pos)) (fun vs s'=>∃ ps H',Inv X pins σ H' s'/\VV ps vs/\Q ps H') X.xe s
theorem pps_nil{X:Cx}{pos:Pos}:PPs X pos [] [] []:=fun pins s σ H Q I h=>pairTrees_nil_walk ⟨[],H,I,.nil,h⟩
theorem pps_cons{X:Cx}{pos:Pos}{k v:Expr}{ks:List (Option Expr)}{vs:List Expr}{tk tv:TE}{trs:List (TE×TE)}(hk:PE X k tk)(hv:PE X v tv)(hr:PPs X pos ks vs trs):
  PPs X pos (some k::ks) (v::vs) ((tk,tv)::trs):=fun pins s σ H Q I h =>
 pairTrees_cons_walk (thn (hk pins s σ H _ I h) fun u s1 ⟨x,H1,I1,rx,q1⟩=>thn (hv pins s1 σ H1 _ I1 q1) fun w2 s2 ⟨y,H2,I2,ry,q2⟩ =>
  thn (hr pins s2 σ H2 _ I2 q2) fun ws s3 ⟨ps,H3,I3,rel,q3⟩=>⟨(x,y)::ps,H3,I3,.cons ⟨rx,ry⟩ rel,q3⟩)
def mergeK(kvs more:List (Key×V)):List (Key×V):=more.foldl (fun acc kv=>putK acc kv.1 kv.2) kvs
theorem KV.merge:∀{more:List (Key×V)} {rs:List (Key×Value)} {kvs:List (Key×V)} {vs:List (Key×Value)},KV more rs->KV kvs vs->KV (mergeK kvs more) (merged vs rs):=by
 intro more rs kvs vs r
 unfold KV at r
 induction r generalizing kvs vs with
 | nil=>intro q;exact q
 | @cons p q ps qs h t ih =>
  intro r0
  have e:KV (putK kvs p.1 p.2) (stored vs q.1 q.2):=by
   have:=r0.put p.1 h.2
   rw [<-h.1];exact this
  exact ih e
theorem length_mergeK:∀(more kvs:List (Key×V)),(mergeK kvs more).length<=kvs.length+more.length
 | [],kvs=>by show kvs.length<=kvs.length+0;omega
 | p::r,kvs=>by
  have h1:=length_mergeK r (putK kvs p.1 p.2)
  have h2:=length_putK kvs p.1 p.2
  show(mergeK (putK kvs p.1 p.2) r).length<=_
  rw [List.length_cons];omega
theorem carries_of{P:Program}{w:World}:∀{kvs:List (Key×V)} {ws:List (Value×Value)},VV (kvs.map fun kv=>(kV kv.1,kv.2)) ws->∃ rs,Carries (mixKind P w) ws rs/\KV kvs rs
 | [],_,r=>by rw [List.map_nil] at r;cases r;exact⟨[],True.intro,.nil⟩
 | p::kvs,_,r=>by
  rw [List.map_cons] at r
  cases r with
  | @cons a b as bs h t =>
   obtain⟨rs,c,q⟩:=carries_of (P:=P) (w:=w) t
   obtain⟨b1,b2⟩:=b
   exact⟨(p.1,b2)::rs,⟨kV_is h.1,rfl,c⟩,.cons ⟨rfl,h.2⟩ q⟩
def tDisp(trs:List (TE×TE)):TE:=fun σ H Q=>∀ p,H p=none->tPairs trs σ (upd H p (.dK [])) fun ps H2=>H2 p=some (.dK [])/\∃ kvs:List (Key×V),ps=kvs.map (fun kv=>(kV kv.1,kv.2))/\kvs.length<=15/\Q (.ref p) (upd H2 p (.dK (mergeK [] kvs)))
theorem pe_disp{X:Cx}{pos:Pos}{keys:List (Option Expr)}{values:List Expr}{trs:List (TE×TE)}(h:PPs X pos keys values trs)(hall:keys.all (·.isSome)=true)(hl:keys.length=values.length)(h0:keys ≠ [])
  (h15:keys.length<=15):PE X (.Dict keys values pos) (tDisp trs):=by
 intro pins s σ H Q I q
 have hn:=I.hok.fresh (Nat.le_refl s.heap.objs.size)
 have I1:=I.laid (a:=s.heap.objs.size) (o:=.dK []) (h':=s.heap.push { cls:=.type "dict",data:=.dict #[] }) (t':=s.toks) (fun _ _ q=>Heap.get?_push_of_some _ q) (Nat.le_refl _) (dk_empty s.heap I.big)
 refine wpAny_Dict_walk (knd:=mixKind X.prog X.w) hall hl h0 h15 (thn (h pins _ σ _ _ I1 (q _ hn)) fun ws s2 ⟨ps,H2,I2,rel,e,kvs,ep,lk,q2⟩=>?_)
 subst ep
 obtain⟨rs,c,rk⟩:=carries_of (P:=X.prog) (w:=X.w) rel
 obtain⟨z,hd,vs0,r0,dd⟩:=dk_of I2.hok e
 cases r0
 refine⟨rs,c,dd,fun h' dd' hs=>⟨.ref s.heap.objs.size,_,?_,rfl,q2⟩⟩
 have hz:(mergeK [] kvs).length<=sizeLine:=by
  have h1:=length_mergeK kvs []
  rw [List.length_nil] at h1
  rw [sizeLine_eq];omega
 have he:∃ q,h'.get? s.heap.objs.size=some q:=let ⟨q,_,_,hq,_⟩:=dd';⟨q,hq⟩
 exact d_write I2 (by rw [e];exact True.intro) hs he (dk_new hz hd (rk.merge .nil) dd')
structure M1(X:Cx)(o:Expr)(m:Str)(apos:Pos)(e:Expr)(cpos:Pos):Prop where
 base:attributeBase o m X.env (eval o X.env)=eval o X.env
 few:((backTo cpos (starEach [e] X.env)).all (fun x=>!x.1) && (backToKw cpos (keywordEach [] X.env)).all (fun x=>x.1.isSome)
  && decide (([e]:List Expr).length+([]:List Keyword).length+(if ([]:List Keyword).isEmpty then 0 else 1)<30))=true
 line:(apos.endLine == cpos.line)=true
 trees:backTo cpos (starEach [e] X.env) = [(false,eval e X.env)]
structure M2(X:Cx)(o:Expr)(m:Str)(apos:Pos)(e f:Expr)(cpos:Pos):Prop where
 base:attributeBase o m X.env (eval o X.env)=eval o X.env
 few:((backTo cpos (starEach [e,f] X.env)).all (fun x=>!x.1) && (backToKw cpos (keywordEach [] X.env)).all (fun x=>x.1.isSome)
  && decide (([e,f]:List Expr).length+([]:List Keyword).length+(if ([]:List Keyword).isEmpty then 0 else 1)<30))=true
 line:(apos.endLine == cpos.line)=true
 trees:backTo cpos (starEach [e,f] X.env) = [(false,eval e X.env),(false,eval f X.env)]
section
variable {X:Cx}{pins:List (Addr×Obj)}{σ:St}{H:Hp}{s:Shared}{a:Addr}{y d:V}{u r:Value}{o:Option V}{A:Around}{E:Value->Shared->Prop}
end
section
variable {X:Cx}{o e f:Expr}{apos cpos:Pos}{td ty tx:TE}
end
section
variable {X:Cx}{pins:List (Addr×Obj)}{σ:St}{H:Hp}{s:Shared}{a:Addr}{kvs:List (Key×V)}{A:Around}{E:Value->Shared->Prop}
end
section
variable {X:Cx}{pins:List (Addr×Obj)}{σ:St}{H:Hp}{s:Shared}{a:Addr}{y:V}{u:Value}{A:Around}{E:Value->Shared->Prop}
end
end L2
namespace Att
open PySem PySem.W PySem.Calls PyProof.Rows
section
variable {prog:Program}{w:World}{A:Around}{E:Value->Shared->Prop}{s:Shared}{K:Frag}
end
end Att
namespace L2
open PySem PySem.Spec PyProof.Rows
section
variable {P:Program}{w:World}{K:PySem.W.Frag}{mg:Str->Option Value}{base:Heap}
end
section
variable {X:Cx}
end
section
variable {κ:Type}[DecidableEq κ]
end
section
variable {K:PySem.W.Frag}{H H':Hp}
theorem RepKV.split{ks:List (Key×D)}{vs:List (Key×V)}{p:Key×D}(h:RepKV K H (p::ks) vs):∃ v vs',vs=(p.1,v)::vs'/\Rep K H p.2 v/\RepKV K H ks vs':=by
 obtain⟨h1,h2⟩:=h
 cases vs with
 | nil=>cases h1
 | cons q vs =>
  obtain⟨k,v⟩:=q
  rw [List.map_cons,List.map_cons,List.cons.injEq] at h1
  rw [List.map_cons,List.map_cons] at h2
  cases h2 with
  | cons r t =>
   obtain⟨e,e2⟩:=h1
   have e':p.1=k:=e
   subst e'
   exact⟨v,vs,rfl,r,e2,t⟩
theorem RepKV.cons{ks:List (Key×D)}{vs:List (Key×V)}{k:Key}{d:D}{v:V}(r:Rep K H d v)(h:RepKV K H ks vs):RepKV K H ((k,d)::ks) ((k,v)::vs):=⟨by simp [h.1],.cons r h.2⟩
theorem RepKV.nil':RepKV K H [] []:=⟨rfl,.nil⟩
theorem RepKV.len{ks:List (Key×D)}{vs:List (Key×V)}(h:RepKV K H ks vs):ks.length=vs.length:=by
 have:=congrArg List.length h.1
 simpa using this
theorem RepKV.any:∀{ks:List (Key×D)} {vs:List (Key×V)} (k:Key),RepKV K H ks vs->(ks.any fun kv=>decide (kv.1=k))=vs.any fun kv=>decide (kv.1=k)
 | [],vs,k,h=>by
  cases vs with
  | nil=>rfl
  | cons q vs=>cases h.1
 | p::ks,vs,k,h=>by
  obtain⟨v,vs',rfl,r,t⟩:=h.split
  rw [List.any_cons,List.any_cons,RepKV.any k t]
theorem RepKV.map:∀{ks:List (Key×D)} {vs:List (Key×V)} {k:Key} {d:D} {v:V},RepKV K H ks vs->Rep K H d v->RepKV K H (ks.map fun kv=>if kv.1=k then (kv.1,d) else kv) (vs.map fun kv=>if kv.1=k then (kv.1,v) else kv)
 | [],vs,k,d,v,h,_=>by
  cases vs with
  | nil=>exact RepKV.nil'
  | cons q vs=>cases h.1
 | p::ks,vs,k,d,v,h,rd=>by
  obtain⟨v',vs',rfl,r,t⟩:=h.split
  rw [List.map_cons,List.map_cons]
  have ih:=RepKV.map (k:=k) t rd
  obtain⟨pk,pd⟩:=p
  by_cases c:pk=k
  ·simp only [c,if_true]
   exact RepKV.cons rd ih
  ·simp only [c,if_false]
   exact RepKV.cons r ih
end
section
variable {K:PySem.W.Frag}{H₀ H H':Hp}{σD:DSt}{σ:St}
end
section
variable {X:Cx}{e:Expr}{te tk tv:DTE}{pos:Pos}
end
section
variable {X:Cx}
variable {o e:Expr}{to te:DTE}{apos cpos:Pos}
end
end L2
namespace SQ
open PySem PyProof.Rows
set_option autoImplicit false
section
variable {κ:KeyKind}
variable {prog:Program}{w:World}{A:Around}{E:Value->Shared->Prop}{s:Shared}{κ:KeyKind}{kd:SortKind}{a₀:Array Keyed}
end
section
variable {prog:Program}{w:World}{A:Around}{E:Value->Shared->Prop}{s:Shared}
end
end SQ
namespace L2
open PySem PySem.Spec PyProof.Rows SQ
section
variable {X:Cx}
end
end L2
namespace L2
open PySem PySem.Spec PyProof.Rows
end L2
namespace L2
open PySem PySem.Spec PyProof.Rows PySem.Builtin PySem.Builtin.Str
def tx(x:Str):List Nat:=x.cps.toList
def Dl(r:List Nat):Prop:=∀ c t,r=c::t->c=44\/c=41\/c=93
theorem Dl.c{c:Nat}{r:List Nat}(h:c=44\/c=41\/c=93):Dl (c::r):=fun a t e=>by
 rw [<-(List.cons.inj e).1];exact h
end L2
namespace L2
open PySem PySem.Spec PyProof.Rows
section
variable {X:Cx}{e:Expr}{p pos:Pos}
end
section
variable {K:PySem.W.Frag}{H₀ H H':Hp}{σD:DSt}{σ:St}
theorem Nst.upd{b:Addr}{vs:List V}{ys:List D}(p:Pers H (upd H b (.lst vs)))(r:Reps K H ys vs):∀{xss:List (List D)} {as:List Addr} {k:Nat},as.Nodup->Nst K H xss as->as[k]?=some b->Nst K (upd H b (.lst vs)) (xss.set k ys) as
 | [],[],k,_,_,e=>by simp at e
 | xs::xss,c::as,0,nd,h,e=>by
  simp at e
  subst e
  rw [List.nodup_cons] at nd
  exact⟨⟨vs,upd_same,r.mono p⟩,h.2.keep p fun a ha u hu=>by rw [upd_ne (fun z=>nd.1 (by rw [<-z];exact ha))];exact hu⟩
 | xs::xss,c::as,k+1,nd,h,e=>by
  rw [List.nodup_cons] at nd
  have e':as[k]?=some b:=by simpa using e
  obtain⟨⟨ws,e1,r1⟩,t⟩:=h
  exact⟨⟨ws,by rw [upd_ne (fun z=>nd.1 (by rw [z];exact List.mem_of_getElem? e'))];exact e1,r1.mono p⟩,Nst.upd p r nd.2 t e'⟩
end
section
variable {X:Cx}{e e1 e2 e3:Expr}{pos:Pos}{te t3:DTE}{t1 t2:DTF}
theorem Nst.at:∀{K:PySem.W.Frag} {H:Hp} {xss:List (List D)} {as:List Addr} {k:Nat} {xs:List D},Nst K H xss as->xss[k]?=some xs->∃ b vs,as[k]?=some b/\H b=some (.lst vs)/\Reps K H xs vs
 | _,_,_::_,b::_,0,_,h,e=>by
  simp at e
  subst e
  obtain⟨vs,e1,r⟩:=h.1
  exact⟨b,vs,rfl,e1,r⟩
 | _,_,_::_,_::_,k+1,_,h,e=>by
  obtain⟨b,vs,h1,h2⟩:=Nst.at h.2 (k:=k) (by simpa using e)
  exact⟨b,vs,by simpa using h1,h2⟩
 | _,_,[],[],_,_,_,e=>by simp at e
variable {o:Expr}{to:DTE}{apos cpos:Pos}
end
structure Sl(fs:List Addr)(e:Addr)(h h':Heap):Prop where
 keep:∀ b o,h.get? b=some o->b≠e->b∉fs->h'.get? b=some o
 slot:∀ b o,h.get? b=some o->b≠e->∃ sl,h'.get? b=some { o with slots:=sl }
def Fly(h:Heap)(e:Addr)(cls:Value)(od:Option Addr):Prop :=
 ∃ oe vs T oT ts,h.get? e=some oe/\(oe.cls=cls/\oe.dict=od)/\oe.data=.fields vs/\vs[1]?=some (.ref T)/\T≠e/\h.get? T=some oT/\oT.data=.fields ts/\ts[3]?=some .none
def Fly0(h:Heap)(e:Addr)(cls:Value)(od:Option Addr):Prop :=
 Fly h e cls od\/∃ oe vs,h.get? e=some oe/\(oe.cls=cls/\oe.dict=od)/\oe.data=.fields vs/\vs[1]?=some .none
theorem dict_mapF(o:Obj)(f):(o.mapFields f).dict=o.dict:=by
 obtain⟨c,d,dt,sl⟩:=o
 cases dt <;> rfl
theorem mapF_same{o:Obj}{ts:Array Value}{i:Nat}{x:Value}(hd:o.data=.fields ts)(hx:ts[i]?=some x):o.mapFields (·.setIfInBounds i x)=o:=by
 obtain⟨c,d,dt,sl⟩:=o
 subst hd
 obtain⟨hi,e⟩:=Array.getElem?_eq_some_iff.mp hx
 have:ts.setIfInBounds i x=ts:=by
  apply Array.ext
  ·simp
  ·intro j h1 h2
   rw [Array.getElem_setIfInBounds]
   split
   ·next q=>subst q;exact e.symm
   ·rfl
 show(⟨c,d,.fields (ts.setIfInBounds i x),sl⟩:Obj)=_
 rw [this]
theorem upd_same_get{h:Heap}{T:Addr}{o:Obj}{ts:Array Value}{i:Nat}{x:Value}(e:h.get? T=some o)(hd:o.data=.fields ts)(hx:ts[i]?=some x)(b:Addr):
  (h.update T (Obj.mapFields (·.setIfInBounds i x))).get? b=h.get? b:=by
 by_cases q:T=b
 ·subst q
  rw [Heap.get?_update_self _ e (by rw [mapF_same hd hx];exact Obj.isFreed_of_fields hd),mapF_same hd hx,e]
 ·exact Heap.get?_update_other _ _ q
section
variable {M:Model}{A:Around}{E:Value->Shared->Prop}{s:Shared}{base:Heap}{env:Env}{outer:List Env}{L e:Addr}{Q:Unit->Shared->Prop}
theorem noted_core{oe:Obj}{vs:Array Value}{hd0:Value}{nxt:Bool}(hfr:A.frames=some (env::outer))(hl:s.heap.FunFrames base (env::outer))(hf:env.frame=some L)
  (he:s.heap.get? e=some oe) (hd:oe.data=.fields vs) (hsz:1<vs.size) (k:∀ h',Sl (frs (env::outer)) e s.heap h'->Fly h' e oe.cls oe.dict->Q () { s with heap:=h' }) :
  wpAny M A (do let a <-frameOf env;let pl <-entryPlaceOf L nxt;let b <-EntryCells.newEntry hd0 a .none (rawInt L) .none pl;setField (.ref e) 1 b) (fun _ s'=>wpAny M A (setFlight (.ref e) none) Q E s') E s:=by
 have nin:e∉frs (env::outer):=fun hm=>by
  obtain⟨_,o,ho,hnf⟩:=hl.mem hm
  have z:=he.symm.trans ho
  cases z
  exact hnf vs hd
 refine wpAny_bind (wpAny_frameOf_fun hfr hl hf fun g1 so=>wpAny_bind (wpAny_entryPlaceOf fun pl hpl=>?_))
 unfold EntryCells.newEntry newFields
 refine wpAny_bind (wpAny_newObj_type ?_ (hpl.sizeOk5 _ _ _ _ _))
 generalize ek:([hd0,.ref L,.none,rawInt L,.none]++(if pl.isEmpty then List.replicate 6 Value.none else pl)).toArray=tb
 have tbz:3<tb.size:=by rw [<-ek];simp only [List.size_toArray,List.length_append,List.length_cons,List.length_nil];omega
 have e1:g1.get? e=some oe:=(so.2.1 e nin).trans he
 have ne:g1.objs.size≠e:=Nat.ne_of_gt (Heap.lt_size e1)
 have e2:=Heap.get?_push_of_some (h:=g1) { cls:=.type "traceback",dict:=none,data:=.fields tb } e1
 refine wpAny_setField e2 hd hsz ?_
 have d3:=Obj.data_mapFields hd (·.setIfInBounds 1 (Value.ref g1.objs.size))
 have e3:=Heap.get?_update_self (Obj.mapFields (·.setIfInBounds 1 (Value.ref g1.objs.size))) e2 (Obj.isFreed_of_fields d3)
 have t3:((g1.push { cls:=.type "traceback",dict:=none,data:=.fields tb }).update e (Obj.mapFields (·.setIfInBounds 1 (Value.ref g1.objs.size)))).get? g1.objs.size=some { cls:=.type "traceback",dict:=none,data:=.fields tb } :=
  (Heap.get?_update_other _ _ (Ne.symm ne)).trans (Heap.get?_push_size g1 rfl)
 unfold setFlight
 refine wpAny_bind (wpAny_field e3 d3 (x:=.ref g1.objs.size) (by simp [hsz]) ?_)
 rw [if_pos (show(Value.ref g1.objs.size != Value.none)=true by simp)]
 refine wpAny_setField t3 rfl tbz (k _ ?_ ?_)
 ·have kp:∀ b o,b≠e->g1.get? b=some o->(((g1.push { cls:=.type "traceback",dict:=none,data:=.fields tb }).update e (Obj.mapFields (·.setIfInBounds 1 (Value.ref g1.objs.size)))).update g1.objs.size (Obj.mapFields (·.setIfInBounds 3 ((none:Option Addr).elim Value.none fun f=>rawInt f)))).get? b=some o:=fun b o nb hb=>by
   rw [Heap.get?_update_other _ _ (Nat.ne_of_gt (Heap.lt_size hb)),Heap.get?_update_other _ _ (Ne.symm nb)]
   exact Heap.get?_push_of_some _ hb
  refine⟨fun b o hb nb nf=>kp b o nb ((so.2.1 b nf).trans hb),fun b o hb nb=>?_⟩
  obtain⟨sl,hs⟩:=so.2.2 b o hb
  exact⟨sl,kp b _ nb hs⟩
 ·refine⟨_,_,g1.objs.size,_,_,(Heap.get?_update_other _ _ ne).trans e3,⟨Obj.cls_mapFields _ _,dict_mapF _ _⟩,d3,by simp [hsz],ne,Heap.get?_update_self _ t3 (Obj.isFreed_of_fields (Obj.data_mapFields rfl _)),Obj.data_mapFields rfl _,?_⟩
  simp [tbz]
theorem noted{cls:Value}{od:Option Addr}(hfr:A.frames=some (env::outer))(hl:s.heap.FunFrames base (env::outer))(hf:env.frame=some L)(hy:Fly0 s.heap e cls od)
  (k:∀ h',Sl (frs (env::outer)) e s.heap h'->Fly h' e cls od->Q () { s with heap:=h' }) :
  wpAny M A (noteFrame (.ref e) env) (fun _ s'=>wpAny M A (setFlight (.ref e) none) Q E s') E s:=by
 unfold noteFrame
 simp only [hf]
 rcases hy with⟨oe,vs,T,oT,ts,he,⟨rfl,rfl⟩,hd,h1,nT,hT,dT,h3⟩ | ⟨oe,vs,he,⟨rfl,rfl⟩,hd,h1⟩
 ·refine wpAny_bind (wpAny_field he hd h1 ?_)
  rw [if_pos (show(Value.ref T != Value.none)=true by simp)]
  refine wpAny_bind (wpAny_field hT dT h3 ?_)
  rw [if_neg (show ¬ ((Value.none == rawInt L)=true) by simp [rawInt])]
  refine wpAny_bind (wpAny_setField hT dT (Array.getElem?_eq_some_iff.mp h3).1 ?_)
  have sm:=upd_same_get hT dT h3
  refine noted_core hfr (hl.of_keeps fun b o hb _=>⟨o,(sm b).trans hb,rfl⟩) hf ((sm e).trans he) hd (Array.getElem?_eq_some_iff.mp h1).1 fun h' S F=>k h' ⟨fun b o hb=>S.keep b o ((sm b).trans hb),fun b o hb=>S.slot b o ((sm b).trans hb)⟩ F
 ·refine wpAny_bind (wpAny_field he hd h1 ?_)
  rw [if_neg (by decide)]
  exact noted_core hfr hl hf he hd (Array.getElem?_eq_some_iff.mp h1).1 k
theorem leaves{cls:Value}{od:Option Addr}(hfr:A.frames=some (env::outer))(hl:s.heap.FunFrames base (env::outer))(hf:env.frame=some L)(hy:Fly0 s.heap e cls od)
  (k:∀ h',Sl (frs (env::outer)) e s.heap h'->Fly h' e cls od->Q () { s with heap:=h' }):wpAny M A (leaving env (.ref e)) Q E s:=by
 unfold leaving
 exact wpAny_bind (noted hfr hl hf hy k)
theorem lands{cls:Value}{od:Option Addr}(hy:Fly s.heap e cls od)(k:∀ h',(∀ b,h'.get? b=s.heap.get? b)->Q () { s with heap:=h' }):wpAny M A (setFlight (.ref e) none) Q E s:=by
 obtain⟨oe,vs,T,oT,ts,he,_,hd,h1,nT,hT,dT,h3⟩:=hy
 unfold setFlight
 refine wpAny_bind (wpAny_field he hd h1 ?_)
 rw [if_pos (show(Value.ref T != Value.none)=true by simp)]
 exact wpAny_setField hT dT (Array.getElem?_eq_some_iff.mp h3).1 (k _ (upd_same_get hT dT h3))
end
def CXk(P:Program)(w:World):CXT:=fun outer H s E e s'=>∃ a C od H',e=.ref a/\s'.os=s.os/\AllBare s'.gens/\Un (frs outer) [] H H' s.heap s'.heap/\HOk P w H' s'.heap /\
 s.heap.get? a=none/\H' a=none/\Fly s'.heap a (.ref C) od/\E (.ref C) od H'
section
variable {fs fs':List Addr}{H H1:Hp}{h h1 h2:Heap}{a:Addr}{P:Program}{w:World}
theorem Un.sl(u:Un fs [] H H1 h h1)(S:Sl fs' a h1 h2)(hf:∀ b o,b∈fs'->h.get? b=some o->b∈fs)(ha:h.get? a=none):Un fs [] H H1 h h2 where
 keep:=fun b o e n hb hx=>S.keep b o (u.keep b o e n hb hx) (fun z=>by rw [z,ha] at e;cases e) fun z=>hb (hf b o z e)
 slot:=fun b o e n hb hx=>by
  obtain⟨sl,e1⟩:=u.slot b o e n hb hx
  obtain⟨sl',e2⟩:=S.slot b _ e1 fun z=>by rw [z,ha] at e;cases e
  exact⟨sl',e2⟩
 free:=u.free
 there:=fun b o e hx=>by
  obtain⟨o',e1⟩:=u.there b o e hx
  obtain⟨sl,e2⟩:=S.slot b _ e1 fun z=>by rw [z,ha] at e;cases e
  exact⟨_,e2⟩
 tups:=u.tups
 frzs:=u.frzs
 tbls:=u.tbls
theorem HOk.sl(hok:HOk P w H1 h1)(S:Sl fs' a h1 h2)(hf:∀ b∈fs',H1 b=none)(ha:H1 a=none):HOk P w H1 h2:=fun b o e=>by
 have ne:∀ c u,H1 c=some u->c≠a/\c∉fs':=fun c u q=>⟨fun z=>(by rw [z,ha] at q;cases q),fun z=>by rw [hf c z] at q;cases q⟩
 refine(hok b o e).stay (fun c u hc q=>?_) (fun _ q=>q) fun _ _ q=>q
 rcases hc with rfl | hc
 ·exact S.keep c u q (ne c o e).1 (ne c o e).2
 ·exact S.keep c u q (ne c _ hc).1 (ne c _ hc).2
end
theorem xe_of{P:Program}{w:World}{K:PySem.W.Frag}{mg:Str->Option Value}{base:Heap}{N:List Str}{qual:Str}{scope:Scope}{f:Addr}{cd:Value}{A:Around}{outer:List Env}{s s1:Shared}{H H1:Hp}{E:XK}{pins:List (Addr×Obj)}{σ:St}{a C:Addr}{od:Option Addr}
  (I:Inv (cxOf (CXk P w) P w K mg base N qual scope f cd A outer s H E) pins σ H1 s1) (hy:Fly0 s1.heap a (.ref C) od) (hn:s.heap.get? a=none) (hf:H1 a=none) (hE:E (.ref C) od H1) :
  (cxOf (CXk P w) P w K mg base N qual scope f cd A outer s H E).xe (.ref a) s1:=by
 refine leaves (base:=base) (outer:=outer) I.ok.frames I.stack rfl hy fun h' S F=>?_
 refine⟨a,C,od,H1,rfl,I.os,I.bare,Un.sl (show Un (frs outer) [] H H1 s.heap s1.heap from I.base) S (fun b o hb e=>?_) hn,HOk.sl I.hok S (fun b hb=>I.stkFree b hb) hf,hn,hf,F,hE⟩
 rcases List.mem_cons.mp (I.stkSub b hb) with q | q
 ·rw [q] at e
  exact absurd (Nat.lt_of_lt_of_le (Heap.lt_size e) I.ok.above) (Nat.lt_irrefl _)
 ·exact q
theorem ObjOk.ex{P:Program}{w:World}{H:Hp}{h:Heap}{a:Addr}{o:HO}(x:ObjOk P w H h a o):∃ u,h.get? a=some u:=by
 cases o with
 | lst xs=>obtain⟨_,_,_,_,e⟩:=x;exact⟨_,e⟩
 | tup xs=>obtain⟨_,_,_,o,e,_⟩:=x;exact⟨_,e⟩
 | dK kvs=>obtain⟨_,_,_,_,o,_,_,e,_⟩:=x;exact⟨_,e⟩
 | dT kvs=>obtain⟨_,_,_,_,o,_,_,e,_⟩:=x;exact⟨_,e⟩
 | set S n=>obtain⟨o,_,_,_,e,_⟩:=x;exact⟨_,e⟩
 | ins C dx fs=>obtain⟨_,_,_,e,_⟩:=x;exact⟨_,e⟩
 | own y=>exact x
 | xd fs=>obtain⟨_,⟨_,_,_,e,_⟩,_⟩:=x;exact⟨_,e⟩
 | rng lo hi=>obtain⟨_,_,_,e⟩:=x;exact⟨_,e⟩
 | frz ob u=>exact⟨_,x.1⟩
 | tbl ps=>obtain⟨_,_,_,_,e,_⟩:=x;exact⟨_,e⟩
 | met f y=>exact⟨_,x⟩
 | ext φ=>exact x.2.1
structure Room0(k:Nat)(A:Around):Prop where
 dp:A.depth+3 * k+5<recursionLimit
 un:A.units+16 * k+200<cLine
 gd:A.guards=some []
theorem Room.r0{k:Nat}{A:Around}(r:Room k A):Room0 k A:=⟨r.dp,r.un,r.gd⟩
theorem Room0.mono{j k:Nat}{A:Around}(r:Room0 k A)(h:j<=k):Room0 j A:=⟨by have:=r.dp;omega,by have:=r.un;omega,r.gd⟩
theorem Room0.deeper{k:Nat}{A:Around}(r:Room0 (k+1) A)(env:Env):Room0 k (A.deeper env) :=
 ⟨by have:=r.dp;show A.depth+1+3 * k+5<_;omega,by have:=r.un;show A.units+3+16 * k+200<_;omega,r.gd⟩
theorem Room0.mark{k:Nat}{A:Around}(r:Room0 k A)(e:Option Value):Room0 k (A.mark e):=⟨r.dp,r.un,r.gd⟩
theorem Room0.units{k:Nat}{A:Around}(r:Room0 k A):A.units+64<cLine:=by have:=r.un;omega
def Cx.held(X:Cx)(e:Value):Cx:={ X with A:=X.A.mark (some e),calm:=false,xe:=fun _ _=>False }
section
variable {X:Cx}{pins:List (Addr×Obj)}{σ:St}{H:Hp}{s:Shared}{e:Value}
theorem Inv.held(I:Inv X pins σ H s)(e:Value):Inv (X.held e) pins σ H s :=
 ⟨⟨I.ok.mod,I.ok.kind,I.ok.glob,I.ok.blt,I.ok.above,I.ok.inj,I.ok.has,I.ok.cab,(fun z=>nomatch z),I.ok.frames,I.ok.stk,I.ok.exf,I.ok.bs,I.ok.bsz,I.ok.noex,I.ok.exfs,I.ok.funs,I.ok.frf⟩,I.os,I.bare,I.base,I.loc,I.cell,I.free,I.freeC,I.pin,I.hok,I.len⟩
theorem Inv.unheld(ok:X.Ok)(I:Inv (X.held e) pins σ H s):Inv X pins σ H s:=⟨ok,I.os,I.bare,I.base,I.loc,I.cell,I.free,I.freeC,I.pin,I.hok,I.len⟩
theorem Inv.goes(I:Inv X pins σ H s){h':Heap}{m':Str->Option Value}(hn:h'.Ns X.env.locals m')(hs:Heap.SameBut X.env.locals s.heap h')(t:Nat):Inv X pins (List.replicate X.N.length none) H { s with heap:=h',toks:=t }:=by
 have ne:∀ b o,X.s₀.heap.get? b=some o->b≠X.env.locals:=fun b o e=>Nat.ne_of_lt (Nat.lt_of_lt_of_le (Heap.lt_size e) I.ok.above)
 refine⟨I.ok,I.os,I.bare,⟨fun b o e n hb hx=>?_,fun b o e n hb hx=>?_,I.base.free,fun b o e hx=>?_,I.base.tups,I.base.frzs,I.base.tbls⟩,⟨m',hn,fun j y v e1 e2 _=>?_⟩,fun y c e=>?_,I.free,I.freeC,fun p hp=>?_,fun b ob e=>?_,List.length_replicate⟩
 ·exact(hs.2 b (ne b o e)).trans (I.base.keep b o e n hb hx)
 ·obtain⟨sl,e1⟩:=I.base.slot b o e n hb hx
  exact⟨sl,(hs.2 b (ne b o e)).trans e1⟩
 ·obtain⟨o',e1⟩:=I.base.there b o e hx
  exact⟨o',(hs.2 b (ne b o e)).trans e1⟩
 ·rw [List.getElem?_replicate] at e2
  split at e2 <;> cases e2
 ·obtain⟨w',z⟩:=I.cell y c e
  exact⟨w',z.sameBut hs (I.cne y c e)⟩
 ·obtain⟨e,n,nl,nf,d⟩:=I.pin p hp
  exact⟨(hs.2 p.1 nl).trans e,n,nl,nf,d⟩
 ·refine(I.hok b ob e).stay (fun c u hc q=>(hs.2 c ?_).trans q) (fun _ q=>q) fun _ _ q=>q
  rintro rfl
  rcases hc with hc | hc
  ·rw [<-hc,I.free] at e;cases e
  ·rw [I.free] at hc;cases hc
end
structure FnH(P:Program)(w:World)(K:PySem.W.Frag)(mg:Str->Option Value)(base:Heap)(k:Nat)(f:Addr)(fd:FuncData)(ps:List Str)(sp:Sp):Prop where
 len:∀ vs H Q E,sp vs H Q E->vs.length=ps.length
 run:∀(A:Around) (outer:List Env) (s:Shared) (H:Hp) (args:Args) (us:List Value) (vs:List V) (Q:VK) (E:XK),Room0 k A->Env0 P w K mg base A outer s H->BindsTo s fd args (ps.zip us)->Vals vs us->sp vs H Q E ->
  codeAny (model P w) A (.call (.ref f) args) (CR CX0 outer P w H s Q E) s
def CalleeH(P:Program)(w:World)(K:PySem.W.Frag)(mg:Str->Option Value)(base:Heap)(k:Nat)(x:Str)(ps:List Str)(sp:Sp):Prop :=
 ∃ f fd,FnH P w K mg base k f fd ps sp/\Binds K fd ps []/\PySem.W.keepIn K (.ref f)=true/\mg x=some (.ref f)
def cxH(P:Program)(w:World)(K:PySem.W.Frag)(mg:Str->Option Value)(base:Heap)(N:List Str)(qual:Str)(scope:Scope)(f:Addr)(cd:Value)(A:Around)(outer:List Env)(s:Shared)(H:Hp):Cx :=
 { cxOf CX0 P w K mg base N qual scope f cd A outer s H E0 with calm:=false,xe:=fun _ _=>False }
theorem pe_callH{X:Cx}{k k':Nat}{x:Str}{ps:List Str}{sp:Sp}{e:Expr}{es:List Expr}{t:TA}{p pos:Pos}(C:CalleeH X.prog X.w X.K X.mg X.base k x ps sp)(hr:Room0 k' X.A)(hg:Gl X x)(ha:PA X (e::es) t)(hk:k<=k')
  (hdb:(x == ("__debug__" : Str))=false) (he:starEach (e::es) X.env=(false,eval e X.env)::starEach es X.env) (hpl:(backTo pos (starEach es X.env)).any (·.1)=false):PE X (.Call (.Name x p) (e::es) [] pos) (tCall sp [] E0 t):=by
 intro pins s σ H Q I h
 obtain⟨f,fd,F,b,kp,m⟩:=C
 refine wpAny_Call_Name_kw (ld_glob I hg m ?_ hdb)
 refine PySem.W.callWith_K (h₀:=X.base) I.ok.mod.kin kp (thn (ha pos pins s σ H _ I h) fun us s1 ⟨vs,H1,I1,r,q⟩=>⟨I1.kIn,?_⟩) he hpl
 have q':sp vs H1 Q E0:=by
  have z:sp (vs ++ []) H1 Q E0:=q
  rw [List.append_nil] at z
  exact z
 have hl:us.length=ps.length:=by rw [<-r.length];exact F.len _ _ _ _ q'
 have bb:BindsTo s1 fd ⟨us,[]⟩ (ps.zip us):=by
  have:=b s1 us I1.kIn (by rw [List.append_nil];exact hl)
  rw [List.append_nil] at this
  exact this
 refine wpAny_call (codeAny_mono (F.run X.A X.stack s1 H1 ⟨us,[]⟩ us vs Q E0 (hr.mono hk) I1.env0 bb r q') fun r s' hq=>?_)
 cases r with
 | error e=>exact False.elim hq
 | ok fl =>
  cases fl with
  | ret u=>exact I1.after hq
  | next=>exact False.elim hq
  | brk=>exact False.elim hq
  | cont=>exact False.elim hq
section
variable {P:Program}{w:World}{K:PySem.W.Frag}{mg:Str->Option Value}{base:Heap}
theorem Fun.dokH{x qual:Str}{st:Stmt}{f:Addr}{fd:FuncData}{N ps:List Str}{k:Nat}{sp:DSp}(F:Fun K x qual st f fd)(S:FnScope N ps (defScope st))(len:∀ ws Q,sp ws Q->ws.length=ps.length)
  (hbody:∀(cdv:Value) (A:Around) (outer:List Env) (s:Shared) (H:Hp) (ws:List W) (Q:Ret->Prop),Room0 k (A.deeper (envOfC qual (defScope st) s.heap.objs.size f cdv))->sp ws Q ->
   ∃ t,DSs (cxH P w K mg base N qual (defScope st) f cdv A outer s H) (defBody st) t/\t { nx:=fun _=>Q (.val .none),rt:=Q } (startF N ws)):FnH P w K mg base (k+1) f fd ps (cnSp K sp):=by
 obtain⟨oc,od,kV,doc,pm,an,cdv,ct,osl,rfl,lk,hcd⟩:=F.ex
 refine⟨fun vs H Q E ⟨ws,QD,r,q,_⟩=>by rw [<-r.length];exact len ws QD q,fun A outer s H args us vs Q E hr e0 hb r ⟨ws,QD,rw',q,kk⟩=>?_⟩
 have hl:vs.length=ps.length:=by rw [<-rw'.length];exact len ws QD q
 have KX:K.In s.heap:=e0.mod.kin.keeps fun b o e=>(e0.bs b o e).1
 have lim:s.heap.NoLimit:=e0.mod.nolimit.keeps fun b o e=>(e0.bs b o e).1
 have hkind:∀ y∈ps.zip us,(defScope st).names.lookup y.1=some .local\/((defScope st).names.lookup y.1=some .cell/\((cellsFrom (s.heap.objs.size+1) (defScope st).names []).lookup y.1).isSome=true):=fun⟨n,v⟩ hy=>by
  rcases S.par n (List.of_mem_zip hy).1 with q | q
  ·exact .inl q
  ·exact .inr ⟨q,PySem.W.cellsFrom_some _ _ _ (.inl q)⟩
 refine codeAny_call_function (by have:=hr.dp;omega) (KX _ _ lk) rfl S.co S.gen rfl (PySem.W.codeRec_of KX hcd) (hb _ _ _ _ ?_)
 refine wpAny_newFunctionEnv_cells S.kind hkind fun env he s1 x=>?_
 subst he
 refine⟨lim.keeps x.toInCall.keep,codeAny_func ?_⟩
 obtain⟨t,ht,hq⟩:=hbody cdv A outer s H ws QD (hr.deeper _) q
 have e1:Env0 P w K mg base { A with handled:=none } outer s H:=⟨e0.frames,e0.mod,e0.bs,e0.bsz,e0.funs,e0.frf,e0.hok,e0.bare⟩
 have J:Inv (cxOf CX0 P w K mg base N qual (defScope st) f cdv { A with handled:=none } outer s H E0) [] (start N vs) H s1:=inv_start S rfl e1 hl r x
 have I:Inv (cxH P w K mg base N qual (defScope st) f cdv A outer s H) [] (start N vs) H s1 :=
  ⟨⟨J.ok.mod,J.ok.kind,J.ok.glob,J.ok.blt,J.ok.above,J.ok.inj,J.ok.has,J.ok.cab,(fun z=>nomatch z),Around.frames_deeper e0.frames,J.ok.stk,J.ok.exf,J.ok.bs,J.ok.bsz,J.ok.noex,J.ok.exfs,J.ok.funs,J.ok.frf⟩,J.os,J.bare,J.base,J.loc,J.cell,J.free,J.freeC,J.pin,J.hok,J.len⟩
 refine wpAny_mono (ht.run [] s1 (start N vs) H H _ _ I (DOk.begin rw' N) hq) (fun fl s' hs=>?_) fun e s' hs=>False.elim hs
 have fin:∀{σ':St} {H':Hp} {v:V} {u:Value},Inv (cxH P w K mg base N qual (defScope st) f cdv A outer s H) [] σ' H' s'->RelV v u->Q v H'->CE outer P w H s Q u s' :=
  fun{σ' H' v u} J rv q=>⟨v,H',J.os,J.bare,J.base,J.hok,rv,q⟩
 cases fl with
 | ret u =>
  obtain⟨v,σ',H',r',J,rv,sm,rp,q'⟩:=hs
  exact fin J rv (kk v H' r' sm rp q')
 | next =>
  obtain⟨σ',H',σD',J,ok,_,q'⟩:=hs
  exact fin (v:=V.non) (u:=Value.none) J rfl (kk .non H' (.val .none) ok.same .non q')
 | brk=>obtain⟨_,_,_,_,_,_,q'⟩:=hs;exact False.elim q'
 | cont=>obtain⟨_,_,_,_,_,_,q'⟩:=hs;exact False.elim q'
end
abbrev EX:=Str×List (Str×Int)->Prop
abbrev DSpX:=List W->(Ret->Prop)->EX->Prop
def XE(K:PySem.W.Frag)(H:Hp)(ex:EX):XK:=fun c od H'=>∃ x C,c=.ref C/\PySem.W.nsIn K mainGlobals x.1=some (some (.ref C))/\Same H H'/\((x.2 = []/\od=none)\/∃ d,od=some d/\H' d=some (.xd (x.2.map fun p=>(p.1,V.int p.2))))/\ex x
def cnSpX(K:PySem.W.Frag)(sp:DSpX):Sp:=fun vs H Q E=>∃ ws QD ex,RepWs K H ws vs/\sp ws QD ex/\(∀ v H' r,Same H H'->RepR K H H' r v->QD r->Q v H')/\∀ c od H',XE K H ex c od H'->E c od H'
def CalleeX(P:Program)(w:World)(K:PySem.W.Frag)(mg:Str->Option Value)(base:Heap)(k:Nat)(x:Str)(ps:List Str)(sp:Sp):Prop :=
 ∃ f fd,FnOk P w K mg base (CXk P w) k f fd ps sp/\Binds K fd ps []/\PySem.W.keepIn K (.ref f)=true/\mg x=some (.ref f)
structure DSX(X:Cx)(st:Stmt)(t:DTS):Prop where
 run:∀(pins:List (Addr×Obj)) (s:Shared) (σ:St) (H:Hp) (σD:DSt) (Dn:DEnds),Inv X pins σ H s->DOk X.K X.H₀ H σD σ->t Dn σD->wpAny (model X.prog X.w) X.A (exec st X.env) (DSP X pins X.H₀ H Dn) X.xe s
structure DSXs(X:Cx)(st:List Stmt)(t:DTS):Prop where
 run:∀(pins:List (Addr×Obj)) (s:Shared) (σ:St) (H:Hp) (σD:DSt) (Dn:DEnds),Inv X pins σ H s->DOk X.K X.H₀ H σD σ->t Dn σD->wpAny (model X.prog X.w) X.A (execs st X.env) (DSP X pins X.H₀ H Dn) X.xe s
theorem DSP.unnox{X:Cx}{pins:List (Addr×Obj)}{H₀ H:Hp}{Dn:DEnds}{f:Flow}{s':Shared}(h:DSP X.nox pins H₀ H Dn f s'):DSP X pins H₀ H Dn f s':=by
 cases f with
 | next=>obtain⟨a,b,c,I,r⟩:=h;exact⟨a,b,c,I.unwish,r⟩
 | brk=>obtain⟨a,b,c,I,r⟩:=h;exact⟨a,b,c,I.unwish,r⟩
 | cont=>obtain⟨a,b,c,I,r⟩:=h;exact⟨a,b,c,I.unwish,r⟩
 | ret u=>obtain⟨v,a,b,q,I,r⟩:=h;exact⟨v,a,b,q,I.unwish,r⟩
section
variable {X:Cx}{st:Stmt}{sts rest:List Stmt}{t u:DTS}{pos:Pos}
theorem dsx_of(h:DS X.nox st t):DSX X st t:=⟨fun pins s σ H σD Dn I ok q=>wpAny_mono (h.run pins s σ H X.H₀ σD Dn (I.wish _) ok q) (fun _ _ z=>z.unnox) fun _ _ z=>False.elim z⟩
theorem dsxs_of(h:DSs X.nox sts t):DSXs X sts t:=⟨fun pins s σ H σD Dn I ok q=>wpAny_mono (h.run pins s σ H X.H₀ σD Dn (I.wish _) ok q) (fun _ _ z=>z.unnox) fun _ _ z=>False.elim z⟩
theorem dsxs_nil:DSXs X [] dNext:=dsxs_of dss_nil
theorem dsxs_cons(h1:DSX X st t)(h2:DSXs X rest u):DSXs X (st::rest) (dSeq t u):=⟨fun pins s σ H σD Dn I ok q=>by
 refine wpAny_execs_cons (thn (h1.run pins s σ H σD { Dn with nx:=u Dn } I ok q) fun f s1 z=>?_)
 cases f with
 | next =>
  obtain⟨σ1,H1,σD1,I1,ok1,p1,q1⟩:=z
  exact thn (h2.run pins s1 σ1 H1 σD1 Dn I1 ok1 q1) fun _ _ w'=>w'.back p1
 | brk=>exact z
 | cont=>exact z
 | ret v=>exact z⟩
theorem dsxs_one(h1:DSX X st t):DSXs X [st] t:=⟨fun pins s σ H σD Dn I ok q=>by
 refine wpAny_execs_cons (thn (h1.run pins s σ H σD Dn I ok q) fun f s1 z=>?_)
 cases f with
 | next=>exact wpAny_execs_nil z
 | brk=>exact z
 | cont=>exact z
 | ret v=>exact z⟩
theorem dsx_if{c:Expr}{a b:List Stmt}{tc:DTT}(hc:DT X.nox c tc)(ha:DSXs X a t)(hb:DSXs X b u):DSX X (.If c a b pos) (dIf tc t u):=⟨fun pins s σ H σD Dn I ok q=>by
 refine wpAny_If (wpAny_mono (hc.run pins s σ H X.H₀ σD _ (I.wish _) ok q) (fun d s1 ⟨H1,I1,sm,q1⟩=>?_) fun _ _ z=>False.elim z)
 cases d with
 | true=>rw [if_pos rfl] at q1;exact thn (ha.run pins s1 σ H1 σD Dn I1.unwish (ok.after sm) q1) fun _ _ z=>z.back sm.pers
 | false=>rw [if_neg Bool.false_ne_true] at q1;exact thn (hb.run pins s1 σ H1 σD Dn I1.unwish (ok.after sm) q1) fun _ _ z=>z.back sm.pers⟩
end
section
variable {P:Program}{w:World}{K:PySem.W.Frag}{mg:Str->Option Value}{base:Heap}{N:List Str}{qual:Str}{scope:Scope}{f:Addr}{cd:Value}{A:Around}{outer:List Env}{s:Shared}{H:Hp}{E:XK}
end
section
variable {P:Program}{w:World}{K:PySem.W.Frag}{mg:Str->Option Value}{base:Heap}
theorem Fun.dokX{x qual:Str}{st:Stmt}{f:Addr}{fd:FuncData}{N ps:List Str}{k:Nat}{sp:DSpX}(F:Fun K x qual st f fd)(S:FnScope N ps (defScope st))(len:∀ ws Q ex,sp ws Q ex->ws.length=ps.length)
  (hbody:∀(cdv:Value) (A:Around) (outer:List Env) (s:Shared) (H:Hp) (ws:List W) (Q:Ret->Prop) (ex:EX) (E:XK),Room k (A.deeper (envOfC qual (defScope st) s.heap.objs.size f cdv))->sp ws Q ex->(∀ c od H',XE K H ex c od H'->E c od H') ->
   ∃ t,DSXs (cxOf (CXk P w) P w K mg base N qual (defScope st) f cdv A outer s H E) (defBody st) t/\t { nx:=fun _=>Q (.val .none),rt:=Q } (startF N ws)):FnOk P w K mg base (CXk P w) (k+1) f fd ps (cnSpX K sp):=by
 obtain⟨oc,od,kV,doc,pm,an,cdv,ct,osl,rfl,lk,hcd⟩:=F.ex
 refine fn_of lk hcd S (fun vs H Q E ⟨ws,QD,ex,r,q,_⟩=>by rw [<-r.length];exact len ws QD ex q) fun A outer s H vs Q E hr ⟨ws,QD,ex,r,q,kk,ke⟩=>?_
 obtain⟨t,ht,hq⟩:=hbody cdv A outer s H ws QD ex E hr q ke
 refine⟨fun D σ H1=>∃ σD Dn,DOk K H H1 σD σ/\t Dn σD/\(∀ σ' H' σD',DOk K H H' σD' σ'->Dn.nx σD'->D.nx σ' H')/\(∀ v H' r,Same H H'->RepR K H H' r v->Dn.rt r->D.rt v H')/\(∀ σD',Dn.bk σD'->False)/\∀ σD',Dn.ct σD'->False,?_,?_⟩
 ·intro pins s1 σ H1 D I ⟨σD,Dn,ok,q1,k1,k2,k3,k4⟩
  refine thn (ht.run pins s1 σ H1 σD Dn I ok q1) fun fl s' z=>?_
  cases fl with
  | next=>obtain⟨a,b,c,e1,e2,e3,e4⟩:=z;exact⟨a,b,e1,k1 a b c e2 e4⟩
  | brk=>obtain⟨a,b,c,e1,e2,e3,e4⟩:=z;exact(k3 _ e4).elim
  | cont=>obtain⟨a,b,c,e1,e2,e3,e4⟩:=z;exact(k4 _ e4).elim
  | ret u=>obtain⟨v,a,b,r,e1,e2,e3,e4,e5⟩:=z;exact⟨v,a,b,e1,e2,k2 v b r e3 e4 e5⟩
 ·exact⟨_,_,DOk.begin r N,hq,fun σ' H' σD' ok' q'=>kk .non H' (.val .none) ok'.same .non q',fun v H' r' sm rp qr=>kk v H' r' sm rp qr,fun _ z=>z.elim,fun _ z=>z.elim⟩
end
theorem exc_match{K:PySem.W.Frag}{M:Model}{A:Around}{E:Value->Shared->Prop}{s:Shared}{C CK a:Addr}{oe:Obj}{Q:Bool->Shared->Prop}(X:K.In s.heap)(he:s.heap.get? a=some oe)(hc:oe.cls=.ref C)
  (e:PySem.W.kitCls K (.ref C) (.ref CK)=some true) (b:PySem.W.subIn K (.ref CK) (.type "BaseException")=some true) (q:Q true s):wpAny M A (excMatches (.ref a) (.ref CK)) Q E s:=by
 obtain⟨L1,L2,L3⟩:=PySem.W.kit_cls (M:=M) X e
 have L4:=PySem.W.looks_subIn (M:=M) X b
 have Lt:PySem.W.Looks M s.heap (typeOf (.ref a)) (.ref C):=hc ▸ (PySem.W.Looks.ld he).andThen .now
 have Li:PySem.W.Looks M s.heap (isInstance (.ref CK) (.type "tuple")) false:=L1.andThen (PySem.W.Looks.of_pure tc_notTuple)
 have Le:PySem.W.Looks M s.heap (isExcClass (.ref CK)) true:=L2.andThen L4
 unfold excMatches
 refine wpAny_bind (Li.here ?_)
 refine wpAny_bind (wpAny_pure ?_)
 simp only [List.forIn_cons,List.forIn_nil]
 refine wpAny_bind (wpAny_bind (wpAny_bind (Le.here ?_)))
 refine wpAny_pure ?_
 refine wpAny_pure ?_
 refine wpAny_bind (Lt.here ?_)
 refine wpAny_bind (wpAny_bind (wpAny_bind (L3.here ?_)))
 exact wpAny_pure (wpAny_pure (wpAny_pure q))
structure XCls(K:PySem.W.Frag)(CK C:Addr):Prop where
 sub:PySem.W.kitCls K (.ref C) (.ref CK)=some true
 bas:PySem.W.subIn K (.ref CK) (.type "BaseException")=some true
theorem excO_ok{P:Program}{w:World}{H:Hp}{h:Heap}{a C:Addr}{od:Option Addr}(hy:Fly h a (.ref C) od):ObjOk P w H h a (ExcO C od a):=by
 obtain⟨oe,vs,_,_,_,he,⟨h1,h2⟩,hd,_⟩:=hy
 exact⟨⟨oe,he,h1,h2,vs,hd⟩,⟨oe,he⟩,fun _ _ ⟨o,e1,r⟩ k=>⟨o,k o e1,r⟩⟩
section
variable {X:Cx}{pins:List (Addr×Obj)}{σ:St}{H H₀:Hp}{s s':Shared}{E:XK}{e:Value}
theorem caught{Q:Flow->Shared->Prop}{E':Value->Shared->Prop}{n kn:Str}{i:Nat}{b0:Stmt}{suite:List Stmt}{kp hpos:Pos}{CK:Addr}(I:Inv X pins σ H s)(hX:X.stack=X.env::X.outer)(hF:X.env.frame=some X.env.locals)(hx:CXk X.prog X.w X.stack H s E e s')
  (hg:Gl X kn) (hm:X.mg kn=some (.ref CK)) (hdb:(kn == ("__debug__" : Str))=false) (hN:X.N.Nodup) (hi:X.N[i]?=some n) (hl:X.env.scope.names.lookup n=some .local)
  (hE:∀ C od H',E (.ref C) od H'->XCls X.K CK C/\∀ a,H' a=none->∀ s2,Inv (X.held (.ref a)) pins (σ.set i (some (.ref a))) (upd H' a (ExcO C od a)) s2 ->
   wpAny (model X.prog X.w) (X.held (.ref a)).A (execs (b0::suite) X.env) (fun f s3=>∃ σ3 H3,Inv X pins σ3 H3 s3/\∀ s4,Inv X pins (List.replicate X.N.length none) H3 s4->Q f s4) (fun _ _=>False) s2) :
  wpAny (model X.prog X.w) X.A (noteFrame e X.env) (fun _ s2=>wpAny (model X.prog X.w) X.A (setFlight e none) (fun _ s3=>wpAny (model X.prog X.w) X.A (handleBy e X.env [.ExceptHandler (some (.Name kn kp)) (some n) (b0::suite) hpos]) Q E' s3) E' s2) E' s':=by
 obtain⟨a,C,od,H',rfl,os,bare,un,hok,new,fr,fly,hE'⟩:=hx
 obtain⟨XC,hsuite⟩:=hE C od H' hE'
 have J:Inv X pins σ H' s':=I.call' os un hok bare (fun b hb=>nomatch hb)
 refine noted (base:=X.base) (outer:=X.outer) (by rw [I.ok.frames,hX]) (by rw [<-hX];exact J.stack) hF (.inl fly) fun h2 S F2=>?_
 rw [<-hX] at S
 have hok2:HOk X.prog X.w H' h2:=hok.sl S J.stkFree fr
 have un2:=un.sl S (fun b o hb _=>hb) new
 have ne:∀ b u,H' b=some u->b≠a:=fun b u q z=>by rw [z,fr] at q;cases q
 have up:∀ b u,H' b=some u->upd H' a (ExcO C od a) b=some u:=fun b u q=>by rw [upd_ne (ne b u q)];exact q
 have un3:Un (frs X.stack) [] H (upd H' a (ExcO C od a)) s.heap h2:=⟨un2.keep,un2.slot,fun b o e n hx=>by
   rw [upd_ne (fun z=>by rw [z,new] at e;cases e)]
   exact un2.free b o e n hx,un2.there,fun b xs e=>up _ _ (un2.tups b xs e),fun b o u e=>up _ _ (un2.frzs b o u e),fun b ps e=>by
   obtain⟨m,q⟩:=un2.tbls b ps e
   exact⟨m,up _ _ q⟩⟩
 have hok3:HOk X.prog X.w (upd H' a (ExcO C od a)) h2:=fun b u q=>by
  by_cases z:b=a
  ·subst z
   rw [upd_same] at q
   cases q
   exact excO_ok F2
  ·rw [upd_ne z] at q
   exact(hok2 b u q).stay (fun _ _ _ q=>q) (fun c q=>up _ _ q) (fun c xs q=>up _ _ q) fun c _ _ q=>up _ _ q
 have I2:Inv X pins σ (upd H' a (ExcO C od a)) { s' with heap:=h2 }:=I.call' (s':={ s' with heap:=h2 }) os un3 hok3 bare (fun b hb=>nomatch hb)
 have I3:=I2.held (.ref a)
 refine wpAny_handleBy_cons (codeAny_handlers_test (ld_glob I3 hg hm ?_ hdb)) (by intro q;cases q)
 obtain⟨oe,vs,_,_,_,he,⟨hc,_⟩,_⟩:=id F2
 refine exc_match (s:={ s' with heap:=h2 }) I2.kIn he hc XC.sub XC.bas ?_
 refine codeAny_handlers_suite_as (lands (s:={ s' with heap:=h2 }) F2 fun h3 same=>?_)
 have I4:=I3.kept (h':=h3) (t':=s'.toks) fun b u q=>by rw [same];exact q
 refine store_ok (X:=X.held (.ref a)) I4 hN hi (.inl hl) (v:=.ref a) rfl (fun s4 I5=>?_) (.inr hl)
 refine wpAny_mono (hsuite a fr s4 I5) (fun f s5 ⟨σ5,H5,I6,k⟩=>?_) fun _ _ z=>False.elim z
 obtain⟨m,hn,_⟩:=I6.loc
 exact wpAny_nameGoes hl hn (by rw [I.ok.kind];rfl) fun h6 m6 hn6 hs6=>k _ (I6.goes hn6 hs6 _)
end
def dTry(L:List Str)(sp:DSpX)(spg:DSp)(t:DTP):DTS:=fun Dn σ=>t σ fun ws=>sp ws (fun r=>Dn.rt r) fun x=>x.1∈L/\spg [.exc x] fun r=>Dn.rt r
section
variable {X:Cx}
theorem ds_try{L:List Str}{CK:Addr}{k kg k' i:Nat}{x g n kn:Str}{ps pg:List Str}{sp:DSpX}{spg:DSp}{t:DTP}{e:Expr}{es:List Expr}{p kp hpos gp np gpos rpos rpos2 cpos pos:Pos}
  (C:CalleeX X.prog X.w X.K X.mg X.base k x ps (cnSpX X.K sp)) (G:CalleeH X.prog X.w X.K X.mg X.base kg g pg (cnSp X.K spg)) (hr:Room k' X.A) (hm:X.mg kn=some (.ref CK)) (hL:∀ y∈L,∀ D,PySem.W.nsIn X.K mainGlobals y=some (some (.ref D))->XCls X.K CK D)
  (hN:X.N.Nodup) (hi:X.N[i]?=some n) (hl:X.env.scope.names.lookup n=some .local) (hgx:Gl X x) (hgg:Gl X g) (hgk:Gl X kn) (hX:X.stack=X.env::X.outer) (hF:X.env.frame=some X.env.locals) (ha:DPs X (e::es) t)
  (hk:k<=k':=by decide) (hkg:kg<=k':=by decide) (hdx:(x == ("__debug__" : Str))=false:=by decide) (hdg:(g == ("__debug__" : Str))=false:=by decide) (hdk:(kn == ("__debug__" : Str))=false:=by decide)
  (hdn:(n == ("__debug__" : Str))=false:=by decide) (hcn:(n == ("__classdict__" : Str))=false:=by decide)
  (he:starEach (e::es) X.env=(false,eval e X.env)::starEach es X.env:=by rfl) (hpl:(backTo cpos (starEach es X.env)).any (·.1)=false:=by rfl) (hnox:X.xe=fun _ _=>False:=by rfl) :
  DS X (.Try [.Return (some (.Call (.Name x p) (e::es) [] cpos)) rpos] [.ExceptHandler (some (.Name kn kp)) (some n) [.Return (some (.Call (.Name g gp) [.Name n np] [] gpos)) rpos2] hpos] [] [] pos) (dTry L sp spg t):=⟨fun pins s σ H H₀ σD Dn I ok q=>by
 obtain⟨f,fd,F,b,kp',m⟩:=C
 refine wpAny_Try_except (wpAny_execs_cons (wpAny_Return_some (wpAny_Call_Name_kw (ld_glob I hgx m ?_ hdx))))
 refine PySem.W.callWith_K (h₀:=X.base) I.ok.mod.kin kp' (wpAny_mono (ha.run cpos pins s σ H H₀ σD _ I ok q) (fun us s1 ⟨vs,H1,ws,I1,r,s01,rp,q1⟩=>⟨I1.kIn,?_⟩) (fun _ _ z=>by rw [hnox] at z;exact False.elim z)) he hpl
 have hlen:us.length=ps.length:=by
  rw [<-r.length]
  exact F.len vs H1 (fun _ _=>True) (fun _ _ _=>True) ⟨ws,_,_,rp,q1,fun _ _ _ _ _ _=>trivial,fun _ _ _ _=>trivial⟩
 have bb:BindsTo s1 fd ⟨us,[]⟩ (ps.zip us):=by
  have:=b s1 us I1.kIn (by rw [List.append_nil];exact hlen)
  rw [List.append_nil] at this
  exact this
 refine wpAny_call (codeAny_mono (F.run X.A X.stack s1 H1 ⟨us,[]⟩ us vs (fun v H'=>∃ r,Same H1 H'/\RepR X.K H1 H' r v/\Dn.rt r) (XE X.K H1 fun x=>x.1∈L/\spg [.exc x] fun r=>Dn.rt r) (hr.mono hk) I1.env0 bb r
  ⟨ws,_,_,rp,q1,fun v H' r sm rr qq=>⟨r,sm,rr,qq⟩,fun _ _ _ z=>z⟩) fun res s' hq=>?_)
 have back:∀{H':Hp} {r:Ret} {v:V},Same H1 H'->RepR X.K H1 H' r v->RepR X.K H₀ H' r v:=fun{H' r v} sm rr=>by
  cases r with
  | val d=>exact rr
  | new xs=>obtain⟨a,vs,e1,nn,e2,r⟩:=rr;exact⟨a,vs,e1,(ok.same.trans s01).free nn,e2,r⟩
 cases res with
 | error er =>
  refine caught (i:=i) I1 hX hF hq hgk hm hdk hN hi hl fun D od H' hE=>?_
  obtain⟨x,D',eD,hns,sm,fx,hxL,hsp⟩:=hE
  cases eD
  refine⟨hL x.1 hxL D hns,fun a fr s2 J=>?_⟩
  have sm2:Same H' (upd H' a (ExcO D od a)):=same_new fr _
  have hiσ:i<σ.length:=by rw [I.len];exact(List.getElem?_eq_some_iff.mp hi).1
  have body:=pss_one (X:=X.held (.ref a)) (ps_ret (pos:=rpos2) (pe_callH (X:=X.held (.ref a)) (p:=gp) (pos:=gpos) G (hr.r0.mark _) hgg (pa_cons (pe_var (X:=X.held (.ref a)) (i:=i) (pos:=np) hi (.inl hl) hdn hcn) pa_nil) hkg hdg rfl rfl))
  refine wpAny_mono (body pins s2 _ _ { nx:=fun _ _=>False,rt:=fun v H3=>∃ r,Same (upd H' a (ExcO D od a)) H3/\RepR X.K (upd H' a (ExcO D od a)) H3 r v/\Dn.rt r } J ?_) (fun fl s3 z=>?_) fun _ _ z=>z
  ·refine⟨.ref a,List.getElem?_set_self hiσ,[.exc x],_,.cons ⟨a,D,od,rfl,hns,upd_same,?_⟩ .nil,hsp,fun v H3 r sm3 rr qq=>⟨r,sm3,rr,qq⟩⟩
   rcases fx with fx | ⟨d,ed,fx⟩
   ·exact .inl fx
   ·exact .inr ⟨d,ed,sm2 _ _ fx⟩
  ·cases fl with
   | next=>obtain⟨_,_,_,z⟩:=z;exact z.elim
   | brk=>obtain⟨_,_,_,z⟩:=z;exact False.elim z
   | cont=>obtain⟨_,_,_,z⟩:=z;exact False.elim z
   | ret u =>
    obtain⟨v,σ3,H3,J3,rv,r,sm3,rr,qq⟩:=z
    refine⟨σ3,H3,J3.unheld I.ok,fun s4 J4=>⟨v,_,H3,r,J4,rv,ok.same.trans (s01.trans (sm.trans (sm2.trans sm3))),?_,qq⟩⟩
    cases r with
    | val d=>exact rr
    | new xs=>obtain⟨b',vs',e1,nn,e2,r⟩:=rr;exact⟨b',vs',e1,(ok.same.trans (s01.trans (sm.trans sm2))).free nn,e2,r⟩
 | ok fl =>
  cases fl with
  | ret u =>
   obtain⟨v,H',J,rv,r,sm,rr,qq⟩:=I1.after hq
   exact⟨v,σ,H',r,J,rv,ok.same.trans (s01.trans sm),back sm rr,qq⟩
  | next=>exact False.elim hq
  | brk=>exact False.elim hq
  | cont=>exact False.elim hq⟩
end
end L2
namespace L2
open PySem PySem.Spec PyProof.Rows PySem.W
section
variable {prog:Program}{w:World}{A:Around}{E:Value->Shared->Prop}{s:Shared}{K:Frag}{x C:Addr}{ox:Obj}{od:Option Obj}
theorem exc_check{nameV:Value}{Q:Unit->Shared->Prop}{M:Model}(X:K.In s.heap)(I:InstAt s.heap x ox C od)(hb:mroIn K C (.type "BaseException")=some true)(q:Q () s):
  wpAny M A (checkBuiltinCall "BaseException.__getattribute__" ⟨[.ref x,nameV],[]⟩) Q E s:=by
 have hk:builtinKind "BaseException.__getattribute__" = some .slot:=by decide +kernel
 have hsplit:splitId "BaseException.__getattribute__" = some ("BaseException", "__getattribute__"):=by decide +kernel
 have L1:Looks M s.heap (isInstance (.ref x) (.type "BaseException")) true:=I.type.andThen (looks_mroIn X hb)
 have ha:=PySem.F.args_bexc_ga (.ref x) nameV
 simp only [checkBuiltinCall,hk,hsplit]
 refine wpAny_bind (L1.here ?_)
 repeat (any_goals (first | assumption | wp_step))
theorem exc_ga_class{tk:Tok}{R:Result->Shared->Prop}(X:K.In s.heap)(I:InstAt s.heap x ox C od)(hb:mroIn K C (.type "BaseException")=some true)
  (hf:findObj K C od "__class__" = some (.bind (.builtin "getset_descriptor.__get__") (.builtin "object.__class__"))) (hm:mroIn K C (.type "object")=some true) (q:R (.ok (.ret (.ref C))) s) :
  codeAny (model prog w) A (.call (.builtin "BaseException.__getattribute__") ⟨[.ref x,.str "__class__" tk],[]⟩) R s:=by
 refine codeAny_call_builtin PySem.F.attr_ValueError.ga.plain PySem.F.entry_bexc_ga (exc_check X I hb ?_)
 have L0:=I.type (M:=model prog w)
 have L1:=looks_find (M:=model prog w) X I hf
 obtain⟨hh,g,dr,t,os⟩:=s
 unfold Builtin.«object.__getattribute__»
 repeat (any_goals (first | assumption | exact L0.at ‹_› | wp_step))
 refine wpAny_loadPart_at I.at_ (wpAny_pure ?_)
 rw [I.cls]
 refine wpAny_bind (L1.at ?_)
 unfold Builtin.ObjectAttr.bindTo
 repeat (any_goals (first | assumption | wp_step))
 exact class_get X I hm (wpAny_pure q)
theorem exc_class{Q:Option Value->Shared->Prop}(X:K.In s.heap)(I:InstAt s.heap x ox C od)(hga:findIn K (.ref C) "__getattribute__" = some (some (.builtin "BaseException.__getattribute__")))(hhk:findIn K (.ref C) "__getattr__" = some none)(hb:mroIn K C (.type "BaseException")=some true)
  (hf:findObj K C od "__class__" = some (.bind (.builtin "getset_descriptor.__get__") (.builtin "object.__class__"))) (hm:mroIn K C (.type "object")=some true) (q:Q (some (.ref C)) { s with toks:=s.toks+1 }) :
  wpAny (model prog w) A (getAttr? (.ref x) "__class__") Q E s:=by
 have L0:=I.type (M:=model prog w)
 have L1:=looks_findIn (M:=model prog w) X hga
 have L2:=looks_findIn (M:=model prog w) X hhk
 obtain⟨hh,g,d,t,os⟩:=s
 unfold getAttr? getAttrBy? getAttrBy
 refine wpAny_bind (wpAny_mkText (wpAny_bind (wpAny_attempt (wpAny_holding (wpAny_bind (L0.at (wpAny_bind (L1.at ?_))))))))
 dsimp only
 rw [if_neg (by rw [show(Value.builtin "BaseException.__getattribute__" == Value.builtin "object.__getattribute__")=false by decide +kernel,Bool.and_false];decide)]
 unfold getAttrByItsOwn hookBefore
 rw [if_pos (by rfl)]
 refine wpAny_bind (L2.at (wpAny_bind (wpAny_attempt (wpAny_holding ?_))))
 unfold callGetattribute
 rw [if_neg (by decide +kernel)]
 unfold boundAndCalled
 refine wpAny_bind (wpAny_of_eq (PySem.F.attr_ValueError.ga.bind (.ref x)) ?_)
 refine wpAny_call (exc_ga_class (s:=⟨hh,g,d,t+1,os⟩) X I hb hf hm ?_)
 exact handed_on rfl (wpAny_pure q)
end
structure XIs(K:Frag)(C:Addr):Prop where
 ga:findIn K (.ref C) "__getattribute__" = some (some (.builtin "BaseException.__getattribute__"))
 hk:findIn K (.ref C) "__getattr__" = some none
 bas:mroIn K C (.type "BaseException")=some true
 dct:hasDictIn K C=true
 fnd:findIn K (.ref C) "__class__" = some (some (.builtin "object.__class__"))
 spc:specialIn K (.builtin "object.__class__") "__get__" = some (some (.builtin "getset_descriptor.__get__"))
 tks:takesIn K (.builtin "object.__class__")=some true
 mro:mroIn K C (.type "object")=some true
theorem cls_look{K:Frag}{C:Addr}(h:hasDictIn K C=true):∃ cd,clsIn K C=some cd/\∃ c d sl,K.lookup C=some ⟨c,d,.cls cd,sl⟩:=by
 unfold hasDictIn at h
 cases e:clsIn K C with
 | none=>rw [e] at h;cases h
 | some cd =>
  refine⟨cd,rfl,?_⟩
  unfold clsIn at e
  split at e
  ·next ho=>cases e;exact⟨_,_,_,ho⟩
  ·cases e
theorem kitx_exc{K:Frag}{a C:Addr}(Z:XIs K C):KitX K (.ref a) (.ref C) (fun h=>∃ ox od,InstAt h a ox C od) where
 ty:=fun M h _ ⟨ox,od,I⟩=>I.type
 it:=fun M h X _=>by
  obtain⟨cd,_,c,d,sl,ho⟩:=cls_look Z.dct
  exact(Looks.ld (X _ _ ho)).andThen .now
 ne:=fun h tp dd its n sl X htp=>by
  obtain⟨cd,_,c,d,sl',ho⟩:=cls_look Z.dct
  cases q:(Value.ref C == Value.ref tp) with
  | false=>rfl
  | true =>
   cases beq_iff_eq.mp q
   have z:=(X _ _ ho).symm.trans htp
   cases z
 ca:=fun{prog w A E Q s} X ⟨ox,od,I⟩ k=>by
  obtain⟨cd,hc,_⟩:=cls_look Z.dct
  have hf:findObj K C od "__class__" = some (.bind (.builtin "getset_descriptor.__get__") (.builtin "object.__class__")):=by
   unfold findObj
   rw [hc,Option.bind_some,Z.fnd,Option.bind_some]
   simp [Z.spc,Z.tks]
  exact exc_class X I Z.ga Z.hk Z.bas hf Z.mro k
section
variable {X:Cx}{pins:List (Addr×Obj)}{σ:St}{H:Hp}{s:Shared}
def XDc(H:Hp)(od:Option Addr):Prop:=od=none\/∃ d fs,od=some d/\H d=some (.xd fs)
theorem XDc.of{K:Frag}{x:Str×List (Str×Int)}{od:Option Addr}(h:(x.2 = []/\od=none)\/∃ d,od=some d/\H d=some (.xd (x.2.map fun p=>(p.1,V.int p.2)))):XDc H od:=by
 rcases h with h | ⟨d,e,h⟩
 ·exact .inl h.2
 ·exact .inr ⟨d,_,e,h⟩
theorem inst_exc(I:Inv X pins σ H s){a C:Addr}{od:Option Addr}(h:H a=some (ExcO C od a))(hd:XDc H od):∃ ox oo,InstAt s.heap a ox C oo:=by
 obtain⟨⟨oe,he,hc,hdi,vs,hf⟩,_,_⟩:=I.hok _ _ h
 have hno:notCls oe=true:=by unfold notCls;rw [hf]
 rcases hd with rfl | ⟨d,fs,rfl,hx⟩
 ·exact⟨oe,none,he,hc,hno,by rw [hdi];trivial⟩
 ·obtain⟨o,ho⟩:=(I.hok _ _ hx).ex
  exact⟨oe,some o,he,hc,hno,by rw [hdi];exact ho⟩
def dIsX(i:Nat)(tab:Str->Option Bool):DTE:=fun σ Q=>match σ[i]? with
 | some (some (.exc x))=>(match tab x.1 with
  | some b=>Q (.bool b)
  | none=>False)
 | _=>False
variable {e:Expr}{pos p:Pos}
theorem de_isX(i:Nat){x:Str}{px:Pos}{tab:Str->Option Bool}{c:Value}{cv:V}(rc:∀ u,RelV cv u->u=c)(hk:∀ nm b,tab nm=some b->∀ C,nsIn X.K mainGlobals nm=some (some (.ref C))->XIs X.K C/\kitOne X.K (.ref C) c=some b)
  (hg:Gl X "isinstance") (hm:X.mg "isinstance" = none) (hv:bootBuiltins "isinstance" = some (.builtin "isinstance")) (h2:PE X e (tC cv)) (hN:X.N[i]?=some x:=by rfl) (hvs:Vis X.env.scope x:=by first | exact Or.inl rfl | exact Or.inr (Or.inl rfl) | exact Or.inr (Or.inr rfl))
  (hd:(x == ("__debug__" : Str))=false:=by decide) (hcd:(x == ("__classdict__" : Str))=false:=by decide)
  (he:starEach [.Name x px,e] X.env=(false,eval (.Name x px) X.env)::starEach [e] X.env:=by rfl) (he2:starEach [e] X.env=(false,eval e X.env)::starEach [] X.env:=by rfl) (hpl:(backTo pos (starEach [e] X.env)).any (·.1)=false:=by rfl) :
  DE X (.Call (.Name "isinstance" p) [.Name x px,e] [] pos) (dIsX i tab):=by
 have hc:CallR X (.builtin "isinstance") (fun vs H Q=>∃ nm b a C od,vs = [.ref a,cv]/\tab nm=some b/\nsIn X.K mainGlobals nm=some (some (.ref C))/\H a=some (ExcO C od a)/\XDc H od/\Q (.bl b) H):=fun pins s σ H xs us Q I rv ⟨nm,b,a,C,od,e,ht,hn,ha,hd,q⟩=>by
  subst e
  obtain⟨u,w,rfl,r1,r2⟩:=rv.two
  cases r1
  cases rc _ r2
  obtain⟨Z,ek⟩:=hk nm b ht C hn
  exact kia_one (kitx_exc Z) I.kIn (inst_exc I ha hd) ek (fun z=>nomatch z) fun tk=>⟨.bl b,H,I.tok tk,rfl,q⟩
 refine DE.of (pe_callB hc hg hm hv (pa_cons (pe_var (i:=i) hN hvs hd hcd) (pa_cons h2 pa_nil he2) he) (by decide) (by decide) he hpl) fun σ H H₀ σD QD ok q=>?_
 unfold dIsX at q
 split at q
 ·next x' e' =>
  obtain⟨v,e1,a,C,od,rfl,hn,ha,hf⟩:=ok.exc e'
  split at q
  ·next b ht=>exact⟨.ref a,e1,x'.1,b,a,C,od,rfl,ht,hn,ha,XDc.of (K:=X.K) hf,.bool b,Same.refl _,.bl,q⟩
  ·exact q.elim
 ·exact q.elim
theorem de_isXT(i:Nat){x:Str}{px tp:Pos}{k:Nat}{es:List Expr}{tab:Str->Option Bool}{cs:List Value}{cvs:List V}(rc:∀ us,Vals cvs us->us=cs)(hk:∀ nm b,tab nm=some b->∀ C,nsIn X.K mainGlobals nm=some (some (.ref C))->XIs X.K C/\kitAny X.K (.ref C) cs=some b)
  (hg:Gl X "isinstance") (hm:X.mg "isinstance" = none) (hv:bootBuiltins "isinstance" = some (.builtin "isinstance")) (h2:PA X es (fun _ H Q=>Q cvs H)) (hz:cvs.length<=sizeLine) (hN:X.N[i]?=some x:=by rfl) (hvs:Vis X.env.scope x:=by first | exact Or.inl rfl | exact Or.inr (Or.inl rfl) | exact Or.inr (Or.inr rfl))
  (hd:(x == ("__debug__" : Str))=false:=by decide) (hcd:(x == ("__classdict__" : Str))=false:=by decide)
  (he:starEach [.Name x px,.Tuple es k tp] X.env=(false,eval (.Name x px) X.env)::starEach [.Tuple es k tp] X.env:=by rfl) (he2:starEach [.Tuple es k tp] X.env=(false,eval (.Tuple es k tp) X.env)::starEach [] X.env:=by rfl) (hpl:(backTo pos (starEach [.Tuple es k tp] X.env)).any (·.1)=false:=by rfl) :
  DE X (.Call (.Name "isinstance" p) [.Name x px,.Tuple es k tp] [] pos) (dIsX i tab):=by
 have hc:CallR X (.builtin "isinstance") (fun vs H Q=>∃ nm b a C od q,vs = [.ref a,.ref q]/\tab nm=some b/\nsIn X.K mainGlobals nm=some (some (.ref C))/\H a=some (ExcO C od a)/\XDc H od/\SqT X.K H q cvs/\Q (.bl b) H):=fun pins s σ H xs us Q I rv ⟨nm,b,a,C,od,tq,e,ht,hn,ha,hd,hq,q⟩=>by
  subst e
  obtain⟨u,w,rfl,r1,r2⟩:=rv.two
  cases r1
  cases r2
  obtain⟨Z,ek⟩:=hk nm b ht C hn
  obtain⟨its,rr,⟨⟨c',dd,dt,sl⟩,h1,h2,⟨n,h3⟩,_⟩,_⟩:=I.tupleD hq
  cases rc _ rr
  simp only at h2 h3
  subst h2 h3
  exact kia_tup (kitx_exc Z) I.kIn (inst_exc I ha hd) h1 ek (fun z=>nomatch z) fun tk=>⟨.bl b,H,I.tok tk,rfl,q⟩
 refine DE.of (pe_callB hc hg hm hv (pa_cons (pe_var (i:=i) hN hvs hd hcd) (pa_cons (pe_tup h2) pa_nil he2) he) (by decide) (by decide) he hpl) fun σ H H₀ σD QD ok q=>?_
 unfold dIsX at q
 split at q
 ·next x' e' =>
  obtain⟨v,e1,a,C,od,rfl,hn,ha,hf⟩:=ok.exc e'
  split at q
  ·next b ht =>
   refine⟨.ref a,e1,hz,fun tq hq=>?_⟩
   have sm:=same_new hq (.tup cvs)
   have ok2:=ok.after sm
   obtain⟨v2,e2,a2,C2,od2,rfl,hn2,ha2,hf2⟩:=ok2.exc e'
   rw [e1] at e2
   cases e2
   exact⟨x'.1,b,a,C2,od2,tq,rfl,ht,hn2,ha2,XDc.of (K:=X.K) hf2,SqT.of upd_same,.bool b,sm,.bl,q⟩
  ·exact q.elim
 ·exact q.elim
theorem pa_tyNil:PA X [] (fun _ H Q=>Q [] H):=pa_nil
theorem pa_tyCons{es:List Expr}{v:V}{vs:List V}(h:PE X e (tC v))(t:PA X es (fun _ H Q=>Q vs H))(hs:starEach (e::es) X.env=(false,eval e X.env)::starEach es X.env:=by rfl):PA X (e::es) (fun _ H Q=>Q (v::vs) H):=pa_cons h t hs
def dNeverE:DTE:=fun _ _=>False
theorem de_neverE:DE X e dNeverE:=⟨fun _ _ _ _ _ _ _ _ _ h=>h.elim⟩
theorem o_eq0{k:Nat}(hr:Room0 k X.A):OpD X (compareOp .Eq) gEq:=⟨fun pins s σ H x y v u a b Q I rx ry ra rb q=>by
 have G:=(o_eqG (X:=X) hr.units).run pins s σ H x y v u a b Q I rx ry ra rb
 have S:=(o_eqS (X:=X) (f:=fun _ _=>true) false .Eq op_eq).run pins s σ H x y v u a b Q I rx ry ra rb
 cases a <;> cases b <;> first | exact S q | exact G q⟩
theorem o_ne0{k:Nat}(hr:Room0 k X.A):OpD X (compareOp .NotEq) gNe:=⟨fun pins s σ H x y v u a b Q I rx ry ra rb q=>by
 have G:=(o_neG (X:=X) hr.units).run pins s σ H x y v u a b Q I rx ry ra rb
 have S:=(o_eqS (X:=X) (f:=fun _ _=>true) true .NotEq op_ne).run pins s σ H x y v u a b Q I rx ry ra rb
 cases a <;> cases b <;> first | exact S q | exact G q⟩
def isBX(k:Bool):Value->Bool
 | .bool i=>i == k
 | _=>false
theorem bool_valsX:∀{bs:List Bool} {its:List Value},Vals (bs.map V.bl) its->its=bs.map Value.bool
 | [],_,.nil=>rfl
 | b::bs,_,.cons h t=>by
  have h:_=Value.bool b:=h
  rw [h,bool_valsX t]
  rfl
theorem mt_countX:MtR X "list.count" (fun x vs H Q=>∃(l:Addr) (bs:List Bool) (k:Bool),x=.ref l/\vs = [.bl k]/\Rd H l (.lst (bs.map V.bl))/\Q (.int ((bs.count k:Nat):Int)) H):=by
 intro pins s σ H x vs v us Q I rx rv h
 obtain⟨l,bs,k,rfl,rfl,hR,q⟩:=h
 cases rx
 obtain⟨u,rfl,ru⟩:=rv.one
 cases ru
 obtain⟨z,its,n,r,e⟩:=hR.ok I.hok
 cases bool_valsX r
 refine call_meets F.slot_list_count ⟨_,e,rfl⟩ F.entry_list_count (F.args_list_count_2 _ _) (PySem.SeqAt.list_countAt l (bs.map Value.bool).toArray n none #[] (.bool k) (isBX k)) ⟨e,fun y hy=>?_,?_⟩
 ·obtain⟨b,_,rfl⟩:=List.mem_map.mp (List.mem_toArray.mp hy)
  exact PySem.SeqAt.EqAt.bool_bool b k
 ·have ec:(bs.map Value.bool).countP (isBX k)=bs.count k:=by
   rw [List.countP_map]
   rfl
  rw [List.toList_toArray,ec]
  exact⟨.int ((bs.count k:Nat):Int),H,I.tok _,⟨_,rfl⟩,q⟩
theorem mt_indexX:MtR X "list.index" (fun x vs H Q=>∃(l:Addr) (bs:List Bool) (k:Bool) (j:Nat),x=.ref l/\vs = [.bl k]/\Rd H l (.lst (bs.map V.bl))/\bs.findIdx? (· == k)=some j/\Q (.int (j:Int)) H):=by
 intro pins s σ H x vs v us Q I rx rv h
 obtain⟨l,bs,k,j,rfl,rfl,hR,hj,q⟩:=h
 cases rx
 obtain⟨u,rfl,ru⟩:=rv.one
 cases ru
 obtain⟨z,its,n,r,e⟩:=hR.ok I.hok
 cases bool_valsX r
 obtain⟨hlt,hit,hno⟩:=List.findIdx?_eq_some_iff_getElem.mp hj
 rw [List.length_map] at z
 have zl:=sizeLine_eq
 refine call_meets F.slot_list_index ⟨_,e,rfl⟩ F.entry_list_index (F.args_list_index_2 _ _) (PySem.SeqAt.list_indexAt l (bs.map Value.bool).toArray n none #[] (.bool k) (isBX k) j (by simpa using hlt) (by omega) ?_ fun m hm hmj=>?_) ⟨e,fun y hy=>?_,?_⟩
 ·simp only [List.getElem_toArray,List.getElem_map]
  exact hit
 ·simp only [List.getElem_toArray,List.getElem_map]
  have:=hno m hmj
  simpa [isBX] using this
 ·obtain⟨b,_,rfl⟩:=List.mem_map.mp (List.mem_toArray.mp hy)
  exact PySem.SeqAt.EqAt.bool_bool b k
 ·exact⟨.int (j:Int),H,I.tok _,⟨_,rfl⟩,q⟩
variable {o:Expr}{to te:DTE}{apos cpos:Pos}
def dCntX(to te:DTE):DTE:=fun σ Q=>to σ fun d=>match d with
 | .list xs=>te σ fun k=>(match k with
  | .bool c=>(match boolsD xs with
   | some bs=>Q (.int ((bs.count c:Nat):Int))
   | none=>False)
  | _=>False)
 | _=>False
def dIdxX(to te:DTE):DTE:=fun σ Q=>to σ fun d=>match d with
 | .list xs=>te σ fun k=>(match k with
  | .bool c=>(match boolsD xs with
   | some bs=>(match bs.findIdx? (· == c) with
    | some j=>Q (.int (j:Nat))
    | none=>False)
   | none=>False)
  | _=>False)
 | _=>False
theorem de_countX(ho:DV X o to)(ha:DE X e te)(hbase:attributeBase o "count" X.env (eval o X.env)=eval o X.env:=by rfl)
  (hfew:((backTo cpos (starEach [e] X.env)).all (fun x=>!x.1) && (backToKw cpos (keywordEach [] X.env)).all (fun x=>x.1.isSome) && decide (([e]:List Expr).length+([]:List Keyword).length+(if ([]:List Keyword).isEmpty then 0 else 1)<30))=true:=by rfl)
  (hline:(apos.endLine == cpos.line)=true:=by rfl) (hs:starEach [e] X.env=(false,eval e X.env)::starEach [] X.env:=by rfl) (hplain:(backTo cpos (starEach [] X.env)).any (·.1)=false:=by rfl) :
  DE X (.Call (.Attribute o "count" apos) [e] [] cpos) (dCntX to te) :=
 DE.of (pe_bm F.plainAttrs_list F.slot_list_count F.type_list_count mt_countX ho.pe (pa_cons ha.pe pa_nil hs) hbase hfew hline hs hplain) fun σ H H₀ σD QD ok q=>⟨H₀,σD,_,ok,q,fun v H1 d s1 r1 q1=>by
  cases d with
  | list xs =>
   obtain⟨a,vs,rfl,hR,rp⟩:=r1.list
   refine⟨.inl ⟨rfl,vs,.inl hR⟩,H₀,σD,_,ok.after s1,q1,fun v2 H2 d2 s2 r2 q2=>?_⟩
   cases d2 with
   | bool c =>
    cases r2
    dsimp only at q2
    split at q2
    ·next bs hb =>
     have e:=boolsD_rep rp hb
     subst e
     refine⟨a,bs,c,rfl,rfl,s2.rd hR,.int _,s1.trans s2,.int,q2⟩
    ·exact q2.elim
   | _=>exact q2.elim
  | _=>exact q1.elim⟩
theorem de_indexX(ho:DV X o to)(ha:DE X e te)(hbase:attributeBase o "index" X.env (eval o X.env)=eval o X.env:=by rfl)
  (hfew:((backTo cpos (starEach [e] X.env)).all (fun x=>!x.1) && (backToKw cpos (keywordEach [] X.env)).all (fun x=>x.1.isSome) && decide (([e]:List Expr).length+([]:List Keyword).length+(if ([]:List Keyword).isEmpty then 0 else 1)<30))=true:=by rfl)
  (hline:(apos.endLine == cpos.line)=true:=by rfl) (hs:starEach [e] X.env=(false,eval e X.env)::starEach [] X.env:=by rfl) (hplain:(backTo cpos (starEach [] X.env)).any (·.1)=false:=by rfl) :
  DE X (.Call (.Attribute o "index" apos) [e] [] cpos) (dIdxX to te) :=
 DE.of (pe_bm F.plainAttrs_list F.slot_list_index F.type_list_index mt_indexX ho.pe (pa_cons ha.pe pa_nil hs) hbase hfew hline hs hplain) fun σ H H₀ σD QD ok q=>⟨H₀,σD,_,ok,q,fun v H1 d s1 r1 q1=>by
  cases d with
  | list xs =>
   obtain⟨a,vs,rfl,hR,rp⟩:=r1.list
   refine⟨.inl ⟨rfl,vs,.inl hR⟩,H₀,σD,_,ok.after s1,q1,fun v2 H2 d2 s2 r2 q2=>?_⟩
   cases d2 with
   | bool c =>
    cases r2
    dsimp only at q2
    split at q2
    ·next bs hb =>
     split at q2
     ·next j hj =>
      have e:=boolsD_rep rp hb
      subst e
      refine⟨a,bs,c,j,rfl,rfl,s2.rd hR,hj,.int _,s1.trans s2,.int,q2⟩
     ·exact q2.elim
    ·exact q2.elim
   | _=>exact q2.elim
  | _=>exact q1.elim⟩
end
end L2
namespace L2
open PySem PySem.Spec PyProof.Rows PySem.W
def tabX(L:List Str)(t:Str):Str->Option Bool:=fun nm=>if L.contains nm then some (nm == t) else none
def tabB(L:List Str)(b:Bool):Str->Option Bool:=fun nm=>if L.contains nm then some b else none
section
variable {K:Frag}{C D:Addr}{t:Value}{b:Bool}
theorem kitCls_of(hd:hasDictIn K D=true)(ht:typeIn K (.ref D)=some (.type "type"))(hs:subIn K t (.ref D)=some b):kitCls K t (.ref D)=some b:=by
 obtain⟨cd,hc,_⟩:=cls_look hd
 show(if ((clsIn K D).isSome && typeIn K (.ref D) == some (.type "type"))=true then subIn K t (.ref D) else none)=some b
 rw [hc,ht,if_pos (by rfl)]
 exact hs
theorem kitOne_ne(h:C≠D)(k:kitCls K (.ref C) (.ref D)=some b):kitOne K (.ref C) (.ref D)=some b:=by
 unfold kitOne
 rw [if_neg (fun q=>h (Value.ref.inj (beq_iff_eq.mp q)))]
 exact k
theorem kitOne_self:kitOne K (.ref C) (.ref C)=some true:=by
 unfold kitOne
 rw [if_pos (by exact beq_self_eq_true _)]
theorem kitOne_ty{T:String}(hm:kitMeta T=true)(hs:subIn K (.ref C) (.type T)=some b):kitOne K (.ref C) (.type T)=some b:=by
 unfold kitOne
 rw [if_neg (fun q=>by cases beq_iff_eq.mp q)]
 show(if kitMeta T=true then subIn K (.ref C) (.type T) else none)=some b
 rw [if_pos hm]
 exact hs
theorem kitAny_no{c:Value}{cs:List Value}(h:kitOne K t c=some false)(r:kitAny K t cs=some b):kitAny K t (c::cs)=some b:=by
 unfold kitAny
 rw [h]
 exact r
theorem kitAny_nil:kitAny K t []=some false:=rfl
theorem fa_nil{P:Str->Prop}:∀ r∈([]:List Str),P r:=fun _ h=>nomatch h
theorem fa_cons{P:Str->Prop}{a:Str}{l:List Str}(h:P a)(t:∀ r∈l,P r):∀ r∈a::l,P r:=fun r hr=>by
 rcases List.mem_cons.mp hr with rfl | hr
 ·exact h
 ·exact t r hr
theorem tab_of{c:Value->Prop}{L:List Str}{tab:Str->Option Bool}{F:Addr->Bool->Prop}(hL:∀ nm b,tab nm=some b->nm∈L)
  (h:∀ r∈L,∃ C,nsIn K mainGlobals r=some (some (.ref C))/\∀ b,tab r=some b->F C b):∀ nm b,tab nm=some b->∀ C,nsIn K mainGlobals nm=some (some (.ref C))->F C b:=fun nm b e C hC=>by
 obtain⟨C',h1,h2⟩:=h nm (hL nm b e)
 rw [h1] at hC
 cases hC
 exact h2 b e
theorem tabX_in{L:List Str}{t:Str}:∀ nm b,tabX L t nm=some b->nm∈L:=fun nm b e=>by
 unfold tabX at e
 split at e
 ·next h=>exact List.contains_iff_mem.mp h
 ·cases e
theorem tabB_in{L:List Str}{v:Bool}:∀ nm b,tabB L v nm=some b->nm∈L:=fun nm b e=>by
 unfold tabB at e
 split at e
 ·next h=>exact List.contains_iff_mem.mp h
 ·cases e
theorem tab_at{tab:Str->Option Bool}{r:Str}{v:Bool}{F:Addr->Bool->Prop}(hC:nsIn K mainGlobals r=some (some (.ref C)))(ht:tab r=some v)(f:F C v):∃ C,nsIn K mainGlobals r=some (some (.ref C))/\∀ b,tab r=some b->F C b :=
 ⟨C,hC,fun b e=>by rw [ht] at e;cases e;exact f⟩
theorem ns_at{r:Str}{F:Addr->Prop}(hC:nsIn K mainGlobals r=some (some (.ref C)))(f:F C):∀ D,nsIn K mainGlobals r=some (some (.ref D))->F D:=fun D e=>by rw [hC] at e;cases e;exact f
theorem vals_cls:∀(ps:List (V×Value)),(∀ p∈ps,∀ u,RelV p.1 u->u=p.2)->∀ us,Vals (ps.map (·.1)) us->us=ps.map (·.2)
 | [],_,_,.nil=>rfl
 | p::ps,h,_,.cons r t=>by rw [h p List.mem_cons_self _ r,vals_cls ps (fun q hq=>h q (List.mem_cons_of_mem _ hq)) _ t];rfl
end
theorem dseq_by{t R:DTS}{Dn:DEnds}{σ:DSt}(P:DSt->Prop)(h:∀ N:DSt->Prop,(∀ σ',P σ'->N σ')->t { Dn with nx:=N } σ)(k:∀ σ',P σ'->R Dn σ'):dSeq t R Dn σ:=h _ k
section
variable {X:Cx}
end
end L2
namespace L2
open PySem PySem.Spec PyProof.Rows
section
variable {X:Cx}
end
section
variable {K:PySem.W.Frag}{H₀ H:Hp}{σD:DSt}{σ:St}
def O.with:O->O->O
 | .anc a o,o'=>.anc a (o.with o')
 | _,o'=>o'
theorem RepO.ref{o:O}{v:V}{f:List Addr}(h:RepO K H o v f):∃ a,v=.ref a:=by
 induction o with
 | anc a o ih=>exact⟨a,h.1⟩
 | lst xs=>obtain⟨a,_,e,_⟩:=h;exact⟨a,e⟩
 | dct xs=>obtain⟨a,_,e,_⟩:=h;exact⟨a,e⟩
 | nst xs ds=>obtain⟨a,_,_,e,_⟩:=h;exact⟨a,e⟩
 | ins c fs=>obtain⟨a,_,_,_,e,_⟩:=h;exact⟨a,e⟩
 | mix ms=>obtain⟨a,_,_,e,_⟩:=h;exact⟨a,e⟩
theorem RepO.with{H':Hp}{o o':O}{v:V}{f f':List Addr}(h:RepO K H o v f)(h':RepO K H' o' v f'):RepO K H' (o.with o') v f':=by
 induction o with
 | anc a o ih=>exact⟨h.1,ih h.2⟩
 | _=>exact h'
end
def W.plain:W->Bool
 | .val _=>true
 | .pen=>true
 | _=>false
theorem RepWs.mono{K:PySem.W.Frag}{H H':Hp}(p:Pers H H'):∀{ws:List W} {vs:List V},(∀ w∈ws,w.plain=true)->RepWs K H ws vs->RepWs K H' ws vs
 | [],_,_,.nil=>.nil
 | w::ws,_,h,.cons r t=>by
  refine .cons ?_ (RepWs.mono p (fun x hx=>h x (List.mem_cons_of_mem _ hx)) t)
  have:=h w List.mem_cons_self
  cases w with
  | val d=>exact Rep.mono p r
  | pen=>obtain⟨a,rfl,r⟩:=r;exact⟨a,rfl,p _ _ r rfl⟩
  | _=>cases this
abbrev DSpG:=List W->O->List W->(D->O->Prop)->Prop
structure GEnds where
 nx:DSt->Prop
 rt:D->DSt->Prop
 bk:DSt->Prop:=fun _=>False
 ct:DSt->Prop:=fun _=>False
abbrev GTS:=GEnds->DSt->Prop
def gEnds(K:PySem.W.Frag)(H₀ H:Hp)(Gn:GEnds):Ends where
 nx:=fun σ' H'=>∃ σD',DOk K H₀ H' σD' σ'/\Pers H H'/\Gn.nx σD'
 bk:=fun σ' H'=>∃ σD',DOk K H₀ H' σD' σ'/\Pers H H'/\Gn.bk σD'
 ct:=fun σ' H'=>∃ σD',DOk K H₀ H' σD' σ'/\Pers H H'/\Gn.ct σD'
 rt:=fun v H'=>∃ σ' σD' d,DOk K H₀ H' σD' σ'/\Rep K H' d v/\Gn.rt d σD'
structure DGS(X:Cx)(st:Stmt)(t:GTS):Prop where
 run:∀(pins:List (Addr×Obj)) (s:Shared) (σ:St) (H H₀:Hp) (σD:DSt) (Gn:GEnds),Inv X pins σ H s->DOk X.K H₀ H σD σ->t Gn σD->wpAny (model X.prog X.w) X.A (exec st X.env) (SP X pins (gEnds X.K H₀ H Gn)) X.xe s
structure DGSs(X:Cx)(st:List Stmt)(t:GTS):Prop where
 run:∀(pins:List (Addr×Obj)) (s:Shared) (σ:St) (H H₀:Hp) (σD:DSt) (Gn:GEnds),Inv X pins σ H s->DOk X.K H₀ H σD σ->t Gn σD->wpAny (model X.prog X.w) X.A (execs st X.env) (SP X pins (gEnds X.K H₀ H Gn)) X.xe s
section
variable {X:Cx}{st:Stmt}{sts rest:List Stmt}{t u:GTS}{e:Expr}{te:DTE}{pos:Pos}
theorem DGS.of{t':TS}(h:PS X st t')(k:∀ σ H H₀ σD Gn,DOk X.K H₀ H σD σ->t Gn σD->t' (gEnds X.K H₀ H Gn) σ H):DGS X st t :=
 ⟨fun pins s σ H H₀ σD Gn I ok q=>h pins s σ H _ I (k σ H H₀ σD Gn ok q)⟩
def cnGG(K:PySem.W.Frag)(t:GTS):TS:=fun E σ H=>∃ H₀ σD Gn,DOk K H₀ H σD σ/\t Gn σD/\(∀ σ' H' σD',DOk K H₀ H' σD' σ'->Pers H H'->Gn.nx σD'->E.nx σ' H')/\(∀ v H' σ' σD' d,DOk K H₀ H' σD' σ'->Rep K H' d v->Gn.rt d σD'->E.rt v H') /\
 (∀ σ' H' σD',DOk K H₀ H' σD' σ'->Pers H H'->Gn.bk σD'->E.bk σ' H')/\∀ σ' H' σD',DOk K H₀ H' σD' σ'->Pers H H'->Gn.ct σD'->E.ct σ' H'
theorem DGSs.ps(h:DGSs X sts t):PSs X sts (cnGG X.K t):=fun pins s σ H E I ⟨H₀,σD,Gn,ok,q,k1,k2,k3,k4⟩=>thn (h.run pins s σ H H₀ σD Gn I ok q) fun f s' z=>by
 cases f with
 | next=>obtain⟨a,b,e1,c,e2,e3,e4⟩:=z;exact⟨a,b,e1,k1 a b c e2 e3 e4⟩
 | brk=>obtain⟨a,b,e1,c,e2,e3,e4⟩:=z;exact⟨a,b,e1,k3 a b c e2 e3 e4⟩
 | cont=>obtain⟨a,b,e1,c,e2,e3,e4⟩:=z;exact⟨a,b,e1,k4 a b c e2 e3 e4⟩
 | ret u=>obtain⟨v,a,b,e1,e2,σ',σD',d,e3,e4,e5⟩:=z;exact⟨v,a,b,e1,e2,k2 v b σ' σD' d e3 e4 e5⟩
end
abbrev DTPG:=DSt->(List W->List W->Prop)->Prop
structure DPG(X:Cx)(i:Nat)(es:List Expr)(t:DTPG):Prop where
 run:∀(pos:Pos) (pins:List (Addr×Obj)) (s:Shared) (σ:St) (H H₀:Hp) (σD:DSt) (Q:List W->List W->Prop),Inv X pins σ H s->DOk X.K H₀ H σD σ->t σD Q ->
  wpAny (model X.prog X.w) X.A (spliced (backTo pos (starEach es X.env))) (fun us s'=>∃ vp v vq H' wp wq,Inv X pins σ H' s'/\Vals (vp++v::vq) us/\Same H H'/\σ[i]?=some (some v)/\RepWs X.K H' wp vp/\RepWs X.K H' wq vq/\Q wp wq) X.xe s
section
variable {X:Cx}{e:Expr}{es:List Expr}{k k' i j:Nat}{x:Str}{ps:List Str}{sp:DSpG}{t:DTPG}{p pos:Pos}
end
section
variable {P:Program}{w:World}{K:PySem.W.Frag}{mg:Str->Option Value}{base:Heap}
end
section
variable {X:Cx}{e ie:Expr}{pos:Pos}{te ta:DTE}{t1 t2:DTF}
end
section
variable {X:Cx}{a b:Expr}{rest:List Expr}{pos:Pos}
end
section
variable {K:PySem.W.Frag}{H:Hp}
end
section
variable {X:Cx}{e:Expr}{es:List Expr}{te:DTE}{t:DTP}{pos:Pos}{c f m x:Str}{C g:Addr}{i j k k':Nat}{fd:FuncData}{ps:List Str}{sp:DSpG}
end
section
variable {X:Cx}{e:Expr}{pos:Pos}{i j:Nat}{sp:DSpG}{t:DTPG}{a b:List Stmt}{ta tb:DTS}
end
def Its(x:Str):It:=⟨fun i _=>i<x.cps.size,fun i H v H'=>H'=H/\∃ c,x.cps[i]?=some c/\v=.str ⟨#[c]⟩,fun i _=>x.cps.size<=i⟩
theorem turn_text{P:Program}{w:World}{K:PySem.W.Frag}{tg:Expr}(it:Addr)(x:Str)(t:Tok):Turn P w K tg (Its x) [it] it (fun i h=>h.IsStrIter it "str_ascii_iterator" x t i) where
 mem:=by simp
 obj:=fun i h st b hb=>by
  have e:b=it:=by simpa using hb
  subst e
  obtain⟨o,e,c,d⟩:=st
  exact⟨o,e,fun v z=>by rw [d] at z;cases z⟩
 keep:=fun i h h' st k=>by
  obtain⟨o,e,c,d⟩:=st
  exact⟨o,k it (by simp) o e,c,d⟩
 item:=by
  intro X hP hw hK hc i pins s σ H E I hf st hg
  subst hP hw hK
  have hlt:i<x.cps.size:=hg
  have hx:x.cps[i]?=some x.cps[i]:=by simp [hlt]
  obtain⟨f0,f1,f2,f3,f4,f5⟩:=hf it (by simp)
  refine wpAny_pyNext_ascii_item st hx fun h' st' sb=>?_
  have I1:Inv X pins σ H { s with heap:=h',toks:=s.toks+1 }:=I.turned (t':=s.toks+1) (fun b o hb e=>(sb.2 b hb).trans e) f0 f1 f3 f4 f5
  obtain⟨o,e,c,d⟩:=id st'
  exact⟨_,rfl,go_of (s:={ s with heap:=h',toks:=s.toks+1 }) e c d (by decide) ⟨.str ⟨#[x.cps[i]]⟩,H,I1,⟨_,rfl⟩,⟨rfl,_,hx,rfl⟩,st',fun b hb=>(hf b hb).1⟩⟩
 done:=by
  intro X hP hw hK hc i pins s σ H E I hf st hg
  subst hP hw hK
  obtain⟨f0,f1,f2,f3,f4,f5⟩:=hf it (by simp)
  have hle:x.cps.size<=i:=hg
  exact wpAny_pyNext_ascii_end (I.ok.hd hc) st (by simp [hle]) fun h' eb=>⟨rfl,I.turned (t':=s.toks) (fun b o hb e=>eb b o hb e) f0 f1 f3 f4 f5⟩
 self:=fun _ _ _ _ _ st h=>wpAny_pyIter_striter_ascii st h
def charsD(x:Str):List D:=x.cps.toList.map fun c=>.str ⟨#[c]⟩
theorem itx_ok{K:PySem.W.Frag}{Kp:Hp->Hp->Prop}{H1:Hp}(x:Str):ItOk K Kp (Its x) H1 (charsD x) where
 go:=fun H i d k e=>by
  unfold charsD at e
  rw [List.getElem?_map,Array.getElem?_toList] at e
  obtain⟨c,hc,rfl⟩:=Option.map_eq_some_iff.mp e
  have hi:i<x.cps.size:=by
   by_cases z:i<x.cps.size
   ·exact z
   ·simp [z] at hc
  refine⟨hi,fun v H' y=>?_⟩
  obtain⟨rfl,c2,h2,rfl⟩:=y
  rw [hc] at h2
  cases h2
  exact⟨Same.refl _,.str⟩
 stop:=fun H k=>by
  show x.cps.size<=(charsD x).length
  simp [charsD]
section
variable {X:Cx}{tg e:Expr}{te:DTE}
theorem pi_txt{l:Expr}{tl:TE}(hl:PE X l tl):PI X tg l (fun σ H R=>tl σ H fun x H1=>∃ y,x=.str y/\y.cps.all (· < 128)=true/\R (Its y) H1):=by
 intro pins s σ H R I h
 refine thn (hl pins s σ H _ I h) fun v s1 ⟨x,H1,I1,r1,q1⟩=>?_
 obtain⟨y,rfl,ha,q⟩:=q1
 obtain⟨t,rfl⟩:=r1
 refine wpAny_pyIter_ascii ha ?_
 refine⟨s1.heap.objs.size,[s1.heap.objs.size],_,_,H1,rfl,I1.kept (t':=s1.toks) fun b o e=>Heap.get?_push_of_some _ e,turn_text _ y t,⟨_,Heap.get?_push_size _ rfl,rfl,rfl⟩,fun b hb=>?_,q⟩
 have e:b=s1.heap.objs.size:=by simpa using hb
 subst e
 exact I1.fpOk (Nat.le_refl _) (I1.hok.fresh (Nat.le_refl _))
def dTxtI(te:DTE):DTF:=fun σ Q=>te σ fun d=>match d with
 | .str y=>y.cps.all (· < 128)=true/\Q (charsD y)
 | _=>False
theorem di_txt(h:DE X e te):DI X tg e (dTxtI te):=⟨fun pins s σ H R I ⟨H₀,σD,QD,ok,q,k⟩=>pi_txt h.pe pins s σ H R I ⟨H₀,σD,_,ok,q,fun v H1 d s1 r1 q1=>by
 cases d with
 | str y =>
  cases r1
  exact⟨y,rfl,q1.1,k _ _ _ s1 (itx_ok y) q1.2⟩
 | _=>exact q1.elim⟩⟩
end
section
variable {X:Cx}{e:Expr}{te:DTE}{pos p2:Pos}{lo hi:Option Expr}{tl th:DTO}
theorem sl_txt:SlR X (fun x lo hi H Q=>∃ y,x=.str y/\y.length<=sizeLine/\Q (.str (Txt.slice y lo hi)) H):=by
 intro pins s σ H x v vl vu lo hi sl Q I rx hs pl pu h
 obtain⟨y,rfl,hz,q⟩:=h
 obtain⟨t,rfl⟩:=rx
 refine⟨"str",_,PySem.F.slot_str_getitem.lookup,typeIs_str _ _ _,?_⟩
 have fin:∀(t':Tok) (k:Nat),EP X pins σ Q (.str (Txt.slice y lo hi) t') { s with toks:=k }:=fun t' k=>⟨.str _,H,I.kept (t':=k) (fun b o e=>e),⟨_,rfl⟩,q⟩
 cases pl with
 | none =>
  cases pu with
  | none=>exact wpAny_getItem_str_slice (l:=none) (u:=none) (st:=none) hs rfl (post_val_or_str ⟨Nat.le_trans (Txt.slice_le y _ _) hz,fin⟩)
  | int j uj=>exact wpAny_getItem_str_slice (l:=none) (u:=some (j,uj)) (st:=none) hs rfl (post_val_or_str ⟨Nat.le_trans (Txt.slice_le y _ _) hz,fin⟩)
 | int i ui =>
  cases pu with
  | none=>exact wpAny_getItem_str_slice (l:=some (i,ui)) (u:=none) (st:=none) hs rfl (post_val_or_str ⟨Nat.le_trans (Txt.slice_le y _ _) hz,fin⟩)
  | int j uj=>exact wpAny_getItem_str_slice (l:=some (i,ui)) (u:=some (j,uj)) (st:=none) hs rfl (post_val_or_str ⟨Nat.le_trans (Txt.slice_le y _ _) hz,fin⟩)
def dSlT(te:DTE)(tl th:DTO):DTE:=fun σ Q=>te σ fun d=>tl σ fun l=>th σ fun u=>match d with
 | .str y=>y.length<=sizeLine/\Q (.str (Txt.slice y l u))
 | _=>False
theorem de_sliceT(he:DE X e te)(hl:DO X lo tl)(hu:DO X hi th):DE X (.Subscript e (.Slice lo hi none p2) pos) (dSlT te tl th) :=
 DE.of (pe_slice sl_txt he.pe hl.po hu.po) fun σ H H₀ σD QD ok q=>⟨H₀,σD,_,ok,q,fun v H1 d s1 r1 q1=>⟨H₀,σD,_,ok.after s1,q1,fun l H2 s2 q2=>⟨H₀,σD,_,(ok.after s1).after s2,q2,fun u H3 s3 q3=>by
  cases d with
  | str y =>
   cases r1
   exact⟨y,rfl,q3.1,_,s1.trans (s2.trans s3),.str,q3.2⟩
  | _=>exact q3.elim⟩⟩⟩
end
section
variable {X:Cx}
theorem strs_vals:∀{texts:List Str} {its:List Value},Vals (texts.map V.str) its->∃ l:List (Str×Tok),its=strValues l/\l.map (·.1)=texts
 | [],_,r=>by cases r;exact⟨[],rfl,rfl⟩
 | x::texts,_,r=>by
  cases r with
  | cons h t =>
   obtain⟨u,rfl⟩:=h
   obtain⟨l,rfl,rfl⟩:=strs_vals t
   exact⟨(x,u)::l,rfl,rfl⟩
theorem mt_tjoin:MtR X "str.join" (fun x vs H Q=>∃ y a texts,x=.str y/\vs = [.ref a]/\SqL X.K H a (texts.map V.str)/\JoinOk y texts=true/\Q (.str (Txt.join y texts)) H):=by
 intro pins s σ H x vs v us Q I rx rv h
 obtain⟨y,a,texts,rfl,rfl,hR,hok,q⟩:=h
 obtain⟨t,rfl⟩:=rx
 obtain⟨u,rfl,ru⟩:=rv.one
 cases ru
 obtain⟨its,r,pl,hz⟩:=I.list hR
 obtain⟨l,rfl,hl⟩:=strs_vals r
 exact SC.join pl.isList hl hok fun t' k=>⟨.str _,H,I.kept (t':=k) (fun b o e=>e),⟨_,rfl⟩,q⟩
theorem reps_strs{K:PySem.W.Frag}{H:Hp}:∀{texts:List Str} {vs:List V},Reps K H (texts.map PyData.str) vs->vs=texts.map V.str
 | [],_,r=>by cases r;rfl
 | x::texts,_,r=>by
  cases r with
  | cons r t =>
   cases r
   rw [reps_strs t]
   rfl
variable {o e:Expr}{to te:DTE}{apos cpos:Pos}{name:Str}{id:String}{gV:Str->Str->V}{gD:Str->Str->D}
def dTJoin(to te:DTE):DTE:=fun σ Q=>to σ fun d=>match d with
 | .str y=>te σ fun k=>match k with
  | .list xs=>∃ texts:List Str,xs=texts.map PyData.str/\JoinOk y texts=true/\Q (.str (Txt.join y texts))
  | _=>False
 | _=>False
theorem de_tjoin(ho:DE X o to)(ha:DV X e te)(hbase:attributeBase o "join" X.env (eval o X.env)=eval o X.env:=by rfl)
  (hfew:((backTo cpos (starEach [e] X.env)).all (fun x=>!x.1) && (backToKw cpos (keywordEach [] X.env)).all (fun x=>x.1.isSome) && decide (([e]:List Expr).length+([]:List Keyword).length+(if ([]:List Keyword).isEmpty then 0 else 1)<30))=true:=by rfl)
  (hline:(apos.endLine == cpos.line)=true:=by rfl) (hs:starEach [e] X.env=(false,eval e X.env)::starEach [] X.env:=by rfl) (hplain:(backTo cpos (starEach [] X.env)).any (·.1)=false:=by rfl) :
  DE X (.Call (.Attribute o "join" apos) [e] [] cpos) (dTJoin to te) :=
 DE.of (pe_bm F.plainAttrs_str F.slot_str_join F.type_str_join mt_tjoin ho.pe (pa_cons ha.pe pa_nil hs) hbase hfew hline hs hplain) fun σ H H₀ σD QD ok q=>⟨H₀,σD,_,ok,q,fun v H1 d s1 r1 q1=>by
  cases d with
  | str y =>
   cases r1
   refine⟨rfl,H₀,σD,_,ok.after s1,q1,fun v2 H2 d2 s2 r2 q2=>?_⟩
   cases d2 with
   | list xs =>
    obtain⟨texts,rfl,hok,q3⟩:=q2
    obtain⟨a,vs,rfl,hR,rp⟩:=r2.list
    have ev:=reps_strs rp
    subst ev
    exact⟨y,a,texts,rfl,rfl,.inl hR,hok,_,s1.trans s2,.str,q3⟩
   | _=>exact q2.elim
  | _=>exact q1.elim⟩
end
open PySem.Builtin PySem.Builtin.Str
theorem split_at{prog:Program}{w:World}{A:Around}{E:Value->Shared->Prop}{s:Shared}{x y:Str}{t u:Tok}{Q:Value->Shared->Prop}(hy:(y.length == 0)=false)
  (hq:∀(l:List (Str×Tok)) (k:Nat),l.map (·.1)=Txt.split x y->Q (.ref s.heap.objs.size) { s with toks:=k,heap:=s.heap.push { cls:=.type "list",data:=.seq (strValues l).toArray } })
  (hsz:x.length<=sizeLine) (hsz2:(partsBetween x (occurrences x y 0 x.length (x.length+1)) y.length).length<=sizeLine) :
  wpAny (model prog w) A (call (.builtin "str.split") [.str x t,.str y u]) Q E s:=by
 cases h1:(decide (x.length<y.length) || decide (strKind x<strKind y))
 ·cases hf:(occurrences x y 0 x.length (x.length+1)).isEmpty
  ·refine call_meets F.slot_str_split (typeIs_str _ _ _) F.entry_str_split (F.args_str_split_2 _ _) (meets_str_split_sep x y t u h1 hy hf hsz hsz2) ?_
   show wants Q E _ { s with toks:=_,heap:=s.heap.push { cls:=.type "list",data:=.seq (strsFrom s.toks (partsBetween x (occurrences x y 0 x.length (x.length+1)) y.length)).toArray } }
   rw [strsFrom_eq]
   exact hq (numbered s.toks _) _ ((numbered_texts _ _).trans ((if_neg (ne_true_of_eq_false h1)).trans (if_neg (ne_true_of_eq_false hf))).symm)
  ·exact call_meets F.slot_str_split (typeIs_str _ _ _) F.entry_str_split (F.args_str_split_2 _ _) (meets_str_split_not_found x y t u h1 hy hf)
    (hq [(x,t)] _ ((if_neg (ne_true_of_eq_false h1)).trans (if_pos hf)).symm)
 ·exact call_meets F.slot_str_split (typeIs_str _ _ _) F.entry_str_split (F.args_str_split_2 _ _) (meets_str_split_cannot_occur x y t u h1)
   (hq [(x,t)] _ (if_pos h1).symm)
theorem vals_strs:∀ l:List (Str×Tok),Vals ((l.map (·.1)).map V.str) (strValues l)
 | []=>.nil
 | p::l=>.cons ⟨_,rfl⟩ (vals_strs l)
section
variable {X:Cx}
theorem mt_tsplit:MtR X "str.split" (fun x vs H Q=>∃ y z,x=.str y/\vs = [.str z]/\(z.length == 0)=false/\y.length<=sizeLine/\(partsBetween y (occurrences y z 0 y.length (y.length+1)) z.length).length<=sizeLine/\(Txt.split y z).length<=sizeLine /\
  ∀ p,H p=none->Q (.ref p) (upd H p (.lst ((Txt.split y z).map V.str)))):=by
 intro pins s σ H x vs v us Q I rx rv h
 obtain⟨y,z,rfl,rfl,hy,h1,h2,h3,q⟩:=h
 obtain⟨t,rfl⟩:=rx
 obtain⟨u,rfl,ru⟩:=rv.one
 obtain⟨t',rfl⟩:=ru
 refine split_at hy (fun l k hl=>?_) h1 h2
 refine⟨.ref s.heap.objs.size,upd H s.heap.objs.size (.lst ((Txt.split y z).map V.str)),I.laid (t':=k) (fun b u e=>Heap.get?_push_of_some _ e) (Nat.le_refl _) ?_,rfl,q _ (I.hok.fresh (Nat.le_refl _))⟩
 rw [<-hl]
 exact⟨by rw [List.length_map,hl];exact h3,strValues l,_,vals_strs l,Heap.get?_push_size _ rfl⟩
variable {o e:Expr}{to te:DTE}{apos cpos:Pos}
def dTSplit(to te:DTE):DTF:=fun σ Q=>to σ fun d=>match d with
 | .str y=>te σ fun k=>match k with
  | .str z=>(z.length == 0)=false/\y.length<=sizeLine/\(partsBetween y (occurrences y z 0 y.length (y.length+1)) z.length).length<=sizeLine/\(Txt.split y z).length<=sizeLine/\Q ((Txt.split y z).map PyData.str)
  | _=>False
 | _=>False
theorem rep_strs{K:PySem.W.Frag}{H:Hp}:∀ texts:List Str,Reps K H (texts.map PyData.str) (texts.map V.str)
 | []=>.nil
 | _::t=>.cons .str (rep_strs t)
theorem df_tsplit(ho:DE X o to)(ha:DE X e te)(hbase:attributeBase o "split" X.env (eval o X.env)=eval o X.env:=by rfl)
  (hfew:((backTo cpos (starEach [e] X.env)).all (fun x=>!x.1) && (backToKw cpos (keywordEach [] X.env)).all (fun x=>x.1.isSome) && decide (([e]:List Expr).length+([]:List Keyword).length+(if ([]:List Keyword).isEmpty then 0 else 1)<30))=true:=by rfl)
  (hline:(apos.endLine == cpos.line)=true:=by rfl) (hs:starEach [e] X.env=(false,eval e X.env)::starEach [] X.env:=by rfl) (hplain:(backTo cpos (starEach [] X.env)).any (·.1)=false:=by rfl) :
  DF X (.Call (.Attribute o "split" apos) [e] [] cpos) (dTSplit to te) :=
 DF.of (pe_bm F.plainAttrs_str F.slot_str_split F.type_str_split mt_tsplit ho.pe (pa_cons ha.pe pa_nil hs) hbase hfew hline hs hplain) fun σ H H₀ σD QD ok q=>⟨H₀,σD,_,ok,q,fun v H1 d s1 r1 q1=>by
  cases d with
  | str y =>
   cases r1
   refine⟨rfl,H₀,σD,_,ok.after s1,q1,fun v2 H2 d2 s2 r2 q2=>?_⟩
   cases d2 with
   | str z =>
    cases r2
    obtain⟨hy,h1,h2,h3,q3⟩:=q2
    exact⟨y,z,rfl,rfl,hy,h1,h2,h3,fun p hp=>⟨p,_,_,rfl,(s1.trans s2).trans (same_new hp _),(s1.trans s2).free hp,upd_same,rep_strs _,q3⟩⟩
   | _=>exact q2.elim
  | _=>exact q1.elim⟩
end
end L2
namespace L2
open PySem PySem.Spec PyProof.Rows
open PySem.Builtin PySem.Builtin.Str
section
variable {X:Cx}
def gInT(neg:Bool):DOp:=fun a b Q=>match a,b with
 | .str y,.str x=>Q (.bool (if neg then !(Txt.contains x y) else Txt.contains x y))
 | _,_=>False
theorem o_inT:OpD X (compareOp .In) (gInT false):=⟨fun pins s σ H x y v u a b Q I rx ry ra rb q=>by
 cases a with
 | str p =>
  cases b with
  | str r =>
   cases ra.str
   cases rb.str
   obtain⟨t,rfl⟩:=rx
   obtain⟨t',rfl⟩:=ry
   exact SB.contains ⟨.bl _,H,_,I,rfl,Same.refl _,.bl,q⟩
  | _=>exact q.elim
 | _=>exact q.elim⟩
theorem o_notInT:OpD X (compareOp .NotIn) (gInT true):=⟨fun pins s σ H x y v u a b Q I rx ry ra rb q=>by
 cases a with
 | str p =>
  cases b with
  | str r =>
   cases ra.str
   cases rb.str
   obtain⟨t,rfl⟩:=rx
   obtain⟨t',rfl⟩:=ry
   exact SB.notContains ⟨.bl _,H,_,I,rfl,Same.refl _,.bl,q⟩
  | _=>exact q.elim
 | _=>exact q.elim⟩
end
end L2
namespace L2
open PySem PySem.Spec PyProof.Rows
section
variable {X:Cx}
def gIntT:List D->(D->Prop)->Prop
 | [.str x],Q=>∃ n,PySem.intText? x=some n/\x.length<=640/\Q (.int n)
 | _,_=>False
theorem call_intT:CallR X (.type "int") (fun vs H Q=>∃(x:Str) (n:Int),vs = [.str x]/\PySem.intText? x=some n/\x.length<=640/\Q (.int n) H):=by
 intro pins s σ H vs us Q I rv h
 obtain⟨x,n,rfl,hn,hl,q⟩:=h
 obtain⟨u,rfl,ru⟩:=rv.one
 obtain⟨t,rfl⟩:=ru
 exact PySem.W.KIN.call_text hn hl ⟨.int n,H,I.tok _,⟨_,rfl⟩,q⟩
theorem c_intT:CallD X (.type "int") gIntT:=CallD.of call_intT fun vs H ds Q rd q=>by
 match ds,q,rd with
 | [.str x],q,rd =>
  obtain⟨v,rfl,r⟩:=rd.one
  cases r.str
  obtain⟨n,h1,h2,q⟩:=q
  exact⟨x,n,rfl,h1,h2,_,Same.refl _,.int,q⟩
def gStrA:List D->(D->Prop)->Prop
 | [.int i],Q=>i.natAbs.log2<1920/\Q (.str (toString i))
 | [.str x],Q=>Q (.str x)
 | _,_=>False
theorem call_strA:CallR X (.type "str") (fun xs H Q=>(∃ i,xs = [.int i]/\i.natAbs.log2<1920/\Q (.str (toString i)) H)\/∃ x,xs = [.str x]/\Q (.str x) H):=by
 intro pins s σ H xs us Q I r h
 rcases h with⟨i,rfl,hz,q⟩ | ⟨x,rfl,q⟩
 ·obtain⟨u,rfl,t,rfl⟩:=vals1 r
  exact PySem.P.str_of_int hz ⟨.str _,H,I.tok _,⟨_,rfl⟩,q⟩
 ·obtain⟨u,rfl,t,rfl⟩:=vals1 r
  exact PySem.P.str_of_str ⟨.str _,H,I,⟨_,rfl⟩,q⟩
theorem c_strA:CallD X (.type "str") gStrA:=CallD.of call_strA fun vs H ds Q rd q=>by
 match ds,q,rd with
 | [.int i],q,rd =>
  obtain⟨v,rfl,r⟩:=rd.one
  cases r.int
  exact .inl ⟨i,rfl,q.1,_,Same.refl _,.str,q.2⟩
 | [.str x],q,rd =>
  obtain⟨v,rfl,r⟩:=rd.one
  cases r.str
  exact .inr ⟨x,rfl,_,Same.refl _,.str,q⟩
end
theorem star_list{prog:Program}{w:World}{A:Around}{E:Value->Shared->Prop}{s:Shared}{l:Addr}{items:Array Value}{Q:List Value->Shared->Prop}(hl:s.heap.IsList l items)(hh:A.handled=none)(hn:1<=items.size)(hz:items.size<=16384)
  (h:∀(h₂:Heap) (tk:Nat),(∀ b o,b≠s.heap.objs.size->s.heap.get? b=some o->h₂.get? b=some o)->Q (items.toList.take 1 ++ [.ref h₂.objs.size] ++ []) { s with heap:=h₂.push { cls:=.type "list",data:=.seq (items.toList.drop 1).toArray },toks:=tk }) :
  wpAny (model prog w) A (unpackItems (.ref l) 2 (some 1)) Q E s:=by
 have hlt:l≠s.heap.objs.size:=by obtain⟨o,ho,_⟩:=hl;exact Nat.ne_of_lt (Heap.lt_size ho)
 have hll:l<s.heap.objs.size:=by obtain⟨o,ho,_⟩:=hl;exact Heap.lt_size ho
 unfold unpackItems
 refine wpAny_bind ?_
 unfold notIterableAtAll
 refine wpAny_bind (wpAny_specialOf hl.typeIs slot_list_iter.lookup ?_)
 refine wpAny_pure ?_
 simp only [Bool.false_eq_true,if_false]
 refine wpAny_bind (wpAny_holding (wpAny_pyIter_list hl ?_))
 refine wpAny_bind (wpAny_holding (PySem.W.kun_draw hlt 1 0 _ _ ⟨_,Heap.get?_push_size _ rfl,rfl,rfl⟩ (hl.push _) (by omega) fun h₁ hit₁ hs₁=>?_))
 have hl₁:h₁.IsList l items:=(hl.push _).extBut hs₁.extBut hlt
 rw [Nat.zero_add] at hit₁
 have hit₁':=hit₁
 obtain⟨oi,hoi,_⟩:=hit₁'
 have hl₁':=hl₁
 obtain⟨ol,hol,_⟩:=hl₁'
 rw [List.drop_zero]
 have hfl:(items.toList.take 1).length=1:=by rw [List.length_take,Array.length_toList];omega
 rw [if_neg (show ¬ ((items.toList.take 1).length<1) by rw [hfl];omega)]
 refine wpAny_bind (wpAny_holding (PySem.W.kun_collect (s:={ s with heap:=h₁ }) (T := "list_iterator") (.inr (.inr (.inl rfl))) (Walks.list (A:=A.in1) hh s.heap.objs.size l hlt items) (fun j u st=>st.1.typeIs) (k:=1) (by omega) ⟨hit₁,hl₁⟩ (Heap.lt_size hoi) (Heap.lt_size hol) (fun h₂ tk hk=>?_) (by rw [sizeLine_eq];omega)))
 have hrl:(items.toList.drop 1).length=items.size-1:=by rw [List.length_drop,Array.length_toList]
 show wpAny _ _ (if (items.toList.drop 1).length<2-1-1 then _ else _) _ _ _
 rw [if_neg (by omega)]
 show wpAny _ _ (newList ((items.toList.drop 1).take ((items.toList.drop 1).length-0)) >>= fun d=>pure (items.toList.take 1 ++ [d]++(items.toList.drop 1).drop ((items.toList.drop 1).length-0))) _ _ _
 rw [Nat.sub_zero,List.take_length,List.drop_length]
 have he:Heap.ExtBut s.heap.objs.size s.heap h₂:=fun b o hb e=>hk b o hb (hs₁.extBut b o hb (Heap.get?_push_of_some _ e))
 exact wpAny_bind (wpAny_newList (wpAny_pure (h h₂ tk he)) (by rw [hrl,sizeLine_eq];omega))
section
variable {X:Cx}{e:Expr}{te:DTE}{pos tpos px py ps:Pos}{k i j:Nat}{x y:Str}
def gStar1(K:PySem.W.Frag)(i j:Nat):TG:=fun v σ H Q=>∃ l a xs,v=.ref l/\SqL K H l (a::xs)/\xs.length<16000/\∀ p,H p=none->Q ((σ.set i (some a)).set j (some (.ref p))) (upd H p (.lst xs))
theorem pg_star1(hc:X.calm=true)(hN:X.N.Nodup)(hi:X.N[i]?=some x)(hj:X.N[j]?=some y)(hx:Loc X.env.scope x)(hy:Loc X.env.scope y)
  (fx:X.fn x=true\/X.env.scope.names.lookup x=some .local:=by first | exact .inl rfl | exact .inr rfl | assumption) (fy:X.fn y=true\/X.env.scope.names.lookup y=some .local:=by first | exact .inl rfl | exact .inr rfl | assumption) :
  PG X (.Tuple [.Name x px,.Starred (.Name y py) ps] k tpos) (gStar1 X.K i j):=by
 intro pins s σ H v u Q I rv h
 obtain⟨l,a,xs,rfl,hq,hz,q⟩:=h
 cases rv
 obtain⟨its,rvs,pl,_⟩:=I.list hq
 have hlen:=rvs.length
 rw [List.length_cons] at hlen
 rw [assign_Tuple]
 refine wpAny_bind (wpAny_standAt ?_)
 unfold unpack
 rw [show(assignEach [.Name x px,.Starred (.Name y py) ps] X.env).length=2 from rfl,show(assignEach [.Name x px,.Starred (.Name y py) ps] X.env).findIdx? (·.1)=some 1 from rfl]
 refine wpAny_bind (wpAny_holding (star_list pl.isList (I.ok.hd hc) (by rw [List.size_toArray];omega) (by rw [List.size_toArray];omega) fun h₂ tk hk=>?_))
 cases rvs with
 | @cons _ ua _ ux ra rx =>
  have J:Inv X pins σ H { s with heap:=h₂,toks:=tk }:=I.kept (t':=tk) fun b o e=>hk b o (Nat.ne_of_lt (Heap.lt_size e)) e
  have J2:Inv X pins σ (upd H h₂.objs.size (.lst xs)) { s with heap:=h₂.push { cls:=.type "list",data:=.seq ux.toArray },toks:=tk } :=
   J.laid (t':=tk) (fun b o e=>Heap.get?_push_of_some _ e) (Nat.le_refl _) (show ObjOk X.prog X.w _ _ _ (.lst xs) from⟨by rw [sizeLine_eq];omega,ux,_,rx,Heap.get?_push_size _ rfl⟩)
  have rr:Vals [a,.ref h₂.objs.size] [ua,.ref h₂.objs.size]:=.cons ra (.cons rfl .nil)
  exact pgs_cons (es:=[.Name y py]) (pg_name (pos:=px) hN hi hx fx) (pgs_cons (es:=[]) (pg_name (pos:=py) hN hj hy fy) pgs_nil) rfl pins _ σ _ [a,.ref h₂.objs.size] _ Q J2 rr ⟨a,_,rfl,.ref h₂.objs.size,[],rfl,rfl,q _ (J.hok.fresh (Nat.le_refl _))⟩
def dStar1(i j:Nat)(te:DTE):DTS:=fun Dn σ=>te σ fun d=>match d with
 | .list (a::xs)=>xs.length<16000/\Dn.nx ((σ.set i (some (.val a))).set j (some (.val (.list xs))))
 | _=>False
theorem ds_star1(hc:X.calm=true)(hN:X.N.Nodup)(hi:X.N[i]?=some x)(hj:X.N[j]?=some y)(hx:Loc X.env.scope x)(hy:Loc X.env.scope y)(he:DE X e te)
  (fx:X.fn x=true\/X.env.scope.names.lookup x=some .local:=by first | exact .inl rfl | exact .inr rfl | assumption) (fy:X.fn y=true\/X.env.scope.names.lookup y=some .local:=by first | exact .inl rfl | exact .inr rfl | assumption)
  (hs:swapsWithSole [.Tuple [.Name x px,.Starred (.Name y py) ps] k tpos] e pos.line X.env=pure false:=by rfl) (hw:swappedStores [.Tuple [.Name x px,.Starred (.Name y py) ps] k tpos] e X.env=pure none:=by rfl)
  (h1:(assignEach [.Tuple [.Name x px,.Starred (.Name y py) ps] k tpos] X.env).map (·.2) = [assign (.Tuple [.Name x px,.Starred (.Name y py) ps] k tpos) X.env]:=by rfl) :
  DS X (.Assign [.Tuple [.Name x px,.Starred (.Name y py) ps] k tpos] e pos) (dStar1 i j te):=⟨fun pins s σ H H₀ σD Dn I ok q=>by
 refine thn (ps_asg he.pe (pg_star1 hc hN hi hj hx hy fx fy) hs hw h1 pins s σ H { nx:=fun σ' H'=>∃ σD' xs,DOk X.K H₀ H' σD' σ'/\Pers H H'/\σD'[j]?=some (some (.own (.lst xs)))/\Dn.nx (σD'.set j (some (.val (.list xs)))),rt:=fun _ _=>False } I ⟨H₀,σD,_,ok,q,fun v H1 d s1 r1 q1=>?_⟩) fun f s' z=>?_
 ·cases d with
  | list ds =>
   cases ds with
   | nil=>exact q1.elim
   | cons a xs =>
    obtain⟨hz,q2⟩:=q1
    cases r1 with
    | @lst _ l vs ob hf r =>
     cases r with
     | @cons _ va _ vxs ra rxs =>
      refine⟨l,va,vxs,rfl,.inl (.inr ⟨_,hf⟩),by rw [<-rxs.length];exact hz,fun p hp=>?_⟩
      have sn:=same_new hp (.lst vxs)
      have ok1:=(ok.after s1).setV ra i
      have ok2:=DOk.setO ok1 sn hp upd_same (rxs.same sn) j
      have hjl:j<(σD.set i (some (.val a))).length:=by
       rw [List.length_set,ok.len,I.len]
       exact(List.getElem?_eq_some_iff.mp hj).1
      exact⟨_,xs,ok2,(s1.trans sn).pers,List.getElem?_set_self hjl,by rw [List.set_set];exact q2⟩
  | _=>exact q1.elim
 ·cases f with
  | next =>
   obtain⟨σ',H',J,σD',xs,ok',pr,ej,qn⟩:=z
   obtain⟨H'',J',ok'',p''⟩:=DOk.frz J ok' ej
   exact⟨σ',H'',_,J',ok'',pr.trans p'',qn⟩
  | ret u=>obtain⟨_,_,_,_,_,z⟩:=z;exact z.elim
  | brk=>obtain⟨_,_,_,z⟩:=z;exact z.elim
  | cont=>obtain⟨_,_,_,z⟩:=z;exact z.elim⟩
end
def joinL(c:Nat):List (List Nat)->List Nat
 | []=>[]
 | [x]=>x
 | x::y::r=>x++c::joinL c (y::r)
theorem cut_eq{c:Nat}:∀{x y u v:List Nat},c∉x->c∉y->x++c::u=y++c::v->x=y/\u=v
 | [],[],u,v,_,_,h=>⟨rfl,(List.cons.inj h).2⟩
 | [],b::y,u,v,_,hy,h=>absurd (List.cons.inj h).1 (fun z=>hy (by rw [z];exact List.mem_cons_self))
 | a::x,[],u,v,hx,_,h=>absurd (List.cons.inj h).1 (fun z=>hx (by rw [<-z];exact List.mem_cons_self))
 | a::x,b::y,u,v,hx,hy,h=>by
  have e1:a=b:=(List.cons.inj h).1
  have e2:x++c::u=y++c::v:=(List.cons.inj h).2
  obtain⟨h1,h2⟩:=cut_eq (fun z=>hx (List.mem_cons_of_mem _ z)) (fun z=>hy (List.mem_cons_of_mem _ z)) e2
  exact⟨by rw [e1,h1],h2⟩
theorem joinL_inj{c:Nat}:∀{xs ys:List (List Nat)},xs ≠ []->ys ≠ []->(∀ x∈xs,c∉x)->(∀ y∈ys,c∉y)->joinL c xs=joinL c ys->xs=ys
 | [],_,h,_,_,_,_=>absurd rfl h
 | _,[],_,h,_,_,_=>absurd rfl h
 | [x],[y],_,_,_,_,e=>by rw [show x=y from e]
 | [x],y::y2::ys,_,_,hx,_,e=>by
  have e2:x=y++c::joinL c (y2::ys):=e
  exact absurd (by rw [e2];exact List.mem_append_right _ List.mem_cons_self) (hx x List.mem_cons_self)
 | x::x2::xs,[y],_,_,_,hy,e=>by
  have e2:x++c::joinL c (x2::xs)=y:=e
  exact absurd (by rw [<-e2];exact List.mem_append_right _ List.mem_cons_self) (hy y List.mem_cons_self)
 | x::x2::xs,y::y2::ys,_,_,hx,hy,e=>by
  have e2:x++c::joinL c (x2::xs)=y++c::joinL c (y2::ys):=e
  obtain⟨h1,h2⟩:=cut_eq (hx x List.mem_cons_self) (hy y List.mem_cons_self) e2
  rw [h1,joinL_inj (by simp) (by simp) (fun z hz=>hx z (List.mem_cons_of_mem _ hz)) (fun z hz=>hy z (List.mem_cons_of_mem _ hz)) h2]
theorem join_list(c:Nat):∀ xs:List Str,(Str.join ⟨#[c]⟩ xs).cps.toList=joinL c (xs.map fun x=>x.cps.toList)
 | []=>rfl
 | [x]=>rfl
 | x::y::r=>by
  have ih:=join_list c (y::r)
  show((x++⟨#[c]⟩++Str.join ⟨#[c]⟩ (y::r)):Str).cps.toList=_
  show((x.cps ++ #[c])++(Str.join ⟨#[c]⟩ (y::r)).cps).toList=_
  rw [Array.toList_append,Array.toList_append,ih]
  simp [joinL]
theorem split_ne(x:Str)(c:Nat):Txt.split x ⟨#[c]⟩ ≠ []:=fun h=>by
 have h1:=StrLaws.join_split x ⟨#[c]⟩
 rw [h] at h1
 have e:x=Str.empty:=h1.symm
 subst e
 unfold Txt.split at h
 rw [if_pos (by rfl)] at h
 cases h
theorem split_join(c:Nat){xs:List Str}(hne:xs ≠ [])(hx:∀ x∈xs,c∉x.cps.toList):Txt.split (Str.join ⟨#[c]⟩ xs) ⟨#[c]⟩=xs:=by
 have h1:=StrLaws.join_split (Str.join ⟨#[c]⟩ xs) ⟨#[c]⟩
 have h2:=StrLaws.split_free (Str.join ⟨#[c]⟩ xs) c
 have h3:(Str.join ⟨#[c]⟩ (Txt.split (Str.join ⟨#[c]⟩ xs) ⟨#[c]⟩)).cps.toList=(Str.join ⟨#[c]⟩ xs).cps.toList:=by rw [h1]
 rw [join_list c (Txt.split (Str.join ⟨#[c]⟩ xs) ⟨#[c]⟩),join_list c xs] at h3
 have h4:=joinL_inj (by simpa using split_ne (Str.join ⟨#[c]⟩ xs) c) (by simpa using hne) (fun y hy=>by
  obtain⟨z,hz,rfl⟩:=List.mem_map.mp hy
  exact h2 z hz) (fun y hy=>by
  obtain⟨z,hz,rfl⟩:=List.mem_map.mp hy
  exact hx z hz) h3
 refine(List.map_inj_right fun a b e=>?_).mp h4
 cases a with
 | mk a =>
  cases b with
  | mk b =>
   have e2:a.toList=b.toList:=e
   rw [Array.toList_inj.mp e2]
end L2
namespace L2
open PySem PySem.Spec PyProof.Rows PySem.NumText
def numT(n:Int):Str:=Str.ofString (toString n)
structure NumT(x:Str):Prop where
 dig:∀ c∈x.cps.toList,48<=c/\c<=57
 ne:x.cps.toList ≠ []
 le:x.length<=10
 hd:x=Str.ofString "0" \/ x.cps.toList.head?≠some 48
theorem drop_lt:∀(cs:List Nat),(cs.dropWhile (· == 48)).length<=cs.length
 | []=>Nat.le_refl _
 | c::cs=>by
  rw [List.dropWhile_cons]
  split
  ·have:=drop_lt cs
   rw [List.length_cons]
   omega
  ·exact Nat.le_refl _
theorem num_t{n:Int}(h0:0<=n)(h1:n<10 ^ 10):NumT (numT n):=by
 have hl:=PySem.W.KT.len_num h0 h1
 obtain⟨m,rfl⟩:=Int.eq_ofNat_of_zero_le h0
 have sg:=PySem.W.KIN.signs_num m
 have hd:AllDigits (numT ((m:Nat):Int)).cps.toList:=by
  intro c hc
  unfold numT at hc
  rw [sg] at hc
  obtain⟨ch,hch,rfl⟩:=List.mem_map.mp hc
  have z:=Nat.isDigit_of_mem_toDigits (by decide) (by decide) hch
  simp only [Char.isDigit,Bool.and_eq_true,decide_eq_true_eq] at z
  exact⟨z.1,z.2⟩
 have hv:digitsVal (numT ((m:Nat):Int)).cps.toList=m:=by
  unfold numT
  rw [sg]
  exact PySem.W.KIN.val_back m
 have ha:=toDigits_all _ hd
 rw [hv] at ha
 have hlen:(numT ((m:Nat):Int)).cps.toList.length=(Nat.toDigits 10 m).length:=by
  unfold numT
  rw [sg,List.length_map]
 have hne:(numT ((m:Nat):Int)).cps.toList ≠ []:=by
  intro z
  rw [z] at hlen ha
  have:Nat.toDigits 10 m = ['0']:=ha
  rw [this] at hlen
  cases hlen
 refine⟨hd,hne,hl,?_⟩
 by_cases c:(numT ((m:Nat):Int)).cps.toList.head?=some 48
 ·left
  generalize e:(numT ((m:Nat):Int)).cps.toList=cs at *
  cases cs with
  | nil=>exact absurd rfl hne
  | cons a cs =>
   simp only [List.head?_cons,Option.some.injEq] at c
   subst c
   rw [List.dropWhile_cons,if_pos (by rfl)] at ha
   cases hw:cs.dropWhile (· == 48) with
   | nil =>
    rw [hw] at ha
    have h2:Nat.toDigits 10 m = ['0']:=ha
    have h3:(numT ((m:Nat):Int)).cps.toList = [48]:=by
     unfold numT
     rw [sg,h2]
     rfl
    have h4:(numT ((m:Nat):Int)).cps = #[48]:=Array.toList_inj.mp (by rw [h3])
    have h5:(Str.ofString "0").cps = #[48]:=by decide +kernel
    cases hx:numT ((m:Nat):Int) with
    | mk q =>
     rw [hx] at h4
     cases hy:Str.ofString "0" with
     | mk r =>
      rw [hy] at h5
      have h4':q = #[48]:=h4
      have h5':r = #[48]:=h5
      rw [h4',h5']
   | cons b bs =>
    rw [hw] at ha
    have h2:Nat.toDigits 10 m=(b::bs).map Char.ofNat:=ha
    rw [h2,List.length_map,<-hw,List.length_cons] at hlen
    have:=drop_lt cs
    omega
 ·exact .inr c
end L2
namespace L2
open PySem PySem.Spec PyProof.Rows
section
variable {X:Cx}{e:Expr}{es:List Expr}
end
section
variable {X:Cx}{k v e f:Expr}{tk tv te tf:DTE}{apos cpos dpos:Pos}
end
section
variable {X:Cx}{k e f:Expr}{tk te tf:DTE}{p1 pos pos':Pos}
end
def MxAt(K:PySem.W.Frag)(H:Hp)(bs:List Addr)(u:V):Mx->Prop
 | .v d=>Rep K H d u
 | .l xs=>∃ b vs,u=.ref b/\b∈bs/\H b=some (.lst vs)/\Reps K H xs vs
section
variable {K:PySem.W.Frag}{H H':Hp}
theorem MxAt.more{bs cs:List Addr}{u:V}{m:Mx}(h:MxAt K H bs u m)(k:∀ b∈bs,b∈cs):MxAt K H cs u m:=by
 cases m with
 | v d=>exact h
 | l xs=>obtain⟨b,vs,e1,e2,e3⟩:=h;exact⟨b,vs,e1,k b e2,e3⟩
theorem MxR.at:∀{ms:List Mx} {us:List V} {bs:List Addr} {k:Nat} {m:Mx},MxR K H ms us bs->ms[k]?=some m->∃ u,us[k]?=some u/\MxAt K H bs u m
 | [],_,_,k,m,_,e=>by simp at e
 | .v d::ms,u::us,bs,0,m,h,e=>by cases e;exact⟨u,rfl,h.1⟩
 | .v d::ms,u::us,bs,k+1,m,h,e=>by
  obtain⟨w,e1,r⟩:=MxR.at (k:=k) h.2 (by simpa using e)
  exact⟨w,by simpa using e1,r⟩
 | .l xs::ms,u::us,b::bs,0,m,h,e=>by
  cases e
  obtain⟨e0,⟨vs,e1,r⟩,_⟩:=h
  exact⟨u,rfl,b,vs,e0,List.mem_cons_self,e1,r⟩
 | .l xs::ms,u::us,b::bs,k+1,m,h,e=>by
  obtain⟨w,e1,r⟩:=MxR.at (k:=k) h.2.2 (by simpa using e)
  exact⟨w,by simpa using e1,r.more fun c hc=>List.mem_cons_of_mem _ hc⟩
end
section
variable {X:Cx}{e ie:Expr}{te ti:DTE}{tf:DTF}{pos:Pos}
end
section
variable {X:Cx}{tg iter elt:Expr}{ifs:List Expr}{scope:Scope}{cl:List (Str×Addr)}{N' capt:List Str}{k:Nat}{js is:List Nat}{ti:DTF}{g:DTG}{tt:DTT}{tf:DTF}{pos:Pos}
end
end L2
namespace SV
open PySem
structure Bel(xs:Array Nat)(j b:Nat):Prop where
 le:b<=xs.size
 lo:∀ i,i<b->xs.getD i 0<j
 hi:∀ i,b<=i->i<xs.size->j<=xs.getD i 0
def Not(xs:Array Nat)(j:Nat):Prop:=xs[SetTable.below xs j]?≠some j
end SV
namespace SV
open PySem
end SV
namespace PySem
section
variable {prog:Program}{w:World}{K:Type}[DecidableEq K](knd:KeyKind prog w K)
variable {knd}
variable {A:Around}{E:Value->Shared->Prop}{s:Shared}
end
section
open PyProof.Rows
variable {prog:Program}{w:World}{A:Around}{R:Result->Shared->Prop}{I:Addr}{fp wr:List Addr}{G:Array GenState->Array GenState->Prop}{n:Nat}{P:Nat->Value->Prop}{St:Nat->Shared->Prop}
end
section
variable {prog:Program}{w:World}{A:Around}{E:Value->Shared->Prop}{s:Shared}
end
end PySem
namespace PySem
namespace F
end F
section
variable {prog:Program}{w:World}{A:Around}{E:Value->Shared->Prop}{s:Shared}{a:Addr}{o:Obj}{es:Array (Int×Value)}{ep:Nat}{t:SetTable}
end
end PySem
namespace PySem
section
variable {prog:Program}{w:World}{A:Around}{E:Value->Shared->Prop}{s:Shared}{a:Addr}{o:Obj}{es:Array (Int×Value)}{ep:Nat}{t:SetTable}
def IsSI(h:Heap)(I:Addr)(fs:Array Value):Prop:=∃ u,h.get? I=some u/\u.cls=.type "set_iterator" /\ u.data=.fields fs
end
end PySem
namespace SV
open PySem
def sl(t:SetTable)(i:Nat):Nat:=if i=0 then 0 else t.place.getD (i-1) 0+1
end SV
namespace PySem
section
variable {prog:Program}{w:World}{A:Around}{E:Value->Shared->Prop}{s:Shared}{a:Addr}{o:Obj}{es:Array (Int×Value)}{ep:Nat}{t:SetTable}
theorem IsSI.at{h h':Heap}{I:Addr}{fs:Array Value}(x:IsSI h I fs)(e:∀ o,h.get? I=some o->h'.get? I=some o):IsSI h' I fs:=let ⟨u,hu,r⟩:=x;⟨u,e _ hu,r⟩
end
end PySem
namespace SV
open PySem
section
variable {prog:Program}{w:World}{A:Around}{E:Value->Shared->Prop}{s:Shared}{a:Addr}{o:Obj}{es:Array (Int×Value)}{ep:Nat}{t:SetTable}
end
end SV
namespace SQ
open PySem PyProof.Rows
theorem IntsAre.mk:∀{us:List Value},(∀ v∈us,∃ n t,v=.int n t)->∃ ns,IntsAre us ns
 | [],_=>⟨[],.nil⟩
 | u::us,h=>by
  obtain⟨n,t,rfl⟩:=h u List.mem_cons_self
  obtain⟨ns,e⟩:=IntsAre.mk fun v hv=>h v (List.mem_cons_of_mem _ hv)
  exact⟨n::ns,.cons n t e⟩
section
variable {prog:Program}{w:World}{A:Around}{E:Value->Shared->Prop}{s:Shared}{a:Addr}{o:Obj}{es:Array (Int×Value)}{ep:Nat}{t:SetTable}
end
end SQ
namespace L2
open PySem PySem.Spec PyProof.Rows SQ
section
variable {X:Cx}{a:Expr}{p pos p2 pos2:Pos}
end
end L2
namespace SQ
open PySem PyProof.Rows
section
variable {prog:Program}{w:World}{A:Around}{E:Value->Shared->Prop}{s:Shared}{a:Addr}{o:Obj}{es:Array (Int×Value)}{ep:Nat}{t:SetTable}
end
end SQ
namespace L2
open PySem PySem.Spec PyProof.Rows SQ
section
variable {X:Cx}{a:Expr}{p pos p2 pos2:Pos}
end
end L2
namespace L2
open PySem PySem.Spec PyProof.Rows
section
variable {X:Cx}{pins:List (Addr×Obj)}{σ:St}{H:Hp}{s:Shared}{P c:Addr}{q:Str}
end
section
variable {X:Cx}{pins:List (Addr×Obj)}{σ:St}{H:Hp}{a it S f:Addr}{xs:List V}{kf:Nat->Int}{kwd:List (Str×Value)}{R:Value->Shared->Prop}
structure MkHd(X:Cx)(pins:List (Addr×Obj))(σ:St)(H:Hp)(a it S:Addr)(xs:List V)(kf:Nat->Int)(j i:Nat)(H1:Hp)(s:Shared):Prop where
 I:Inv X pins σ H1 s
 sm:Same H H1
 st:s.heap.IsTupleIter it a j
 f1:FpOk X pins H1 it
 f2:FpOk X pins H1 S
 ne:it≠S
 best:∃ vb tb c x,s.heap.get? S=some (seqObj "list" #[vb,.int (kf i) tb] c)/\xs[i]?=some x/\RelV x vb
 lt:i<j
 mx:∀ j',j' < j->kf j'<=kf i/\(j' < i->kf j' < kf i)
theorem FpOk.at{b:Addr}{H1 H2:Hp}(h:FpOk X pins H1 b)(n:H2 b=none):FpOk X pins H2 b:=⟨n,h.2⟩
theorem FpOk.inv{b:Addr}{H1:Hp}{s:Shared}{h':Heap}{t':Nat}(h:FpOk X pins H1 b)(I:Inv X pins σ H1 s)(k:∀ c o,c≠b->s.heap.get? c=some o->h'.get? c=some o):Inv X pins σ H1 { s with heap:=h',toks:=t' } :=
 I.turned k h.1 h.2.1 h.2.2.2.1 h.2.2.2.2.1 h.2.2.2.2.2
end
section
variable {X:Cx}{pins:List (Addr×Obj)}{σ:St}{H:Hp}{a f:Addr}{xs:List V}{kf:Nat->Int}{R:Value->Shared->Prop}{s:Shared}
end
section
variable {X:Cx}{a body:Expr}{ta:DTF}{tb:DTE}{p pos kp kp2 lp cp:Pos}{k:Nat}{P c:Addr}{q y:Str}{params:Arguments}{scope:Scope}{N:List Str}
end
section
variable {X:Cx}{e:Expr}{es:List Expr}{k k':Nat}{x q:Str}{T:Addr}{ps:List Str}{sp:DSp}{t:DTP}{p pos:Pos}
end
section
variable {P:Program}{w:World}{K:PySem.W.Frag}{mg:Str->Option Value}{base:Heap}
end
section
variable {T a:Addr}{K:PySem.W.Frag}{h:Heap}
end
end L2
namespace PySem
open Sem (wp)
section
variable {prog:Program}{w:World}{A:Around}{E:Value->Shared->Prop}{h:Heap}{g:Array GenState}{d:Drawn}{t:Nat}{os:OsState}
variable {nm q:Str}{C N:Addr}{bs bm bmB bmN:List Value}{hdct:Bool}{sn:List Str}{sub:List Value}{ab:Bool}{col:Option Bool}{dd:Option Addr}{k0 k1 k2 k3 k5:Option Value}{B Bn newId nid initId inN:String}
theorem xi_type(Fn:ExcBaseFacts Bn newId inN bmN)(hBn:bmB.contains (.type Bn)=true)(F:ExcBaseFacts B nid initId bmB)(T:OwnTail h bmB bm){mN:Str->Option Value}{us:List Value}{fI:Addr}{oI:Obj}{Q:Fin->Shared->Prop}
  (gC:h.get? C=some (excClassObj nm q C N bs bm hdct sn sub ab col dd k0 k1 k2 k3 k5 newId)) (gN:h.Ns N mN) (eI:mN "__init__" = some (.ref fI)) (gI:h.get? fI=some oI) (cI:oI.cls=.type "function") (zu:us.length<=sizeLine)
  (fin:∀ h' e,Heap.MadeExcOf h h' e (.ref C) us->wpAny (model prog w) A (call (.ref fI) (.ref e::us)) (fun r s'=>r=.none/\Q (.done (.ret (.ref e))) s') E ⟨h',g,d,t,os⟩) :
  wpAny (model prog w) A (Builtin.«type.__call__» ⟨.ref C::us,[]⟩) Q E ⟨h,g,d,t,os⟩:=by
 repeat (first | with_reducible refine wpAny_loadPart_at gC ?_ | with_reducible refine wpAny_madeBy_exc gC ?_ | wp_step)
 refine codeAny_call_builtin_code (Code.quiet_builtin _ Fn.quiet) (wpAny_check_new_subU Fn hBn T gC ?_)
 refine codeAny_exc_new_subU Fn hBn F T gC ?_ zu
 show wpAny _ _ _ _ _ _
 have up:∀ b o,h.get? b=some o->((h.push { cls:=.type "tuple",data:=.seq us.toArray }).push { cls:=.ref C,data:=.fields #[.ref h.objs.size,.none,.none,.none,.bool false,.none] }).get? b=some o:=fun b o z=>Heap.get?_push_of_some _ (Heap.get?_push_of_some _ z)
 have gC1:=up _ _ gC
 have gI1:=up _ _ gI
 have gN1:=gN.keeps up
 have T1:=T.keeps up
 have ge:((h.push { cls:=.type "tuple",data:=.seq us.toArray }).push { cls:=.ref C,data:=.fields #[.ref h.objs.size,.none,.none,.none,.bool false,.none] }).get? (h.objs.size+1)=some { cls:=.ref C,data:=.fields #[.ref h.objs.size,.none,.none,.none,.bool false,.none] }:=by heap_get
 have self:(Value.ref C::bm).contains (.ref C)=true:=by simp
 unfold isInstance
 repeat (first | with_reducible refine wpAny_loadPart_at ge ?_ | (with_reducible refine wpAny_isSubtype_exc gC1 ?_;rw [self]) | wp_step)
 show wpAny _ _ (typeLookup (.ref C) _) _ _ _
 refine wpAny_typeLookup_tail gC1 gN1 T1 F.mroIs F.init.lookup ?_
 rw [eI]
 refine wpAny_holding (wpAny_bind ?_)
 unfold bindSpecial
 refine wpAny_bind (wpAny_typeOf (T := "function") ⟨_,gI1,cI⟩ ?_)
 rw [if_pos (by decide)]
 refine wpAny_pure (wpAny_bind (wpAny_mono (fin _ (h.objs.size+1) ⟨up,Heap.get?_none_of_le (Nat.le_succ _),h.objs.size,ge,Heap.get?_none_of_le (Nat.le_refl _),?_⟩) (fun r s' z=>?_) fun _ _ z=>z))
 ·exact Heap.get?_push_of_some _ (Heap.get?_push_at rfl rfl)
 ·obtain⟨rfl,z⟩:=z
  wp_walk
  exact z
theorem xi_call(Fn:ExcBaseFacts Bn newId inN bmN)(hBn:bmB.contains (.type Bn)=true)(F:ExcBaseFacts B nid initId bmB)(T:OwnTail h bmB bm){mN:Str->Option Value}{us:List Value}{fI:Addr}{oI:Obj}{Q:Value->Shared->Prop}
  (gC:h.get? C=some (excClassObj nm q C N bs bm hdct sn sub ab col dd k0 k1 k2 k3 k5 newId)) (gN:h.Ns N mN) (eI:mN "__init__" = some (.ref fI)) (gI:h.get? fI=some oI) (cI:oI.cls=.type "function") (zu:us.length<=sizeLine)
  (fin:∀ h' e,Heap.MadeExcOf h h' e (.ref C) us->wpAny (model prog w) (A.under (.builtin "type.__call__" ⟨.ref C::us,[]⟩)) (call (.ref fI) (.ref e::us)) (fun r s'=>r=.none/\Q (.ref e) s') E ⟨h',g,d,t,os⟩) :
  wpAny (model prog w) A (call (.ref C) us) Q E ⟨h,g,d,t,os⟩:=by
 have l1:=tc_lookup
 have l2:=tc_bind (.ref C)
 have ty:(⟨h,g,d,t,os⟩:Shared).TypeIs (.ref C) "type" :=⟨_,gC,rfl⟩
 refine wpAny_call (codeAny_of_tree ?_)
 show wpAny _ _ (callAny (.ref C) _) _ _ _
 repeat (any_goals (first | assumption | with_reducible refine wpAny_loadPart_at gC ?_ | wp_step))
 refine⟨rfl,?_⟩
 exact codeAny_call_builtin_at (Code.quiet_builtin _ (by decide +kernel)) entry_typeCall (wpAny_check_type_call_sub gC (xi_type Fn hBn F T gC gN eI gI cI zu fun h' e mk=>fin h' e mk))
end
end PySem
namespace PySem
open Sem (wp)
open Builtin Builtin.ObjectAttr
theorem pass_tail{h:Heap}{bmB bm:List Value}(T:OwnTail h bmB bm){self:Value}{wh:Str}(hp:refuseLoop self wh bmB=pure ()):refuseLoop self wh bm=pure ():=by
 induction T with
 | base=>exact hp
 | own _ _ _ _ ih=>rw [refuseLoop_ref];exact ih
section
variable {prog:Program}{w:World}{A:Around}{E:Value->Shared->Prop}{h:Heap}{g:Array GenState}{d:Drawn}{t:Nat}{os:OsState}
variable {nm q:Str}{C N x:Addr}{bs bm bmB:List Value}{sn:List Str}{sub:List Value}{ab:Bool}{col:Option Bool}{dd:Option Addr}{k0 k1 k2 k3 k5:Option Value}{B newId sa owner:String}
 {mA:Str->Option Value} {name:Str} {v:Value}
theorem xs_check{M:Model}{o:Obj}{nv:Value}{Q:Unit->Shared->Prop}(SF:StoreFacts B bmB sa owner)(T:OwnTail h bmB bm)
  (gC:h.get? C=some (excClassObj nm q C N bs bm true sn sub ab col dd k0 k1 k2 k3 k5 newId)) (gx:h.get? x=some o) (cx:o.cls=.ref C) (fin:Q () ⟨h,g,d,t,os⟩) :
  wpAny M A (checkBuiltinCall sa ⟨[.ref x,nv,v],[]⟩) Q E ⟨h,g,d,t,os⟩:=by
 have has:(Value.ref C::bm).contains (.type owner)=true:=by rw [List.contains_cons,T.hasType SF.hasOwner,Bool.or_true]
 have args:=SF.args (.ref x) nv v
 simp only [checkBuiltinCall,SF.kind,SF.split]
 refine wpAny_bind ?_
 unfold isInstance
 repeat (first | (with_reducible refine wpAny_loadPart_at gx ?_;rw [cx]) | (with_reducible refine wpAny_isSubtype_exc gC ?_;rw [has]) | wp_step)
 cases sg:Manifest.signature? sa with
 | none=>exact wpAny_pure fin
 | some z =>
  simp only [argsOk,sg] at args
  have e2:Bind.checkArgs sa z ⟨[.ref x,nv,v],[]⟩=pure ():=args
  show wpAny M A (Bind.checkArgs sa z ⟨[.ref x,nv,v],[]⟩) Q E _
  rw [e2]
  exact wpAny_pure fin
def Stored(h h':Heap)(x C:Addr)(mA:Str->Option Value):Prop:=h'.Inst x C mA /\
 (∀ b o,b≠x->(∀ o0 dx,h.get? x=some o0->o0.dict=some dx->b≠dx)->h.get? b=some o->h'.get? b=some o) /\
 (∀ o0,h.get? x=some o0->∃ o1,h'.get? x=some o1/\o1.cls=o0.cls/\o1.data=o0.data/\o1.slots=o0.slots/\∃ dx,o1.dict=some dx/\(∀ dy,o0.dict=some dy->dx=dy)/\(o0.dict=none->h.objs.size<=dx))
theorem xs_entry{tk:Tok}{Q:Fin->Shared->Prop}{ns:List Str}(SF:StoreFacts B bmB sa owner)(T:OwnTail h bmB bm)(hp:refuseLoop (.ref x) "__setattr__" bmB=pure ())
  (gC:h.get? C=some (excClassObj nm q C N bs bm true sn sub ab col dd k0 k1 k2 k3 k5 newId)) (look:PySem.W.Looks (model prog w) h (typeLookup (.ref C) name) none) (I:h.Inst x C mA)
  (fin:∀ h' tk',Stored h h' x C (fun y=>if y=name then some v else mA y)->Q (.done (.ret .none)) ⟨h',g,d,tk',os⟩) (few:Within mA ns) (sz:ns.length<=1000) :
  wpAny (model prog w) A (Builtin.«object.__setattr__» ⟨[.ref x,.str name tk,v],[]⟩) Q E ⟨h,g,d,t,os⟩:=by
 obtain⟨o,gx,cx,ncl,dct⟩:=I
 have pass:=pass_tail T hp
 unfold Builtin.«object.__setattr__»
 repeat (first | rw [refuse_eq] | (rw [refuseLoop_ref,pass]) | (with_reducible refine wpAny_loadPart_at gx ?_;rw [cx]) | with_reducible refine wpAny_mroOf_exc gC ?_ | with_reducible refine look.at ?_ | wp_step)
 rcases dct with⟨dn,mn⟩ | ⟨dx,ed,ne,nsx⟩
 ·rw [dn,if_neg (by simp [typeHasDict])]
  split
  ·next z=>cases z
  split
  ·next c z=>exact absurd z (ncl c)
  ·have gx1:(h.push { cls:=.type "dict",data:=.dict #[] }).get? x=some o:=Heap.get?_push_of_some _ gx
   have xs:x≠h.objs.size:=Nat.ne_of_lt (Heap.lt_size gx)
   refine wpAny_bind (wpAny_alloc' ?_)
   refine wpAny_bind (wpAny_update' gx1 ?_)
   refine wpAny_pure ?_
   have gd:((h.push { cls:=.type "dict",data:=.dict #[] }).update x fun o=>{ cls:=o.cls,dict:=some h.objs.size,data:=o.data,slots:=o.slots }).get? h.objs.size=some { cls:=.type "dict",data:=.dict #[] } :=
    (Heap.get?_update_ne _ _ _ _ xs.symm).trans (Heap.get?_push_at rfl rfl)
   have nd:((h.push { cls:=.type "dict",data:=.dict #[] }).update x fun o=>{ cls:=o.cls,dict:=some h.objs.size,data:=o.data,slots:=o.slots }).Ns h.objs.size (fun _=>none):=⟨_,#[],_,gd,rfl,fun e z=>absurd z (by simp),fun _=>rfl⟩
   show wpAny _ _ (storeInDict h.objs.size (.str name tk) name v) _ _ _
   unfold storeInDict newKeyGuard
   refine wpAny_bind (wpAny_pure (wpAny_bind (wpAny_nsSet1 (Heap.Ns1.of_empty nd) fun h' n1 same=>?_)))
   obtain⟨oD,esD,epD,gD,dD,cD⟩:=n1.count (Within.cons name v Within.nil)
   refine wpAny_bind (wpAny_lookBehind gD (by rw [dD];exact pastItsLine_dict (Nat.le_trans cD (by rw [List.length_cons,List.length_nil,sizeLine_eq];omega))) ?_)
   wp_walk
   have gx':h'.get? x=some { cls:=o.cls,dict:=some h.objs.size,data:=o.data,slots:=o.slots }:=by
    refine(same.2 x xs).trans (Heap.get?_update_self _ gx1 ?_)
    have fr:=(Heap.get?_some_iff.mp gx).2
    obtain⟨oc,od,odt,osl⟩:=o
    cases odt <;> first | rfl | exact fr
   refine fin h' _ ⟨⟨{ cls:=o.cls,dict:=some h.objs.size,data:=o.data,slots:=o.slots },gx',cx,ncl,.inr ⟨h.objs.size,rfl,xs.symm,?_⟩⟩,fun b ob nb _ gb=>?_,fun o0 g0=>?_⟩
   ·obtain⟨o',es,ep,e1,e2,e3,eu,e4⟩:=n1
    exact⟨o',es,ep,e1,e2,e3,eu,fun y=>by rw [e4 y];by_cases c:y=name <;> simp [c,mn]⟩
   ·exact(same.2 b (Nat.ne_of_lt (Heap.lt_size gb))).trans ((Heap.get?_update_ne _ _ _ _ nb).trans (Heap.get?_push_of_some _ gb))
   ·obtain rfl:o=o0:=Option.some.inj (gx.symm.trans g0)
    exact⟨_,gx',rfl,rfl,rfl,_,rfl,(fun dy e=>by rw [dn] at e;cases e),fun _=>Nat.le_refl _⟩
 ·rw [ed]
  refine wpAny_pure ?_
  show wpAny _ _ (storeInDict dx (.str name tk) name v) _ _ _
  unfold storeInDict newKeyGuard
  refine wpAny_bind (wpAny_pure (wpAny_bind (wpAny_nsSet1 nsx fun h' n1 same=>?_)))
  obtain⟨oD,esD,epD,gD,dD,cD⟩:=n1.count (Within.cons name v few)
  refine wpAny_bind (wpAny_lookBehind gD (by rw [dD];exact pastItsLine_dict (Nat.le_trans cD (by rw [List.length_cons,sizeLine_eq];omega))) ?_)
  wp_walk
  exact fin h' _ ⟨⟨o,(same.2 x ne.symm).trans gx,cx,ncl,.inr ⟨dx,ed,ne,n1⟩⟩,fun b ob _ nd gb=>(same.2 b (nd o dx gx ed)).trans gb,fun o0 g0=>⟨o0,(same.2 x ne.symm).trans g0,rfl,rfl,rfl,dx,by
   obtain rfl:o=o0:=Option.some.inj (gx.symm.trans g0)
   exact ed,(fun dy e=>by
   obtain rfl:o=o0:=Option.some.inj (gx.symm.trans g0)
   rw [ed] at e;exact Option.some.inj e),fun z=>by
   obtain rfl:o=o0:=Option.some.inj (gx.symm.trans g0)
   rw [ed] at z;cases z⟩⟩
theorem xs_attr{Q:Unit->Shared->Prop}{ns:List Str}(SF:StoreFacts B bmB sa owner)(T:OwnTail h bmB bm)
  (gC:h.get? C=some (excClassObj nm q C N bs bm true sn sub ab col dd k0 k1 k2 k3 k5 newId)) (ls:PySem.W.Looks (model prog w) h (typeLookup (.ref C) "__setattr__") (some (.builtin sa))) (look:PySem.W.Looks (model prog w) h (typeLookup (.ref C) name) none) (I:h.Inst x C mA)
  (fin:∀ h' tk',Stored h h' x C (fun y=>if y=name then some v else mA y)->Q () ⟨h',g,d,tk',os⟩) (few:Within mA ns) (sz:ns.length<=1000) :
  wpAny (model prog w) A (setAttr (.ref x) name v) Q E ⟨h,g,d,t,os⟩:=by
 obtain⟨o,gx,cx,_⟩:=id I
 have b3:=SF.slot.bind (.ref x)
 unfold setAttr callSpecial? specialOf
 repeat (any_goals (first | assumption | (with_reducible refine wpAny_loadPart_at gx ?_;rw [cx]) | with_reducible refine ls.at ?_ | wp_step))
 refine codeAny_call_builtin SF.slot.plain SF.entry (xs_check SF T gC gx cx (xs_entry SF T (SF.passes _) gC look I (fun h' tk' z=>?_) few sz))
 repeat (any_goals (first | assumption | wp_step))
 exact fin h' tk' z
end
end PySem
namespace PySem
open Sem (wp)
section
variable {M:Model}{A:Around}{E:Value->Shared->Prop}{s:Shared}{env:Env}
variable {nm q:Str}{C N:Addr}{bs bm bmB bmN:List Value}{hdct:Bool}{sn:List Str}{sub:List Value}{ab:Bool}{col:Option Bool}{dd:Option Addr}{k0 k1 k2 k3 k5:Option Value}{B Bn newId nid initId inN:String}
theorem xr_stmt{x:Sem Value}{Q:Flow->Shared->Prop}(hb:bm.contains (.type "BaseException")=true)(hh:A.handled=none)
  (h:wpAny M A x (fun v s1=>∃ e t od,v=.ref e/\s1.heap.get? C=some (excClassObj nm q C N bs bm hdct sn sub ab col dd k0 k1 k2 k3 k5 newId)/\s1.heap.get? e=some { cls:=.ref C,dict:=od,data:=.fields #[.ref t,.none,.none,.none,.bool false,.none] }/\E (.ref e) s1) E s) :
  wpAny M A (raiseStmt env (some x) none) Q E s:=by
 have has:(Value.ref C::bm).contains (.type "BaseException")=true:=by rw [List.contains_cons,hb,Bool.or_true]
 unfold raiseStmt
 refine wpAny_bind (wpAny_mono h (fun v s1 z=>?_) fun _ _ z=>z)
 obtain⟨e,t,od,rfl,gC,ge,z⟩:=z
 obtain⟨hp,g,d,tk,os⟩:=s1
 repeat (first | with_reducible refine wpAny_loadPart_at ge ?_ | with_reducible refine wpAny_loadPart_at gC ?_ | (with_reducible refine wpAny_isSubtype_exc gC ?_;rw [has]) | wp_step)
 exact wpAny_raiseNew_none hh z
end
section
variable {prog:Program}{w:World}{A:Around}{E:Value->Shared->Prop}{s:Shared}{env:Env}
variable {nm q:Str}{C N:Addr}{bs bm bmB bmN:List Value}{hdct:Bool}{sn:List Str}{sub:List Value}{ab:Bool}{col:Option Bool}{dd:Option Addr}{k0 k1 k2 k3 k5:Option Value}{B Bn newId nid initId inN:String}
theorem xr_raise(Fn:ExcBaseFacts Bn newId inN bmN)(hBn:bmB.contains (.type Bn)=true)(F:ExcBaseFacts B nid initId bmB){x:Str}{np cpos pos:Pos}{args:List Expr}{fI:Addr}{oI:Obj}{Q:Flow->Shared->Prop}
  (hb:bm.contains (.type "BaseException")=true) (hh:A.handled=none) (hp:(backTo cpos (starEach args env)).any (·.1)=false) (cI:oI.cls=.type "function")
  (h:wpAny (model prog w) A (eval (.Name x np) env) (fun f s1=>f=.ref C/\wpAny (model prog w) A (evalArgs (.ref C) true (backTo cpos (starEach args env)) [])
   (fun a s2=>a.kw = []/\a.pos.length<=sizeLine/\s2.heap.get? C=some (excClassObj nm q C N bs bm hdct sn sub ab col dd k0 k1 k2 k3 k5 newId)/\(∃ mN:Str->Option Value,s2.heap.Ns N mN/\mN "__init__" = some (.ref fI))/\OwnTail s2.heap bmB bm/\s2.heap.get? fI=some oI /\
    ∀ h' e,Heap.MadeExcOf s2.heap h' e (.ref C) a.pos->wpAny (model prog w) (A.under (.builtin "type.__call__" ⟨.ref C::a.pos,[]⟩)) (call (.ref fI) (.ref e::a.pos))
     (fun r s3=>r=.none/\s3.heap.get? C=some (excClassObj nm q C N bs bm hdct sn sub ab col dd k0 k1 k2 k3 k5 newId)/\(∃ t od,s3.heap.get? e=some { cls:=.ref C,dict:=od,data:=.fields #[.ref t,.none,.none,.none,.bool false,.none] })/\E (.ref e) s3) E { s2 with heap:=h' }) E s1) E s) :
  wpAny (model prog w) A (exec (.Raise (some (.Call (.Name x np) args [] cpos)) none pos) env) Q E s:=by
 rw [arm_exec_Raise]
 refine wpAny_bind (wpAny_standAt (xr_stmt (C:=C) (nm:=nm) (q:=q) (N:=N) (bs:=bs) (bm:=bm) (hdct:=hdct) (sn:=sn) (sub:=sub) (ab:=ab) (col:=col) (dd:=dd) (k0:=k0) (k1:=k1) (k2:=k2) (k3:=k3) (k5:=k5) (newId:=newId) hb hh (wpAny_bind (wpAny_mono (wpAny_Call_ofName (wpAny_mono h (fun f s1 z=>?_) fun _ _ z=>z)) (fun v s3 z=>wpAny_bind (wpAny_standAt (wpAny_pure z))) fun _ _ z=>z))))
 obtain⟨rfl,z⟩:=z
 unfold callWith
 refine wpAny_bind (wpAny_holding (wpAny_mono z (fun a s2 z2=>wpAny_bind (wpAny_standAt ?_)) fun _ _ z=>z))
 obtain⟨apos,akw⟩:=a
 obtain⟨ek,zl,gC,⟨mN,gN,eI⟩,T,gI,z2⟩:=z2
 obtain rfl:akw = []:=ek
 obtain⟨hp2,g,d,tk,os⟩:=s2
 simp only [hp]
 refine wpAny_bind (wpAny_keeperOf_exc gC ?_)
 refine wpAny_bind (xi_call Fn hBn F T gC gN eI gI cI zl fun h' e mk=>wpAny_mono (z2 h' e mk) (fun r s3 y=>?_) fun _ _ y=>y)
 obtain⟨rfl,gC3,⟨t,od,ge⟩,y⟩:=y
 exact⟨rfl,wpAny_bind (wpAny_holding (wpAny_point (wpAny_pure ⟨e,t,od,rfl,gC3,ge,y⟩)))⟩
end
end PySem
namespace L2
open PySem PySem.Spec PyProof.Rows
def excInI(K:PySem.W.Frag)(C:Addr)(bmB:List Value)(newId:String)(fI:Addr):Bool:=match K.lookup C with
 | some ⟨.type "type",_,.cls cd,sl⟩=>(match cd.mro,sl.toList with
  | .ref C'::bm,[_,_,_,_,some (.builtin n),_]=>C' == C && n == newId && !cd.hasDel && cd.hasDict && PySem.W.tailIn K bmB bm && PySem.W.nsOkIn K cd.ns && PySem.W.nsIn K cd.ns "__init__" == some (some (.ref fI))
  | _,_=>false)
 | _=>false
theorem ns_has{K:PySem.W.Frag}{h:Heap}{N:Addr}{m:Str->Option Value}{n:Str}{v:Value}(X:K.In h)(G:h.Ns N m)(e:PySem.W.nsIn K N n=some (some v)):m n=some v:=by
 obtain⟨o,es,ep,ho,hd,_,hf⟩:=G
 unfold PySem.W.nsIn at e
 split at e
 ·next cc dd es' n' sl z =>
  have y:=X _ _ z
  rw [ho] at y
  cases y
  cases hd
  split at e
  ·next en he =>
   cases e
   rw [<-hf]
   unfold nsFind findBy
   rw [<-Array.find?_toList,he]
   rfl
  ·split at e <;> cases e
 ·cases e
theorem exc_K{K:PySem.W.Frag}{C fI:Addr}{bmB:List Value}{newId:String}(q:excInI K C bmB newId fI=true):
  ∃ nm qn N bs bm sn sub ab col dd k0 k1 k2 k3 k5,K.lookup C=some (excClassObj nm qn C N bs bm true sn sub ab col dd k0 k1 k2 k3 k5 newId)/\PySem.W.nsOkIn K N=true/\PySem.W.nsIn K N "__init__" = some (some (.ref fI))/\PySem.W.tailIn K bmB bm=true:=by
 unfold excInI at q
 split at q
 ·next dd cd sl ho =>
  split at q
  ·next C' bm k0 k1 k2 k3 n k5 hm hs =>
   simp only [Bool.and_eq_true,beq_iff_eq,Bool.not_eq_true'] at q
   obtain⟨⟨⟨⟨⟨⟨rfl,rfl⟩,z1⟩,zd⟩,z2⟩,z3⟩,z4⟩:=q
   obtain⟨nm,bs,mro,ns,qn,hd,sn,sub,ab,col,del⟩:=cd
   obtain⟨l⟩:=sl
   dsimp only at hm z1 z3 z4 hs zd
   subst hm z1 hs zd
   exact⟨nm,qn,ns,bs,bm,sn,sub,ab,col,dd,k0,k1,k2,k3,k5,ho,z3,z4,z2⟩
  ·cases q
 ·cases q
theorem exc_atI{K:PySem.W.Frag}{h:Heap}{C fI:Addr}{bmB:List Value}{newId:String}(X:K.In h)(q:excInI K C bmB newId fI=true):
  ∃ nm qn N bs bm sn sub ab col dd k0 k1 k2 k3 k5 mN,h.get? C=some (excClassObj nm qn C N bs bm true sn sub ab col dd k0 k1 k2 k3 k5 newId)/\h.Ns N mN/\mN "__init__" = some (.ref fI)/\OwnTail h bmB bm:=by
 obtain⟨nm,qn,ns,bs,bm,sn,sub,ab,col,dd,k0,k1,k2,k3,k5,ho,z3,z4,z2⟩:=exc_K q
 have G:=Heap.Ns.of_isNs (PySem.W.isNs_of_in X z3)
 exact⟨nm,qn,ns,bs,bm,sn,sub,ab,col,dd,k0,k1,k2,k3,k5,_,X _ _ ho,G,ns_has X G z4,PySem.W.tail_of_in X z2⟩
section
variable {X:Cx}{pins:List (Addr×Obj)}{σ:St}{H:Hp}{s:Shared}
theorem ld_var{M:Model}{A:Around}{E:Value->Shared->Prop}{Q:Value->Shared->Prop}{i:Nat}{x:Str}{pos:Pos}{v:V}(I:Inv X pins σ H s)(hN:X.N[i]?=some x)(hσ:σ[i]?=some (some v))(hv:Vis X.env.scope x)(h:∀ u,RelV v u->Q u s)(hd:(x == ("__debug__" : Str))=false)(hcd:(x == ("__classdict__" : Str))=false):
  wpAny M A (eval (.Name x pos) X.env) Q E s:=by
 obtain⟨m,hn,hl⟩:=I.loc
 obtain⟨u,r,l⟩:=hl i x v hN hσ hv
 rcases l with⟨hk,hm⟩ | ⟨hk,c,hc,hcell⟩
 ·exact wpAny_Name (wpAny_loadName_local I.ok.kind hk hn hm (h u r)) hd
 ·rcases hk with hk | hk
  ·exact wpAny_Name (wpAny_loadName_cell I.ok.kind hk hc hcell (h u r)) hd
  ·exact wpAny_Name (wpAny_loadName_free I.ok.kind hk hc hcell (h u r) hcd) hd
theorem Inv.track{b:Addr}{o:HO}(I:Inv X pins σ H s)(hn:H b=none)(h0:X.s₀.heap.get? b=none)(hl:b≠X.env.locals)(hc:∀ x c,X.env.cells.lookup x=some c->c≠b)(hp:∀ p∈X.pn++pins,p.1≠b)(ok:ObjOk X.prog X.w (upd H b o) s.heap b o):Inv X pins σ (upd H b o) s:=by
 have up:∀ c u,H c=some u->upd H b o c=some u:=fun c u e=>by rw [upd_ne (ne_of_none e hn)];exact e
 refine⟨I.ok,I.os,I.bare,⟨I.base.keep,I.base.slot,fun c u e n hx=>?_,I.base.there,fun c xs e=>up _ _ (I.base.tups c xs e),fun c u v e=>up _ _ (I.base.frzs c u v e),fun c ps e=>?_⟩,I.loc,I.cell,?_,fun x c e=>?_,fun p q=>?_,fun c u e=>?_,I.len⟩
 ·rw [upd_ne (fun z=>by rw [z,h0] at e;cases e)]
  exact I.base.free c u e n hx
 ·obtain⟨m,z⟩:=I.base.tbls c ps e
  exact⟨m,up _ _ z⟩
 ·rw [upd_ne (Ne.symm hl)];exact I.free
 ·rw [upd_ne (hc x c e)];exact I.freeC x c e
 ·obtain⟨z1,z2,z3⟩:=I.pin p q
  exact⟨z1,by rw [upd_ne (hp p q)];exact z2,z3⟩
 ·by_cases z:c=b
  ·subst z
   rw [upd_same] at e
   cases e
   exact ok
  ·rw [upd_ne z] at e
   exact(I.hok c u e).stay (fun _ _ _ q=>q) (fun c q=>up _ _ q) (fun c xs q=>up _ _ q) fun c _ _ q=>up _ _ q
def offH(H:Hp)(b:Addr):Hp:=fun c=>if c=b then none else H c
theorem off_ne{b c:Addr}(h:c≠b):offH H b c=H c:=if_neg h
theorem Inv.untrack{b:Addr}{φ:Heap->Prop}(I:Inv X pins σ H s)(hb:H b=some (.ext φ))(h0:X.s₀.heap.get? b=none):Inv X pins σ (offH H b) s:=by
 have ne:∀ c u,H c=some u->(∀ ψ,u ≠ .ext ψ)->c≠b:=fun c u e n z=>by rw [z,hb] at e;cases e;exact n _ rfl
 have off:∀ c,H c=none->offH H b c=none:=fun c e=>by unfold offH;split <;> first | rfl | exact e
 refine⟨I.ok,I.os,I.bare,⟨I.base.keep,I.base.slot,fun c u e n hx=>off _ (I.base.free c u e n hx),I.base.there,fun c xs e=>?_,fun c u v e=>?_,fun c ps e=>?_⟩,I.loc,I.cell,off _ I.free,fun x c e=>off _ (I.freeC x c e),fun p q=>?_,fun c u e=>?_,I.len⟩
 ·have:=I.base.tups c xs e
  rw [off_ne (ne c _ this fun _=>by simp)];exact this
 ·have:=I.base.frzs c u v e
  rw [off_ne (ne c _ this fun _=>by simp)];exact this
 ·obtain⟨m,z⟩:=I.base.tbls c ps e
  exact⟨m,by rw [off_ne (ne c _ z fun _=>by simp)];exact z⟩
 ·obtain⟨z1,z2,z3⟩:=I.pin p q
  exact⟨z1,off _ z2,z3⟩
 ·have e':H c=some u:=by
   unfold offH at e
   split at e
   ·cases e
   ·exact e
  exact(I.hok c u e').stay (fun _ _ _ q=>q) (fun c q=>by rw [off_ne (ne c _ q fun _=>by simp)];exact q) (fun c xs q=>by rw [off_ne (ne c _ q fun _=>by simp)];exact q) fun c _ _ q=>by rw [off_ne (ne c _ q fun _=>by simp)];exact q
end
def excObj(C t:Addr)(od:Option Addr):Obj:={ cls:=.ref C,dict:=od,data:=.fields #[.ref t,.none,.none,.none,.bool false,.none] }
def ExcE(C t:Addr)(od:Option Addr)(a:Addr):HO:=.ext fun h=>h.get? a=some (excObj C t od)
theorem excE_ok{P:Program}{w:World}{H:Hp}{h:Heap}{C t a:Addr}{od:Option Addr}(g:h.get? a=some (excObj C t od)):ObjOk P w H h a (ExcE C t od a):=⟨g,⟨_,g⟩,fun _ _ z k=>k _ z⟩
structure XI(X:Cx)(σ:St)(H:Hp)(s:Shared)(e C t:Addr)(od:Option Addr)(mA:Str->Option Value)(c:Nat):Prop where
 I:Inv X [] σ H s
 tr:H e=some (ExcE C t od e)
 no:od=none->∀ n,mA n=none
 ns:∀ d,od=some d->d≠e/\s.heap.Ns1 d mA/\FpOk X [] H d
 few:∃ ks,Within mA ks/\ks.length<=c
structure XFld(K:PySem.W.Frag)(C fI:Addr)(fs:List Str):Prop where
 cls:excInI K C [.type "ValueError",.type "Exception",.type "BaseException",.type "object"] "ValueError.__new__" fI=true
 sa:PySem.W.findIn K (.ref C) "__setattr__" = some (some (.builtin "object.__setattr__"))
 at_:∀ f∈fs,PySem.W.findIn K (.ref C) f=some none
section
variable {X:Cx}{σ:St}{H:Hp}{s:Shared}{e C t fI:Addr}{od:Option Addr}{mA:Str->Option Value}{fs:List Str}{c:Nat}
theorem XI.ob(x:XI X σ H s e C t od mA c):s.heap.get? e=some (excObj C t od):=(x.I.hok e _ x.tr).1
theorem XI.inst(x:XI X σ H s e C t od mA c):s.heap.Inst e C mA:=by
 refine⟨_,x.ob,rfl,(fun c z=>by cases z),?_⟩
 cases h:od with
 | none=>exact .inl ⟨by simp [excObj],x.no h⟩
 | some d=>exact .inr ⟨d,rfl,(x.ns d h).1,(x.ns d h).2.1⟩
theorem xi_store(x:XI X σ H s e C t od mA c)(K:XFld X.K C fI fs)(hc9:c<=900){f:Str}{j:Nat}{n:Int}{p1 p2 p3 p4:Pos}(hf:f∈fs)(h0:σ[0]?=some (some (.ref e)))(hj:σ[j]?=some (some (.int n)))(N0:X.N[0]?=some ("self" : Str))(Nj:X.N[j]?=some f)(V0:Vis X.env.scope "self")(Vj:Vis X.env.scope f)
  (d1:(f == ("__debug__" : Str))=false) (d2:(f == ("__classdict__" : Str))=false) (hs:swapsWith (.Name f p3) (some (.Attribute (.Name "self" p1) f p2)) p4.line X.env=pure false) :
  wpAny (model X.prog X.w) X.A (exec (.Assign [.Attribute (.Name "self" p1) f p2] (.Name f p3) p4) X.env)
   (fun fl s'=>fl=.next/\∃ H' d tk,XI X σ H' s' e C t (some d) (fun y=>if y=f then some (.int n tk) else mA y) (c+1)/\But e H H') (fun _ _=>False) s:=by
 refine plainObj_wpAny_Assign_Attribute (ld_var x.I Nj hj Vj (fun u ru=>ld_var x.I N0 h0 V0 (fun ov rv=>?_) (by decide) (by decide)) d1 d2) hs
 obtain⟨tk,rfl⟩:=ru
 obtain rfl:ov=.ref e:=rv
 obtain⟨nm,qn,N,bs,bm,sn,sub,ab,col,dd,k0,k1,k2,k3,k5,mN,gC,gN,eI,T⟩:=exc_atI x.I.kIn K.cls
 have ls:=PySem.W.looks_findIn (M:=model X.prog X.w) x.I.kIn K.sa
 have lf:=PySem.W.looks_findIn (M:=model X.prog X.w) x.I.kIn (K.at_ f hf)
 obtain⟨ks,few,le⟩:=x.few
 have xo:=x
 obtain⟨hp,g,dr,tks,os⟩:=s
 refine xs_attr (F.store_ValueError) T gC ls lf x.inst (fun h' tk' z=>⟨rfl,?_⟩) few (by omega)
 obtain⟨zi,zk,zo⟩:=z
 obtain⟨o1,g1,c1,c2,c3,dx,ed,e1,e2⟩:=zo _ x.ob
 have eo:o1=excObj C t (some dx):=by
  obtain⟨a1,a2,a3,a4⟩:=o1
  simp only [excObj] at c1 c2 c3
  subst c1 c2 c3 ed
  rfl
 subst eo
 obtain⟨o2,g2,_,_,dc⟩:=zi
 have:excObj C t (some dx)=o2:=Option.some.inj (g1.symm.trans g2)
 subst this
 have nsx:dx≠e/\h'.Ns1 dx (fun y=>if y=f then some (.int n tk) else mA y):=by
  rcases dc with⟨z,_⟩ | ⟨d',z,z1,z2⟩
  ·cases z
  ·cases z;exact⟨z1,z2⟩
 have few':∃ ks',Within (fun y=>if y=f then some (Value.int n tk) else mA y) ks'/\ks'.length<=c+1:=⟨f::ks,Within.cons f _ few,by rw [List.length_cons];omega⟩
 cases hd:od with
 | none =>
  subst hd
  have yl:=e2 rfl
  have hn:(upd H e (ExcE C t (some dx) e)) dx=none:=by rw [upd_ne nsx.1];exact x.I.hok.fresh yl
  refine⟨_,dx,tk,⟨x.I.write (x:=e) (e:=e) (t':=tk') (by rw [x.tr];exact True.intro) (.inl rfl) (fun b u nb gb=>zk b u nb (fun o0 dy q1 q2=>by rw [x.ob] at q1;cases q1;cases q2) gb) ⟨_,g1⟩ (excE_ok g1),upd_same,(fun z=>nomatch z),fun d z=>?_,few'⟩,But.write⟩
  cases z
  exact⟨nsx.1,nsx.2,x.I.fpOk yl hn⟩
 | some d =>
  subst hd
  have ee:=e1 d rfl
  subst ee
  obtain⟨n1,n2,fp⟩:=x.ns dx rfl
  refine⟨H,dx,tk,⟨fp.inv (t':=tk') x.I fun b o nb gb=>?_,x.tr,(fun z=>nomatch z),fun d' z=>?_,few'⟩,But.refl _ _⟩
  ·by_cases q:b=e
   ·subst q
    rw [x.ob] at gb
    cases gb
    exact g1
   ·exact zk b o q (fun o0 dy q1 q2=>by rw [x.ob] at q1;cases q1;cases q2;exact nb) gb
  ·cases z
   exact⟨nsx.1,nsx.2,fp⟩
end
def fldV(fs:List Str)(ns:List Int):List (Str×V):=(fs.zip ns).map fun p=>(p.1,V.int p.2)
def InitEnd(P:Program)(w:World)(outer:List Env)(H:Hp)(s s':Shared)(e C t:Addr)(fv:List (Str×V)):Prop :=
 ∃ d H',s'.os=s.os/\AllBare s'.gens/\Un (frs outer) [] H H' s.heap s'.heap/\HOk P w H' s'.heap/\H' e=some (ExcE C t (some d) e)/\H' d=some (.xd fv)/\But e H H'/\d≠e/\H d=none
structure InitOk(P:Program)(w:World)(K:PySem.W.Frag)(mg:Str->Option Value)(base:Heap)(k:Nat)(C fI:Addr)(fs:List Str):Prop where
 run:∀(A:Around) (outer:List Env) (s:Shared) (H:Hp) (e t:Addr) (ns:List Int) (us:List Value),Room k A->Env0 P w K mg base A outer s H->H e=some (ExcE C t none e)->Vals (ns.map V.int) us->ns.length=fs.length ->
  codeAny (model P w) A (.call (.ref fI) ⟨.ref e::us,[]⟩) (fun r s'=>r=.ok (.ret .none)/\InitEnd P w outer H s s' e C t (fldV fs ns)) s
section
variable {P:Program}{w:World}{K:PySem.W.Frag}{mg:Str->Option Value}{base:Heap}{k:Nat}{C fI:Addr}{fd:FuncData}{qual:Str}{st:Stmt}
theorem xi_end{X:Cx}{σ:St}{H:Hp}{s:Shared}{e t d:Addr}{mA:Str->Option Value}{c:Nat}{fv:List (Str×V)}(x:XI X σ H s e C t (some d) mA c)(hex:X.ex = [])(b:But e X.H₀ H)(hr:∀ f,RelO (fv.lookup f) (mA f))(hok:HOk X.prog X.w X.H₀ X.s₀.heap):
  ∃ H',Inv X [] σ H' s/\H' e=some (ExcE C t (some d) e)/\H' d=some (.xd fv)/\But e X.H₀ H'/\d≠e/\X.H₀ d=none:=by
 obtain⟨ne,ns,f0,f1,f2,f3,f4,f5⟩:=x.ns d rfl
 have y:X.s₀.heap.objs.size<=d:=by
  rcases f3 with z | z
  ·rw [hex] at z;cases z
  ·exact z
 refine⟨_,x.I.track (b:=d) (o:=.xd fv) f0 (Heap.get?_none_of_le y) f1 f4 f5 ⟨mA,ns,hr⟩,by rw [upd_ne ne.symm];exact x.tr,upd_same,fun c o n q=>?_,ne,hok.fresh y⟩
 have:=b c o n q
 rw [upd_ne (ne_of_none this f0)]
 exact this
theorem init_go{N ps:List Str}(F:Fun K "__init__" qual st fI fd)(S:FnScope N ps (defScope st))(hb:Binds K fd ps []){A:Around}{outer:List Env}{s:Shared}{H:Hp}{e t:Addr}{vs:List V}{us:List Value}{fv:List (Str×V)}(hr:Room (k+1) A)(e0:Env0 P w K mg base A outer s H)
  (r:Vals vs us) (hl:vs.length=ps.length)
  (body:∀ cdv s1,Inv (cxOf CX0 P w K mg base N qual (defScope st) fI cdv A outer s H E0) [] (start N vs) H s1 ->
   wpAny (model P w) (A.deeper (envOfC qual (defScope st) s.heap.objs.size fI cdv)) (execs (defBody st) (envOfC qual (defScope st) s.heap.objs.size fI cdv)) (fun fl s'=>fl=.next/\∃ H' d σ',Inv (cxOf CX0 P w K mg base N qual (defScope st) fI cdv A outer s H E0) [] σ' H' s' /\
    H' e=some (ExcE C t (some d) e)/\H' d=some (.xd fv)/\But e H H'/\d≠e/\H d=none) (fun _ _=>False) s1) :
  codeAny (model P w) A (.call (.ref fI) ⟨us,[]⟩) (fun r s'=>r=.ok (.ret .none)/\InitEnd P w outer H s s' e C t fv) s:=by
 have lu:us.length=ps.length:=by rw [<-r.length];exact hl
 have KX:K.In s.heap:=e0.mod.kin.keeps fun b o e=>(e0.bs b o e).1
 have bb:BindsTo s fd ⟨us,[]⟩ (ps.zip us):=by
  have:=hb s us KX (by rw [List.append_nil];exact lu)
  rw [List.append_nil] at this
  exact this
 obtain⟨oc,od,kV,doc,pm,an,cdv,ct,osl,rfl,lk,hcd⟩:=F.ex
 have lim:s.heap.NoLimit:=e0.mod.nolimit.keeps fun b o e=>(e0.bs b o e).1
 have knd:∀ y∈ps.zip us,(defScope st).names.lookup y.1=some .local\/((defScope st).names.lookup y.1=some .cell/\((cellsFrom (s.heap.objs.size+1) (defScope st).names []).lookup y.1).isSome=true):=fun⟨n,v⟩ hy=>by
  rcases S.par n (List.of_mem_zip hy).1 with z | z
  ·exact .inl z
  ·exact .inr ⟨z,PySem.W.cellsFrom_some _ _ _ (.inl z)⟩
 refine codeAny_call_function hr.depth (KX _ _ lk) rfl S.co S.gen rfl (PySem.W.codeRec_of KX hcd) (bb _ _ _ _ ?_)
 refine wpAny_newFunctionEnv_cells S.kind knd fun env he s1 x=>?_
 subst he
 refine⟨lim.keeps x.toInCall.keep,codeAny_func ?_⟩
 have I:Inv (cxOf CX0 P w K mg base N qual (defScope st) fI cdv A outer s H E0) [] (start N vs) H s1:=inv_start S hr.hd e0 hl r x
 refine wpAny_mono (body cdv s1 I) (fun fl s' z=>?_) fun _ _ z=>z.elim
 obtain⟨rfl,H',d,σ',J,r1,r2,r3,r4,r5⟩:=z
 exact⟨rfl,d,H',J.os,J.bare,J.base,J.hok,r1,r2,r3,r4,r5⟩
theorem init_one{a:Str}{p1 p2 p3 p4:Pos}(F:Fun K "__init__" qual st fI fd)(S:FnScope ["self",a] ["self",a] (defScope st))(hb:Binds K fd ["self",a] [])(XC:XFld K C fI [a])
  (eb:defBody st = [.Assign [.Attribute (.Name "self" p1) a p2] (.Name a p3) p4]) (da:(a == ("__debug__" : Str))=false:=by decide) (da2:(a == ("__classdict__" : Str))=false:=by decide)
  (sa:∀ L cd,swapsWith (.Name a p3) (some (.Attribute (.Name "self" p1) a p2)) p4.line (envOfC qual (defScope st) L fI cd)=pure false:=by intro L cd;rfl):InitOk P w K mg base (k+1) C fI [a]:=⟨fun A outer s H e t ns us hr e0 tr rv hl=>by
 match ns,hl,rv with
 | [x],_,rv =>
  refine init_go (vs:=[.ref e,.int x]) F S hb hr e0 (.cons rfl rv) rfl fun cdv s1 I=>?_
  have V:∀ z∈([("self" : Str),a]:List Str),Vis (defScope st) z:=fun z hz=>by
   rcases S.par z hz with q | q
   ·exact .inl q
   ·exact .inr (.inl q)
  have x0:XI (cxOf CX0 P w K mg base ["self",a] qual (defScope st) fI cdv A outer s H E0) (start ["self",a] [.ref e,.int x]) H s1 e C t none (fun _=>none) 0:=⟨I,tr,fun _ _=>rfl,(fun _ z=>nomatch z),[],Within.nil,Nat.le_refl _⟩
  rw [eb]
  refine wpAny_execs_cons (wpAny_mono (xi_store (j:=1) (n:=x) x0 XC (by decide) List.mem_cons_self rfl rfl rfl rfl (V _ (.head _)) (V _ (.tail _ (.head _))) da da2 (sa _ _)) (fun fl s2 z=>?_) fun _ _ z=>z)
  obtain⟨rfl,H1,d1,t1,x1,b1⟩:=z
  refine wpAny_execs_nil ⟨rfl,?_⟩
  suffices hr:∀ f,RelO ((fldV [a] [x]).lookup f) ((fun z=>if z=a then some (Value.int x t1) else none) f) by
   obtain⟨H',J,r1,r2,r3,r4,r5⟩:=xi_end (fv:=fldV [a] [x]) x1 rfl b1 hr e0.hok
   exact⟨H',d1,_,J,r1,r2,r3,r4,r5⟩
  intro f
  ·simp only [fldV,List.zip_cons_cons,List.zip_nil_right,List.map_cons,List.map_nil,List.lookup_cons]
   by_cases c1:f=a
   ·subst c1
    rw [if_pos rfl,show(f == f)=true by simp]
    exact⟨t1,rfl⟩
   ·rw [if_neg c1,show(f == a)=false by simpa using c1]
    exact True.intro⟩
end
section
variable {P:Program}{w:World}{K:PySem.W.Frag}{mg:Str->Option Value}{base:Heap}{N:List Str}{qual:Str}{scope:Scope}{f:Addr}{cd:Value}{A:Around}{outer:List Env}{s:Shared}{H:Hp}{E:XK}
theorem raiseF{s1:Shared}{H1:Hp}{pins:List (Addr×Obj)}{σ:St}{C fI:Addr}{k:Nat}{x:Str}{fs:List Str}{np cpos pos:Pos}{e:Expr}{es:List Expr}{Q:Flow->Shared->Prop}{R:List Int->Hp->Prop}
  (I:Inv (cxOf (CXk P w) P w K mg base N qual scope f cd A outer s H E) pins σ H1 s1) (hh:A.handled=none) (hr:Room (k+1) (A.deeper (envOfC qual scope s.heap.objs.size f cd))) (hg:Gl (cxOf (CXk P w) P w K mg base N qual scope f cd A outer s H E) x) (hm:mg x=some (.ref C))
  (XC:XFld K C fI fs) (IO:InitOk P w K mg base k C fI fs) {oI:Obj} (gI:K.lookup fI=some oI) (cI:oI.cls=.type "function")
  (ha:wpAny (model P w) (A.deeper (envOfC qual scope s.heap.objs.size f cd)) (spliced (backTo cpos (starEach (e::es) (envOfC qual scope s.heap.objs.size f cd))))
   (fun us s2=>∃ ns H2,Inv (cxOf (CXk P w) P w K mg base N qual scope f cd A outer s H E) pins σ H2 s2/\Vals (ns.map V.int) us/\Same H1 H2/\ns.length=fs.length/\R ns H2) (fun _ _=>False) s1)
  (hE:∀ ns H2 H5 d,R ns H2->Same H2 H5->H5 d=some (.xd (fldV fs ns))->E (.ref C) (some d) H5)
  (he:starEach (e::es) (envOfC qual scope s.heap.objs.size f cd)=(false,eval e (envOfC qual scope s.heap.objs.size f cd))::starEach es (envOfC qual scope s.heap.objs.size f cd))
  (hpl:(backTo cpos (starEach es (envOfC qual scope s.heap.objs.size f cd))).any (·.1)=false) (few:fs.length<=100) (hdb:(x == ("__debug__" : Str))=false:=by decide) :
  wpAny (model P w) (A.deeper (envOfC qual scope s.heap.objs.size f cd)) (exec (.Raise (some (.Call (.Name x np) (e::es) [] cpos)) none pos) (envOfC qual scope s.heap.objs.size f cd)) Q (cxOf (CXk P w) P w K mg base N qual scope f cd A outer s H E).xe s1:=by
 obtain⟨nm,qn,Nn,bs,bm,sn,sub,ab,col,dd,k0,k1,k2,k3,k5,lC,z3,z4,z2⟩:=exc_K XC.cls
 refine xr_raise (C:=C) (nm:=nm) (q:=qn) (N:=Nn) (bs:=bs) (bm:=bm) (hdct:=true) (sn:=sn) (sub:=sub) (ab:=ab) (col:=col) (dd:=dd) (k0:=k0) (k1:=k1) (k2:=k2) (k3:=k3) (k5:=k5) (newId := "ValueError.__new__") (fI:=fI) (oI:=oI)
  PySem.F.excBase_ValueError rfl PySem.F.excBase_ValueError ((PySem.W.tail_of_in I.kIn z2).hasType rfl) hh (by rw [he];exact hpl) cI (ld_glob I hg hm ⟨rfl,?_⟩ hdb)
 have eb:backTo cpos (starEach (e::es) (envOfC qual scope s.heap.objs.size f cd))=(false,eval e (envOfC qual scope s.heap.objs.size f cd))::backTo cpos (starEach es (envOfC qual scope s.heap.objs.size f cd)):=by rw [he];rfl
 rw [eb] at ha ⊢
 refine Calls.evalArgs_plain (wpAny_mono ha (fun us s2 ⟨ns,H2,I2,rv,sm,ln,hR⟩=>?_) fun _ _ z=>z.elim)
 have lu:us.length=fs.length:=by rw [<-rv.length,List.length_map,ln]
 have G:=Heap.Ns.of_isNs (PySem.W.isNs_of_in I2.kIn z3)
 refine⟨rfl,by rw [sizeLine_eq];show us.length<=_;omega,I2.kIn _ _ lC,⟨_,G,ns_has I2.kIn G z4⟩,PySem.W.tail_of_in I2.kIn z2,I2.kIn _ _ gI,fun h' a mk=>?_⟩
 obtain⟨t,ge,_,_⟩:=mk.there
 have J:=I2.kept (t':=s2.toks) mk.keeps
 have n0:s.heap.get? a=none:=by
  cases z:s.heap.get? a with
  | none=>rfl
  | some o =>
   obtain⟨o',e'⟩:=I2.base.there a o z (by intro y;cases y)
   rw [mk.new] at e'
   cases e'
 have n2:H2 a=none:=by
  cases z:H2 a with
  | none=>rfl
  | some u =>
   obtain⟨o,ho⟩:=(I2.hok a u z).ex
   rw [mk.new] at ho
   cases ho
 have J2:Inv (cxOf (CXk P w) P w K mg base N qual scope f cd A outer s H E) pins σ (upd H2 a (ExcE C t none a)) { s2 with heap:=h' }:=by
  refine J.track n2 n0 (fun z=>?_) (fun y c q z=>?_) (fun p q z=>?_) (excE_ok ge)
  ·obtain⟨m,⟨o,_,_,g,_⟩,_⟩:=I2.loc
   rw [<-z,mk.new] at g
   cases g
  ·obtain⟨v,o,g,_⟩:=I2.cell y c q
   rw [z,mk.new] at g
   cases g
  ·have:=(I2.pin p q).1
   rw [z,mk.new] at this
   cases this
 refine wpAny_call (codeAny_mono (IO.run _ _ _ _ a t ns us (hr.make C us []) (J2.env0.make C us []) upd_same rv ln) fun r s3 z=>?_)
 obtain⟨rfl,d,H4,os,bare,un,hok,r1,r2,r3,r4,r5⟩:=z
 have J3:=J2.call' os un hok bare (fun b hb=>nomatch hb)
 have ob:s3.heap.get? a=some (excObj C t (some d)):=(J3.hok a _ r1).1
 have J4:=J3.untrack r1 n0
 have sm5:Same H2 (offH H4 a):=fun b o q=>by
  have nb:b≠a:=fun z=>by rw [z,n2] at q;cases q
  rw [off_ne nb]
  exact r3 b o nb (by rw [upd_ne nb];exact q)
 refine⟨rfl,J3.kIn _ _ lC,⟨t,some d,ob⟩,?_⟩
 exact xe_of J4 (.inr ⟨_,_,ob,⟨rfl,rfl⟩,rfl,rfl⟩) n0 (if_pos rfl) (hE ns H2 _ d hR sm5 (by rw [off_ne r4];exact r2))
def dRaiseF(ex:EX)(x:Str)(fs:List Str)(ta:DTF):DTS:=fun _ σ=>ta σ fun ds=>∃ ns:List Int,ds=ns.map PyData.int/\ns.length=fs.length/\ex (x,fs.zip ns)
theorem dsx_raiseF{ex:EX}{x:Str}{C fI:Addr}{k:Nat}{fs:List Str}{np cpos pos:Pos}{e:Expr}{es:List Expr}{ta:DTF}(hE:∀ c od H',XE K H ex c od H'->E c od H')(hh:A.handled=none)(hr:Room (k+1) (A.deeper (envOfC qual scope s.heap.objs.size f cd)))(hg:Gl (cxOf (CXk P w) P w K mg base N qual scope f cd A outer s H E) x)(hm:mg x=some (.ref C))(hn:PySem.W.nsIn K mainGlobals x=some (some (.ref C)))
  (XC:XFld K C fI fs) (IO:InitOk P w K mg base k C fI fs) {oI:Obj} (gI:K.lookup fI=some oI) (cI:oI.cls=.type "function") (few:fs.length<=100) (ha:DA (cxOf (CXk P w) P w K mg base N qual scope f cd A outer s H E).nox (e::es) ta)
  (he:starEach (e::es) (envOfC qual scope s.heap.objs.size f cd)=(false,eval e (envOfC qual scope s.heap.objs.size f cd))::starEach es (envOfC qual scope s.heap.objs.size f cd):=by rfl)
  (hpl:(backTo cpos (starEach es (envOfC qual scope s.heap.objs.size f cd))).any (·.1)=false:=by rfl) (hdb:(x == ("__debug__" : Str))=false:=by decide) :
  DSX (cxOf (CXk P w) P w K mg base N qual scope f cd A outer s H E) (.Raise (some (.Call (.Name x np) (e::es) [] cpos)) none pos) (dRaiseF ex x fs ta) :=
 ⟨fun pins s1 σ H1 σD Dn I ok qq=>raiseF (R:=fun ns H2=>Same H1 H2/\ns.length=fs.length/\ex (x,fs.zip ns)) I hh hr hg hm XC IO gI cI (wpAny_mono (ha.run cpos pins s1 σ H1 _ σD _ (I.wish _) ok qq) (fun us s2 ⟨vs,H2,ds,I2,rv,sm,rp,ns,e1,e2,e3⟩=>by
   subst e1
   have:=Reps.of_ints rp
   subst this
   exact⟨ns,H2,I2.unwish,rv,sm,e2,sm,e2,e3⟩) fun _ _ z=>z) (fun ns H2 H5 d ⟨sm,ln,hx⟩ sm5 hd=>hE _ _ _ ⟨(x,fs.zip ns),C,rfl,hn,ok.same.trans (sm.trans sm5),.inr ⟨d,rfl,hd⟩,hx⟩) he hpl few hdb⟩
end
end L2
namespace L2
open PySem PySem.Spec PyProof.Rows PySem.W
section
variable {prog:Program}{w:World}{A:Around}{E:Value->Shared->Prop}{s:Shared}{K:Frag}{x C:Addr}{ox:Obj}{od:Option Obj}{name:Str}{v:Value}
theorem exc_ga_val{tk:Tok}{R:Result->Shared->Prop}(X:K.In s.heap)(I:InstAt s.heap x ox C od)(hb:mroIn K C (.type "BaseException")=some true)(hf:findObj K C od name=some (.value v))(q:R (.ok (.ret v)) s):
  codeAny (model prog w) A (.call (.builtin "BaseException.__getattribute__") ⟨[.ref x,.str name tk],[]⟩) R s:=by
 refine codeAny_call_builtin PySem.F.attr_ValueError.ga.plain PySem.F.entry_bexc_ga (exc_check X I hb ?_)
 have L0:=I.type (M:=model prog w)
 have L1:=looks_find (M:=model prog w) X I hf
 obtain⟨hh,g,dr,t,os⟩:=s
 unfold Builtin.«object.__getattribute__»
 repeat (any_goals (first | assumption | exact L0.at ‹_› | wp_step))
 refine wpAny_loadPart_at I.at_ (wpAny_pure ?_)
 rw [I.cls]
 refine wpAny_bind (L1.at ?_)
 exact wpAny_pure q
theorem exc_val{expr:Bool}{Q:Value->Shared->Prop}(X:K.In s.heap)(I:InstAt s.heap x ox C od)(hga:findIn K (.ref C) "__getattribute__" = some (some (.builtin "BaseException.__getattribute__")))(hhk:findIn K (.ref C) "__getattr__" = some none)(hb:mroIn K C (.type "BaseException")=some true)
  (hf:findObj K C od name=some (.value v)) (hv:handedIn v=true) (q:Q v { s with toks:=s.toks+1 }):wpAny (model prog w) A (getAttr (.ref x) name expr) Q E s:=by
 have L0:=I.type (M:=model prog w)
 have L1:=looks_findIn (M:=model prog w) X hga
 have L2:=looks_findIn (M:=model prog w) X hhk
 obtain⟨hh,g,d,t,os⟩:=s
 unfold getAttr getAttrBy
 refine wpAny_bind (wpAny_mkText (wpAny_holding (wpAny_bind (L0.at (wpAny_bind (L1.at ?_))))))
 dsimp only
 rw [if_neg (by rw [show(Value.builtin "BaseException.__getattribute__" == Value.builtin "object.__getattribute__")=false by decide +kernel,Bool.and_false];decide)]
 unfold getAttrByItsOwn hookBefore
 rw [if_pos (by rfl)]
 refine wpAny_bind (L2.at (wpAny_bind (wpAny_attempt (wpAny_holding ?_))))
 unfold callGetattribute
 rw [if_neg (by rw [show onTheHeap (Value.builtin "BaseException.__getattribute__")=false by decide +kernel,Bool.and_false];decide)]
 unfold boundAndCalled
 refine wpAny_bind (wpAny_of_eq (PySem.F.attr_ValueError.ga.bind (.ref x)) ?_)
 refine wpAny_call (exc_ga_val (s:=⟨hh,g,d,t+1,os⟩) X I hb hf ?_)
 exact handed_on hv q
end
section
variable {X:Cx}{pos p:Pos}
def dFldX(i:Nat)(f:Str):DTE:=fun σ Q=>match σ[i]? with
 | some (some (.exc x))=>(match x.2.lookup f with
  | some n=>Q (.int n)
  | none=>False)
 | _=>False
theorem look_xd(f:Str):∀ fs:List (Str×Int),(fs.map fun p=>(p.1,V.int p.2)).lookup f=(fs.lookup f).map V.int
 | []=>rfl
 | (a,n)::fs=>by
  rw [List.map_cons,List.lookup_cons,List.lookup_cons]
  cases f == a with
  | true=>rfl
  | false=>exact look_xd f fs
def FldAt(K:Frag)(f:Str)(L:List Str):Prop:=∀ nm∈L,∀ C,nsIn K mainGlobals nm=some (some (.ref C))->XIs K C/\findIn K (.ref C) f=some none
theorem de_fldX(i:Nat){x f:Str}{L:List Str}(hk:FldAt X.K f L)(hN:X.N[i]?=some x:=by rfl)(hvs:Vis X.env.scope x:=by first | exact Or.inl rfl | exact Or.inr (Or.inl rfl) | exact Or.inr (Or.inr rfl))
  (hd:(x == ("__debug__" : Str))=false:=by decide) (hcd:(x == ("__classdict__" : Str))=false:=by decide) (hb:attributeBase (.Name x p) f X.env (eval (.Name x p) X.env)=eval (.Name x p) X.env:=by rfl) :
  DE X (.Attribute (.Name x p) f pos) (fun σ Q=>(∀ y,σ[i]?=some (some (.exc y))->y.1∈L)/\dFldX i f σ Q):=⟨fun pins s σ H H₀ σD Q I ok q=>by
 obtain⟨hL,q⟩:=q
 unfold dFldX at q
 split at q
 ·next x' e' =>
  obtain⟨v,e1,a,C,od,rfl,hn,ha,hf⟩:=ok.exc e'
  split at q
  ·next n hl =>
   refine attr_of hb (ld_var I hN e1 hvs (fun u ru=>?_) hd hcd)
   obtain rfl:u=.ref a:=ru
   obtain⟨Z,hz⟩:=hk _ (hL _ e') C hn
   rcases hf with⟨z,_⟩ | ⟨d,rfl,hx⟩
   ·rw [z] at hl;cases hl
   ·obtain⟨⟨oe,he,hc,hdi,vs,hfd⟩,_,_⟩:=I.hok _ _ ha
    obtain⟨mA,nsd,rel⟩:=(show ObjOk X.prog X.w H s.heap d (.xd _) from I.hok _ _ hx)
    obtain⟨oo,go,lk⟩:=lookIn_ns nsd
    have J:InstAt s.heap a oe C (some oo):=⟨he,hc,by unfold notCls;rw [hfd],by rw [hdi];exact go⟩
    have r:=rel f
    rw [look_xd,hl] at r
    cases em:mA f with
    | none=>rw [em] at r;exact r.elim
    | some u =>
     rw [em] at r
     obtain⟨tk,rfl⟩:=r
     obtain⟨cd,hcl,_⟩:=cls_look Z.dct
     refine exc_val I.kIn J Z.ga Z.hk Z.bas (findObj_own Z.dct hz rfl (by rw [lk,em])) rfl ⟨.int n,H,.int n,I.tok _,⟨tk,rfl⟩,Same.refl _,.int,q⟩
  ·exact q.elim
 ·exact q.elim⟩
end
def FldCls(P:Program)(w:World)(K:Frag)(mg:Str->Option Value)(base:Heap)(x:Str)(fs:List Str):Prop:=∃ C fI od dt sl,mg x=some (.ref C)/\nsIn K mainGlobals x=some (some (.ref C))/\XFld K C fI fs/\InitOk P w K mg base 1 C fI fs/\K.lookup fI=some ⟨.type "function",od,dt,sl⟩
end L2
namespace L2
open PySem PySem.Spec PyProof.Rows
section
variable {X:Cx}{e:Expr}{es rest:List Expr}{k k':Nat}{x:Str}{ps:List Str}{sp:DSp}{t:DTP}{p cpos:Pos}
end
section
variable {X:Cx}
variable {o e:Expr}{to te:DTE}{apos cpos:Pos}
end
section
variable {X:Cx}{pos p:Pos}
end
section
variable {X:Cx}{e:Expr}{pos p:Pos}
end
section
variable {X:Cx}{a b c d:Expr}{ta tb tc td:DTE}{pos:Pos}
theorem de_dic1{i j:Int}{k l}{p1 p2:Pos}:DE X (.Dict [some (.Constant (.int i) k p1)] [.Constant (.int j) l p2] pos) (dC (.dict [(.int i,.int j)])):=⟨fun pins s σ H H₀ σD Q I ok q =>
 thn (pe_disp (pps_cons (pe_int (X:=X)) (pe_int (X:=X)) pps_nil) rfl rfl (by simp) (by simp) pins s σ H (fun v H'=>∃ p,v=.ref p/\H p=none/\H'=upd (upd H p (.dK [])) p (.dK [(Sum.inl i,.int j)])) I (fun p hp=>by
  refine⟨upd_same,[(Sum.inl i,.int j)],rfl,by simp,p,rfl,hp,rfl⟩)) fun u s' ⟨v,H',I',r,p,e1,hp,e2⟩=>by
 subst e1 e2
 obtain⟨o,J⟩:=I'.frzK upd_same
 exact⟨.ref p,_,.dict _,J,r,fun b z hb=>by rw [upd_ne (ne_of_none hb hp),upd_ne (ne_of_none hb hp),upd_ne (ne_of_none hb hp)];exact hb,.dic upd_same (.cons .int .nil),q⟩⟩
end
section
variable {X:Cx}
theorem PI.unnox{tg iter:Expr}{wi:TI}(h:PI X.nox tg iter wi):PI X tg iter wi:=fun pins s σ H R I q =>
 wpAny_mono (h pins s σ H R (I.wish _) q) (fun v s1 z=>wpAny_mono z (fun itv s2 ⟨it,fp,tn,J,H',e,I',T,t0,f,r⟩=>⟨it,fp,tn,J,H',e,I'.unwish,T,t0,f,r⟩) fun _ _ z=>False.elim z) fun _ _ z=>False.elim z
theorem PG.unnox{tg:Expr}{t:TG}(h:PG X.nox tg t):PG X tg t:=fun pins s σ H v u Q I r q =>
 wpAny_mono (h pins s σ H v u Q (I.wish _) r q) (fun _ s1 ⟨σ',H',I',q'⟩=>⟨σ',H',I'.unwish,q'⟩) fun _ _ z=>False.elim z
def cnSX(X:Cx)(t:DTS):TS:=fun E σ H=>∃ σD Dn,DOk X.K X.H₀ H σD σ/\t Dn σD/\(∀ σ' H' σD',DOk X.K X.H₀ H' σD' σ'->Pers H H'->Dn.nx σD'->E.nx σ' H')/\(∀ v H' r,Same X.H₀ H'->RepR X.K X.H₀ H' r v->Dn.rt r->E.rt v H') /\
 (∀ σ' H' σD',DOk X.K X.H₀ H' σD' σ'->Pers H H'->Dn.bk σD'->E.bk σ' H')/\∀ σ' H' σD',DOk X.K X.H₀ H' σD' σ'->Pers H H'->Dn.ct σD'->E.ct σ' H'
theorem DSXs.ps{sts:List Stmt}{t:DTS}(h:DSXs X sts t):PSs X sts (cnSX X t):=fun pins s σ H E I ⟨σD,Dn,ok,q,k1,k2,k3,k4⟩=>thn (h.run pins s σ H σD Dn I ok q) fun f s' z=>by
 cases f with
 | next=>obtain⟨a,b,c,e1,e2,e3,e4⟩:=z;exact⟨a,b,e1,k1 a b c e2 e3 e4⟩
 | brk=>obtain⟨a,b,c,e1,e2,e3,e4⟩:=z;exact⟨a,b,e1,k3 a b c e2 e3 e4⟩
 | cont=>obtain⟨a,b,c,e1,e2,e3,e4⟩:=z;exact⟨a,b,e1,k4 a b c e2 e3 e4⟩
 | ret u=>obtain⟨v,a,b,r,e1,e2,e3,e4,e5⟩:=z;exact⟨v,a,b,e1,e2,k2 v b r e3 e4 e5⟩
theorem DSX.of{st:Stmt}{t:DTS}{t':TS}(h:PS X st t')(k:∀ σ H σD Dn,DOk X.K X.H₀ H σD σ->t Dn σD->t' (dEnds X.K X.H₀ H Dn) σ H):DSX X st t :=
 ⟨fun pins s σ H σD Dn I ok q=>thn (h pins s σ H _ I (k σ H σD Dn ok q)) fun _ _ z=>z.dsp⟩
theorem dsx_for{tg iter:Expr}{body:List Stmt}{ti:DTF}{is:List Nat}{g:DTG}{tb:DTS}{pos:Pos}(hp:PassesOwn (model X.prog X.w) X.A X.env X.xe)(hc:X.calm=true)(hi:DI X.nox tg iter ti)(hg:DG X.nox tg is g)(hb:DSXs X body tb)
  (hs:∀ x,foldedSetIterable iter X.env x=pure x:=by intro _;rfl):DSX X (.For tg iter body [] pos) (dFor ti g tb) :=
 DSX.of (ps_for hp hc (PI.unnox hi.pi) (PG.unnox hg.pg) hb.ps hs) fun σ H σD Dn ok q=>⟨X.H₀,σD,_,ok,q,fun J H1 ds s1 it q1=>by
  have sub:∀{i:Nat} {d:D} {σ':DSt},ds[i]?=some d->forD g tb Dn (ds.drop i) σ'=g d σ' (fun σ2=>tb { Dn with nx:=forD g tb Dn (ds.drop (i+1)),ct:=forD g tb Dn (ds.drop (i+1)),bk:=Dn.nx } σ2):=fun{i d σ'} e=>by
   obtain⟨hi,e'⟩:=List.getElem?_eq_some_iff.mp e
   rw [List.drop_eq_getElem_cons hi,e']
   rfl
  refine⟨fun i m σ' H'=>m=ds.length-i/\i<=ds.length/\Pers H1 H'/\∃ σD',DOk X.K X.H₀ H' σD' σ'/\forD g tb Dn (ds.drop i) σD',⟨ds.length,rfl,Nat.zero_le _,Pers.refl _,σD,ok.after s1,q1⟩,?_⟩
  rintro i m σ' H' ⟨rfl,hi,pr,σD',ok',q'⟩
  by_cases hlt:i<ds.length
  ·have e:ds[i]?=some ds[i]:=by simp [hlt]
   obtain⟨go,yl⟩:=it.go H' i ds[i] pr e
   rw [sub e] at q'
   refine .inr ⟨go,fun σ2 H2=>Pers H1 H2/\∃ σD2,DOk X.K X.H₀ H2 σD2 σ2/\forD g tb Dn (ds.drop (i+1)) σD2,fun σ2 H2 ⟨p2,σD2,ok2,q2⟩=>⟨ds.length-(i+1),by omega,rfl,hlt,p2,σD2,ok2,q2⟩,fun x H2 y=>?_⟩
   obtain⟨s2,r2⟩:=yl x H2 y
   have p2:=pr.trans s2.pers
   refine⟨X.H₀,σD',ds[i],_,ok'.after s2,r2,q',fun σ3 σD3 _ ok3 _ q3=>?_⟩
   exact⟨σD3,_,ok3,q3,fun σ4 H4 σD4 ok4 p4 q4=>⟨p2.trans p4,σD4,ok4,q4⟩,fun v H4 r sm rp qr=>⟨r,sm,rp,qr⟩,fun σ4 H4 σD4 ok4 p4 q4=>⟨σD4,ok4,(s1.pers.trans p2).trans p4,q4⟩,fun σ4 H4 σD4 ok4 p4 q4=>⟨p2.trans p4,σD4,ok4,q4⟩⟩
  ·have e:i=ds.length:=by omega
   subst e
   rw [List.drop_length] at q'
   exact .inl ⟨it.stop H' pr,σD',ok',s1.pers.trans pr,q'⟩⟩
end
section
variable {X:Cx}{pins:List (Addr×Obj)}{σ:St}{H:Hp}{s:Shared}
end
end L2
namespace PySem
section
variable {prog:Program}{w:World}{A:Around}{E:Value->Shared->Prop}{s:Shared}
end
end PySem
namespace L2
open PySem PySem.Spec PyProof.Rows SQ
section
variable {X:Cx}{a:Expr}{p pos p2 pos2:Pos}
end
end L2
namespace L2
open PySem PySem.Spec PyProof.Rows
section
variable {X:Cx}{pos p:Pos}
end
section
variable {prog:Program}{w:World}{A:Around}{R:Result->Shared->Prop}{s:Shared}{elt t1 i1 t2 i2:Expr}{f1 f2:List Expr}{scope:Scope}{pos:Pos}{it acc:Value}{env:Env}
end
section
variable {X:Cx}
end
section
variable {K:PySem.W.Frag}{H₀ H H':Hp}
end
section
variable {X:Cx}{elt tg iter t2 i2:Expr}{ifs ifs2:List Expr}{scope:Scope}{pos:Pos}{cl:List (Str×Addr)}{N' capt:List Str}{k:Nat}{js is is2:List Nat}{ti ti2:DTF}{g g2:DTG}{tt tt2:DTT}{te:DTE}
end
section
variable {X:Cx}
variable {elt tg iter t2 i2:Expr}{ifs ifs2:List Expr}{scope:Scope}{pos:Pos}{cl:List (Str×Addr)}{N' capt:List Str}{k:Nat}{js is is2:List Nat}{ti ti2:DTF}{g g2:DTG}{tt tt2:DTT}{te:DTE}
end
section
variable {X:Cx}{e:Expr}{es:List Expr}{pos:Pos}{i j:Nat}{sp:DSpG}{t:DTPG}
end
section
variable {K:PySem.W.Frag}{H₀ H Hb H':Hp}{σD:DSt}{σ:St}
end
section
variable {X:Cx}{elt tg iter:Expr}{ifs:List Expr}{scope:Scope}{pos:Pos}{cl:List (Str×Addr)}{N' capt:List Str}{k:Nat}{js is:List Nat}{ti:DTF}{g:DTG}{tt:DTT}{sp:DSpG}{t:DTPG}
end
section
variable {X:Cx}
variable {o e:Expr}{to te:DTE}{apos cpos:Pos}
end
end L2
namespace SQ
open PySem PyProof.Rows
set_option autoImplicit false
def Ref2(h:Heap)(v:Value)(is:List Int):Prop:=∃ a its n t u js,v=.ref a/\IsTup h a its/\its.toList = [.int n t,u]/\RefIs h u js/\is=n::js
open Classical in
noncomputable def key2 (h:Heap) (v:Value):Option (List Int):=if x:∃ is,Ref2 h v is then some x.choose else none
@[reducible] noncomputable def prK (h:Heap):KeyKind:={ tupK h with keyOf:=fun v=>key2 h v }
section
variable {prog:Program}{w:World}{A:Around}{E:Value->Shared->Prop}{s:Shared}
theorem items_int{vs:List Value}{ns:List Int}(h:IntsAre vs ns):ItemsAre (intKind prog w) ns vs:=by
 induction h with
 | nil=>exact .nil
 | cons n t h ih=>exact .cons (by simp [intKind,Value.isInt]) ih
theorem All2.perm{α β:Type}{R:α->β->Prop}{as' as:List α}(p:as'.Perm as):∀{bs:List β},All2 R as bs->∃ bs',All2 R as' bs'/\bs'.Perm bs:=by
 induction p with
 | nil=>intro bs h;exact⟨bs,h,.refl _⟩
 | cons x p ih =>
  intro bs h
  cases h with
  | cons h t =>
   obtain⟨bs',h',p'⟩:=ih t
   exact⟨_,.cons h h',p'.cons _⟩
 | swap x y l =>
  intro bs h
  cases h with
  | cons h t =>
   cases t with
   | cons h2 t=>exact⟨_,.cons h2 (.cons h t),.swap _ _ _⟩
 | trans p1 p2 ih1 ih2 =>
  intro bs h
  obtain⟨b1,h1,q1⟩:=ih2 h
  obtain⟨b2,h2,q2⟩:=ih1 h1
  exact⟨b2,h2,q2.trans q1⟩
end
end SQ
namespace L2
open PySem PySem.Spec PyProof.Rows SQ
section
variable {X:Cx}{pins:List (Addr×Obj)}{σ:St}{H:Hp}{s:Shared}
end
end L2
namespace L2
open PySem PySem.Spec PyProof.Rows SQ
section
variable {X:Cx}{pins:List (Addr×Obj)}{σ:St}{H:Hp}{s:Shared}
end
section
variable {X:Cx}{a body:Expr}{ta:DTF}{tb:DTE}{p pos kp lp:Pos}{k:Nat}{P c:Addr}{q y:Str}{params:Arguments}{scope:Scope}{N:List Str}
end
end L2
namespace PySem.AutoSeq1
open PySem.MeetsSeq PySem.MeetsSeq2 PySem.MeetsSeq3
end PySem.AutoSeq1
namespace L2
open PySem PySem.Spec PyProof.Rows
section
variable {X:Cx}{e:Expr}{te:DTE}{pos:Pos}
end
section
variable {X:Cx}
end
section
variable {K:PySem.W.Frag}{H:Hp}
end
section
variable {X:Cx}{tk te:DTE}{pos:Pos}
end
section
variable {X:Cx}{tk te:DTE}{pos:Pos}
end
theorem KV.at{κ:Type}:∀{vs:List (κ×V)} {ws:List (κ×Value)} {i:Nat} {k:κ} {v:V},KV vs ws->vs[i]?=some (k,v)->∃ u,ws[i]?=some (k,u)
 | [],_,_,_,_,_,e=>by simp at e
 | p::vs,ws,i,k,v,h,e=>by
  cases h with
  | cons r t =>
   cases i with
   | zero =>
    simp at e
    subst e
    rename_i b l
    obtain⟨k',u⟩:=b
    have z:k=k':=r.1
    subst z
    exact⟨u,rfl⟩
   | succ i =>
    obtain⟨u,hu⟩:=KV.at t (show vs[i]?=some (k,v) by simpa using e)
    exact⟨u,by simpa using hu⟩
section
variable {X:Cx}{pins:List (Addr×Obj)}{σ:St}{H:Hp}{s:Shared}{a:Addr}{o:Obj}
end
section
variable {X:Cx}{tg:Expr}
theorem RepK.at{K:PySem.W.Frag}{H:Hp}:∀{kvs:List (D×D)} {vs:List (Key×V)} {i:Nat} {d:D},RepK K H kvs vs->(kvs.map (·.1))[i]?=some d->∃ k v,vs[i]?=some (k,v)/\d=kD k
 | _,_,i,d,.nil,e=>by simp at e
 | _,_,i,d,.cons (k:=k) (v:=v) r t,e=>by
  cases i with
  | zero=>simp at e;exact⟨k,v,rfl,e.symm⟩
  | succ i =>
   obtain⟨k',v',h1,h2⟩:=RepK.at t (i:=i) (by simpa using e)
   exact⟨k',v',by simpa using h1,h2⟩
theorem RepK.len{K:PySem.W.Frag}{H:Hp}:∀{kvs:List (D×D)} {vs:List (Key×V)},RepK K H kvs vs->kvs.length=vs.length
 | _,_,.nil=>rfl
 | _,_,.cons r t=>by rw [List.length_cons,List.length_cons,RepK.len t]
end
section
variable {K:PySem.W.Frag}{H₀ H:Hp}{σD:DSt}{σ:St}
def dP(ks:List (Key×D)):List (D×D):=ks.map fun p=>(kD p.1,p.2)
theorem kD_inj{a b:Key}(h:kD a=kD b):a=b:=by
 cases a <;> cases b <;> simp [kD] at h <;> rw [h]
theorem RepK.kv:∀{ks:List (Key×D)} {vs:List (Key×V)},RepK K H (dP ks) vs->RepKV K H ks vs
 | [],vs,h=>by cases h;exact RepKV.nil'
 | (k,d)::ks,vs,h=>by
  generalize hg:dP ((k,d)::ks)=l at h
  cases h with
  | nil=>cases hg
  | cons r t =>
   simp only [dP,List.map_cons,List.cons.injEq,Prod.mk.injEq] at hg
   obtain⟨⟨h1,rfl⟩,rfl⟩:=hg
   cases kD_inj h1
   exact RepKV.cons r (RepK.kv t)
end
section
variable {X:Cx}
end
section
variable {X:Cx}{o:Expr}{td:TE}{p pos apos cpos:Pos}
end
section
variable {prog:Program}{w:World}{A:Around}{E:Value->Shared->Prop}
variable {κ:Type}[DecidableEq κ]{knd:KeyKind prog w κ}
end
section
variable {X:Cx}{e:Expr}{p pos:Pos}
end
def gMulX:DOp
 | .str x,.int n,Q=>MulOk x n/\Q (.str (Txt.mul x n))
 | _,_,_=>False
section
variable {X:Cx}
theorem o_mulX:OpD X (binaryOp .Mult) gMulX:=⟨fun pins s σ H x y v u a b Q I rx ry ra rb q=>by
 cases a with
 | str i=>cases b with
  | int j =>
   rcases ra with ra | ⟨_,z,_⟩
   ·rcases rb with rb | ⟨_,z,_⟩
    ·cases ra
     cases rb
     obtain⟨t,rfl⟩:=rx
     obtain⟨t',rfl⟩:=ry
     exact SB.mul q.1 fun t2 k=>⟨.str _,H,.str _,I.kept (t':=k) (fun b o e=>e),⟨_,rfl⟩,Same.refl _,.str,q.2⟩
    ·cases z
   ·cases z
  | _=>exact q.elim
 | _=>exact q.elim⟩
end
def txL(l:List Nat):Str:=⟨l.toArray⟩
theorem mul_ok1{x:Str}{n:Int}(h0:0<=n)(h1:n<=16777216)(hx:x.length=1):MulOk x n:=by
 refine⟨?_,fun h2 _=>?_,fun h2 _=>?_⟩
 ·rw [decide_eq_false (by omega),decide_eq_false (by omega)];rfl
 ·rw [hx]
  have:(1:Int)<=(2 ^ 63-1) / n:=by
   rw [Int.le_ediv_iff_mul_le (by omega)]
   omega
  simpa using this
 ·rw [hx]
  unfold Builtin.Str.tooLong
  simp only [sizeLine,gt_iff_lt,decide_eq_false_iff_not]
  omega
theorem fold_one(c:Nat):∀(n:Nat) (acc:Array Nat),((List.replicate n #[c]).foldl (· ++ ·) acc).toList=acc.toList++List.replicate n c
 | 0,acc=>by simp
 | n+1,acc=>by
  rw [List.replicate_succ,List.foldl_cons,fold_one c n,List.replicate_succ]
  simp
theorem mul_tx{c:Nat}{n:Int}(h0:0<=n):Txt.mul (txL [c]) n=txL (List.replicate n.toNat c):=by
 unfold Txt.mul
 by_cases h1:n<1
 ·rw [if_pos h1,show n.toNat=0 by omega]
  rfl
 ·rw [if_neg h1]
  by_cases h2:n=1
  ·subst h2
   rfl
  ·rw [if_neg (by simp [h2,txL,Str.length])]
   unfold txL
   congr 1
   have:=fold_one c n.toNat #[]
   rw [<-Array.toList_inj]
   simpa using this
section
variable {X:Cx}{a:Expr}{te:DTE}{p pos:Pos}
theorem mt_upper:MtR X "str.upper" (fun x vs H Q=>∃ y,x=.str y/\vs = []/\y.length<=1000000/\Q (.str (Txt.upper y)) H):=by
 intro pins s σ H x vs v us Q I rx rv h
 obtain⟨y,rfl,rfl,hy,q⟩:=h
 obtain⟨t,rfl⟩:=rx
 cases rv
 exact SCL.upper (by omega) fun _=>⟨.str _,H,I.kept (t':=s.toks+1) (fun b o e=>e),⟨_,rfl⟩,q⟩
def dUpper(to:DTE):DTE:=fun σ Q=>to σ fun d=>match d with
 | .str y=>y.length<=1000000/\Q (.str (Txt.upper y))
 | _=>False
theorem de_upper{o:Expr}{to:DTE}{apos cpos:Pos}(ho:DE X o to)(hbase:attributeBase o "upper" X.env (eval o X.env)=eval o X.env:=by rfl)(hline:(apos.endLine == cpos.line)=true:=by rfl):
  DE X (.Call (.Attribute o "upper" apos) [] [] cpos) (dUpper to) :=
 DE.of (pe_bm0 F.plainAttrs_str F.slot_str_upper F.type_str_upper mt_upper ho.pe hbase hline) fun σ H H₀ σD QD ok q=>⟨H₀,σD,_,ok,q,fun v H1 d s1 r1 q1=>by
  cases d with
  | str y=>cases r1;exact⟨rfl,y,rfl,rfl,q1.1,_,s1,.str,q1.2⟩
  | _=>exact q1.elim⟩
end
structure InsC(K:PySem.W.Frag)(mg:Str->Option Value)(c:Str)(C:Addr)(fs:List Str):Prop where
 m:mg c=some (.ref C)
 n:PySem.W.nsIn K mainGlobals c=some (some (.ref C))
 c:Cls K C
 f:∀ f∈fs,NoAttr K C f
section
variable {X:Cx}{e e2:Expr}{es:List Expr}{te:DTE}{t:DTP}{pos:Pos}{c f m x:Str}{C g:Addr}{i j k k':Nat}{ps fs:List Str}{sp:DSpG}{tg:DTPG}
end
section
variable {X:Cx}
end
section
variable {X:Cx}{tg:Expr}{a b c:Expr}{p p2 pos pos2:Pos}{t:DTF}
section
variable {prog:Program}{w:World}{A:Around}{E:Value->Shared->Prop}{s:Shared}
end
end
theorem runs_toks{M:Model}{Γ:PySem.Ctx}{p:Pos}{t:Sem Fin}{fs:List Frame}{s s':Shared}{e:End}(h:Runs M Γ p t fs s e s'):s.toks<=s'.toks:=by
 induction h <;> first | exact Nat.le_refl _ | assumption | (try simp only [Shared.setGen] at *);omega
theorem wakes_toks{M:Model}{Γ:PySem.Ctx}{p:Pos}{g:Nat}{r:Resume}{s s':Shared}{res:GenResult}(h:Wakes M Γ p g r s res s'):s.toks<=s'.toks:=by
 unfold Wakes at h
 split at h
 ·exact h.elim
 ·split at h
  ·obtain⟨e,s1,h1,_,_,rfl⟩:=h;have z:=runs_toks h1;exact z
  ·obtain⟨_,rfl⟩:=h;exact Nat.le_refl _
  ·obtain⟨_,rfl⟩:=h;exact Nat.le_refl _
 ·obtain⟨e,s1,h1,_,_,rfl⟩:=h;have z:=runs_toks h1;exact z
 ·obtain⟨_,rfl⟩:=h;exact Nat.le_refl _
 ·obtain⟨_,rfl⟩:=h;exact Nat.le_refl _
theorem wp_toks{α:Type}{M:Model}{Γ:PySem.Ctx}(n:Nat)(t:Sem α){Q:α->Pos->Shared->Prop}{E:Value->Pos->Shared->Prop}(p:Pos)(s:Shared)(hn:n<=s.toks)(h:Sem.wp M Γ t Q E p s):
  Sem.wp M Γ t (fun a p' s'=>n<=s'.toks/\Q a p' s') E p s:=by
 revert h hn
 induction t generalizing p s with
 | pure x=>exact fun hn h=>⟨hn,h⟩
 | raise v=>exact fun _ h=>h
 | unsupported | finish | yield | fork | await | register=>exact fun _ h=>h
 | fresh k ih=>exact fun hn h=>ih _ _ _ (Nat.le_succ_of_le hn) h
 | rule _ k ih | «at» _ k ih | alloc _ k ih | loadIfAlive _ k ih | point _ k ih | ask k ih | os _ _ k ih | handled _ k ih | newGen _ k ih | stack k ih | thread k ih=>exact fun hn h=>ih _ _ _ hn h
 | load a _ k ih | genState a k ih=>exact fun hn ⟨o,ho,h⟩=>⟨o,ho,ih _ _ _ hn h⟩
 | update a _ f k ih | choose _ _ k ih=>exact fun hn ⟨ha,h⟩=>⟨ha,ih _ _ _ hn h⟩
 | call c h g l k ih=>exact fun hn ⟨r,s',hr,hR⟩=>⟨r,s',hr,ih r p s' (Nat.le_trans hn (runs_toks hr)) hR⟩
 | resume g r l k ih=>exact fun hn ⟨res,s',hw,h⟩=>⟨res,s',hw,ih _ _ _ (Nat.le_trans hn (wakes_toks hw)) h⟩
theorem any_toks{α:Type}{M:Model}{A:Around}{t:Sem α}{Q:α->Shared->Prop}{E:Value->Shared->Prop}{s:Shared}(n:Nat)(hn:n<=s.toks)(h:wpAny M A t Q E s):wpAny M A t (fun a s'=>n<=s'.toks/\Q a s') E s :=
 fun Γ p hΓ=>wp_toks n t p s hn (h Γ p hΓ)
theorem mint_asg{M:Model}{A:Around}{env:Env}{E:Value->Shared->Prop}{s:Shared}{x:Str}{px:Pos}{i:Int}{k pc}{op:Operator}{r:Expr}{pb pa:Pos}{Q:Flow->Shared->Prop}
  (hs:swapsWith (.BinOp (.Constant (.int i) k pc) op r pb) (some (.Name x px)) pa.line env=pure false)
  (h:wpAny M A (exec (.Assign [.Name x px] (.BinOp (.Constant (.int i) k pc) op r pb) pa) env) Q E s) :
  wpAny M A (exec (.Assign [.Name x px] (.BinOp (.Constant (.int i) k pc) op r pb) pa) env) (fun f s'=>1<=s'.toks/\Q f s') E s:=fun Γ p hΓ=>by
 have h:=h Γ p hΓ
 rw [exec_Assign_Name env x px _ pa hs,Sem.wp_bind'] at h ⊢
 have h:Sem.wp M Γ (eval (.BinOp (.Constant (.int i) k pc) op r pb) env >>= fun v=>(do standAt px;bindName env x v;pure Flow.next)) (fun f _ s'=>Q f s') (fun e _ s'=>E e s') pa s:=h
 show Sem.wp M Γ (eval (.BinOp (.Constant (.int i) k pc) op r pb) env >>= fun v=>(do standAt px;bindName env x v;pure Flow.next)) (fun f _ s'=>1<=s'.toks/\Q f s') (fun e _ s'=>E e s') pa s
 rw [Sem.wp_bind',eval_BinOp,Sem.wp_bind'] at h ⊢
 have h:Sem.wp M Γ (holding [.int i s.toks] (eval r env) >>= fun b=>(do standAt pb;operate [.int i s.toks,b] (binaryOp op (.int i s.toks) b))) (fun v p' s'=>Sem.wp M Γ (do standAt px;bindName env x v;pure Flow.next) (fun f _ s'=>Q f s') (fun e _ s'=>E e s') p' s') (fun e _ s'=>E e s') pa { s with toks:=s.toks+1 }:=h
 show Sem.wp M Γ (holding [.int i s.toks] (eval r env) >>= fun b=>(do standAt pb;operate [.int i s.toks,b] (binaryOp op (.int i s.toks) b))) (fun v p' s'=>Sem.wp M Γ (do standAt px;bindName env x v;pure Flow.next) (fun f _ s'=>1<=s'.toks/\Q f s') (fun e _ s'=>E e s') p' s') (fun e _ s'=>E e s') pa { s with toks:=s.toks+1 }
 refine Sem.wp_mono M Γ _ (fun v p' s' ⟨hn,hv⟩=>?_) (fun _ _ _ z=>z) _ _ (wp_toks 1 _ pa _ (Nat.le_add_left 1 s.toks) h)
 exact wp_toks 1 _ p' s' hn hv
section
open PySem.Builtin PySem.Builtin.Str
theorem cl1(m:Nat)(k:Tok):countLimit "str.replace" (some (.int 1 k)) m=pure 1:=by
 unfold countLimit
 show(asSsize "str.replace" (.int 1 k) >>= _)=_
 have:asSsize "str.replace" (.int 1 k)=pure 1:=by
  unfold asSsize
  have:asIndex (.int 1 k)=pure 1:=rfl
  rw [this]
  rfl
 rw [this];rfl
def repl1(x y z:Str):Str :=
 if ((occurrences x y 0 x.length 1).isEmpty || (y.length == 0 && z.length == 0))=true then x
 else glued z (partsBetween x (occurrences x y 0 x.length 1) y.length)
theorem gives_replace1(x y z:Str)(t u v k:Tok)
  (h0:(u == 0 || v == 0)=false) (huv:(u == v)=false) (hyz:(y == z)=false) (hl:tooLong (x.length+(occurrences x y 0 x.length 1).length * z.length)=false) :
  Gives («str.replace» ⟨[.str x t,.str y u,.str z v,.int 1 k],[]⟩) (if ((occurrences x y 0 x.length 1).isEmpty || (y.length == 0 && z.length == 0))=true then .val (.str x t) else .str (glued z (partsBetween x (occurrences x y 0 x.length 1) y.length))):=by
 have e : «str.replace» ⟨[.str x t,.str y u,.str z v,.int 1 k],[]⟩=(countLimit "str.replace" (some (.int 1 k)) (x.length+1) >>= fun limit=>if ((occurrences x y 0 x.length limit).isEmpty || (y.length == 0 && z.length == 0))=true then (rule "str.replace.nothing" >>= fun _=>ret (.str x t)) else (isSame (.str y u) (.str z v) >>= fun same=>if same=true then (rule "str.replace.old-is-new" >>= fun _=>ret (.str x t)) else if tooLong (x.length+(occurrences x y 0 x.length limit).length * z.length)=true then unsupported "str.replace:memory" else retStr (glued z (partsBetween x (occurrences x y 0 x.length limit) y.length)))):=rfl
 rw [e,cl1]
 show Gives (if ((occurrences x y 0 x.length 1).isEmpty || (y.length == 0 && z.length == 0))=true then (rule "str.replace.nothing" >>= fun _=>ret (.str x t)) else (isSame (.str y u) (.str z v) >>= fun same=>if same=true then (rule "str.replace.old-is-new" >>= fun _=>ret (.str x t)) else if tooLong (x.length+(occurrences x y 0 x.length 1).length * z.length)=true then unsupported "str.replace:memory" else retStr (glued z (partsBetween x (occurrences x y 0 x.length 1) y.length)))) _
 cases hc:((occurrences x y 0 x.length 1).isEmpty || (y.length == 0 && z.length == 0))
 ·rw [isSame_str_other y z u v h0 huv hyz,hl]
  exact .of_eq rfl
 ·exact .rule (.of_eq rfl)
theorem occ1(x y:Str):(occurrences x y 0 x.length 1) = []\/∃ i,(occurrences x y 0 x.length 1) = [i]:=by
 have h:=StrLaws.occ_length_le x y 0 x.length 1
 match (occurrences x y 0 x.length 1),h with
 | [],_=>exact .inl rfl
 | [i],_=>exact .inr ⟨i,rfl⟩
theorem repl1_is(x y z:Str):repl1 x y z=x\/∃ i,repl1 x y z=⟨x.cps.extract 0 i++z.cps++x.cps.extract (i+y.length) x.length⟩:=by
 unfold repl1
 split
 ·exact .inl rfl
 ·rcases occ1 x y with e | ⟨i,e⟩
  ·rw [e];left;show(⟨x.cps.extract 0 x.length⟩:Str)=x
   have:x.cps.extract 0 x.length=x.cps:=by show x.cps.extract 0 x.cps.size=_;simp
   rw [this]
  ·rw [e];exact .inr ⟨i,rfl⟩
theorem repl1_len(x y z:Str):(repl1 x y z).length<=2 * x.length+z.length:=by
 rcases repl1_is x y z with e | ⟨i,e⟩ <;> rw [e]
 ·omega
 ·show(x.cps.extract 0 i++z.cps++x.cps.extract (i+y.length) x.cps.size).size<=2 * x.cps.size+z.cps.size
  simp only [Array.size_append,Array.size_extract];omega
end
section
variable {X:Cx}{e:Expr}{es:List Expr}{pos:Pos}
structure DEk(X:Cx)(e:Expr)(t:DTE):Prop where
 run:∀(pins:List (Addr×Obj)) (s:Shared) (σ:St) (H H₀:Hp) (σD:DSt) (Q:D->Prop),1<=s.toks->Inv X pins σ H s->DOk X.K H₀ H σD σ->t σD Q->wpAny (model X.prog X.w) X.A (eval e X.env) (DEnd X pins σ H Q) X.xe s
structure DVk(X:Cx)(e:Expr)(t:DTE):Prop where
 run:∀(pins:List (Addr×Obj)) (s:Shared) (σ:St) (H H₀:Hp) (σD:DSt) (Q:D->Prop),1<=s.toks->Inv X pins σ H s->DOk X.K H₀ H σD σ->t σD Q->wpAny (model X.prog X.w) X.A (eval e X.env) (DEndT X pins σ H Q) X.xe s
structure DFk(X:Cx)(e:Expr)(t:DTF):Prop where
 run:∀(pins:List (Addr×Obj)) (s:Shared) (σ:St) (H H₀:Hp) (σD:DSt) (Q:List D->Prop),1<=s.toks->Inv X pins σ H s->DOk X.K H₀ H σD σ->t σD Q->wpAny (model X.prog X.w) X.A (eval e X.env) (DEndF X pins σ H Q) X.xe s
structure DAk(X:Cx)(es:List Expr)(t:DTF):Prop where
 run:∀(pos:Pos) (pins:List (Addr×Obj)) (s:Shared) (σ:St) (H H₀:Hp) (σD:DSt) (Q:List D->Prop),1<=s.toks->Inv X pins σ H s->DOk X.K H₀ H σD σ->t σD Q ->
  wpAny (model X.prog X.w) X.A (spliced (backTo pos (starEach es X.env))) (fun us s'=>∃ vs H' ds,Inv X pins σ H' s'/\Vals vs us/\Same H H'/\Reps X.K H' ds vs/\Q ds) X.xe s
structure DSk(X:Cx)(st:Stmt)(t:DTS):Prop where
 run:∀(pins:List (Addr×Obj)) (s:Shared) (σ:St) (H H₀:Hp) (σD:DSt) (Dn:DEnds),1<=s.toks->Inv X pins σ H s->DOk X.K H₀ H σD σ->t Dn σD->wpAny (model X.prog X.w) X.A (exec st X.env) (DSP X pins H₀ H Dn) X.xe s
structure DSsk(X:Cx)(st:List Stmt)(t:DTS):Prop where
 run:∀(pins:List (Addr×Obj)) (s:Shared) (σ:St) (H H₀:Hp) (σD:DSt) (Dn:DEnds),1<=s.toks->Inv X pins σ H s->DOk X.K H₀ H σD σ->t Dn σD->wpAny (model X.prog X.w) X.A (execs st X.env) (DSP X pins H₀ H Dn) X.xe s
theorem dak_cons{t:DTE}{r:DTF}(ha:DEk X e t)(hr:DA X es r)(hs:starEach (e::es) X.env=(false,eval e X.env)::starEach es X.env:=by rfl):DAk X (e::es) (dCons t r):=⟨fun pos pins s σ H H₀ σD Q ht I ok q=>by
 rw [hs]
 show wpAny _ _ (spliced ((false,eval e X.env)::backTo pos (starEach es X.env))) _ _ s
 refine Calls.spliced_cons (thn (ha.run pins s σ H H₀ σD _ ht I ok q) fun u s1 ⟨v,H1,d,I1,r1,sm1,rp1,q1⟩=>?_)
 exact thn (hr.run pos pins s1 σ H1 H₀ σD _ I1 (ok.after sm1) q1) fun us s2 ⟨vs,H2,ds,I2,r2,sm2,rp2,q2⟩=>⟨v::vs,H2,d::ds,I2,.cons r1 r2,sm1.trans sm2,.cons (rp1.same sm2) rp2,q2⟩⟩
theorem dfk_lst{t:DTF}(h:DAk X es t):DFk X (.List es pos) (dLst t):=⟨fun pins s σ H H₀ σD Q ht I ok q=>by
 refine wpAny_List_spliced (thn (h.run pos pins s σ H H₀ σD _ ht I ok q) fun us s1 ⟨xs,H1,ds,I1,r,sm,rp,z,q⟩=>⟨by rw [<-r.length,<-rp.length];exact z,?_⟩)
 have hf:H1 s1.heap.objs.size=none:=I1.hok.fresh (Nat.le_refl _)
 refine⟨s1.heap.objs.size,upd H1 s1.heap.objs.size (.lst xs),xs,ds,rfl,I1.laid (t':=s1.toks) (fun b u e=>Heap.get?_push_of_some _ e) (Nat.le_refl _) ?_,sm.trans (same_new hf _),sm.free hf,upd_same,rp.same (same_new hf _),q⟩
 exact⟨by rw [<-rp.length];exact z,us,0,r,Heap.get?_push_size _ rfl⟩⟩
theorem DFk.de{t:DTF}(h:DFk X e t):DEk X e (dFz t):=⟨fun pins s σ H H₀ σD Q ht I ok q=>thn (h.run pins s σ H H₀ σD _ ht I ok q) fun u s' ⟨a,H',vs,xs,eu,I',sm,n,e,rp,qd⟩=>by
 obtain⟨H'',J,sm',r'⟩:=freeze I' sm n e rp
 exact⟨.ref a,H'',.list xs,J,eu,sm',r',qd⟩⟩
theorem DEk.dv{t:DTE}(h:DEk X e t):DVk X e t:=⟨fun pins s σ H H₀ σD Q ht I ok q=>thn (h.run pins s σ H H₀ σD Q ht I ok q) fun u s' ⟨v,H',d,I',r,sm,rp,qd⟩=>⟨v,H',d,I',r,sm,rp.top,qd⟩⟩
theorem dek_op{a b:Expr}{ta tb:DTE}{op:Operator}{g:DOp}(ho:OpD X (binaryOp op) g)(ha:DV X a ta)(hb:DVk X b tb):DEk X (.BinOp a op b pos) (dOp g ta tb) :=
 ⟨fun pins s σ H H₀ σD Q ht I ok q=>by
  refine wpAny_BinOp (thn (any_toks 1 ht (ha.run pins s σ H H₀ σD _ I ok q)) fun v s1 ⟨ht1,x,H1,d,I1,r1,sm1,p1,q1⟩=>?_)
  refine thn (hb.run pins s1 σ H1 H₀ σD _ ht1 I1 (ok.after sm1) q1) fun u s2 ⟨y,H2,e,I2,r2,sm2,p2,q2⟩=>?_
  exact thn (ho.run pins s2 σ H2 x y v u d e Q I2 r1 r2 (p1.same sm2) p2 q2) fun _ _ z=>z.back (sm1.trans sm2)⟩
theorem dsk_set{te:DTE}{i:Nat}{x:Str}{pos':Pos}(hN:X.N.Nodup)(hi:X.N[i]?=some x)(hx:Loc X.env.scope x)(he:DEk X e te)(hs:swapsWith e (some (.Name x pos')) pos.line X.env=pure false:=by rfl)(hf:X.fn x=true\/X.env.scope.names.lookup x=some .local:=by first | exact .inl rfl | exact .inr rfl | assumption):
  DSk X (.Assign [.Name x pos'] e pos) (dSet i te):=⟨fun pins s σ H H₀ σD Dn ht I ok q=>by
 refine wpAny_Assign_Name (thn (he.run pins s σ H H₀ σD _ ht I ok q) fun v s1 ⟨y,H1,d,I1,r1,sm,rp,q1⟩=>?_) hs
 exact store_ok I1 hN hi hx r1 (fun s2 I2=>⟨_,H1,_,I2,(ok.after sm).setV rp i,sm.pers,q1⟩) hf⟩
theorem DS.k{st:Stmt}{t:DTS}(h:DS X st t):DSk X st t:=⟨fun pins s σ H H₀ σD Dn _ I ok q=>h.run pins s σ H H₀ σD Dn I ok q⟩
theorem DSs.k{st:List Stmt}{t:DTS}(h:DSs X st t):DSsk X st t:=⟨fun pins s σ H H₀ σD Dn _ I ok q=>h.run pins s σ H H₀ σD Dn I ok q⟩
theorem dssk_cons{st:Stmt}{rest:List Stmt}{t u:DTS}(h1:DSk X st t)(h2:DSsk X rest u):DSsk X (st::rest) (dSeq t u):=⟨fun pins s σ H H₀ σD Dn ht I ok q=>by
 refine wpAny_execs_cons (thn (any_toks 1 ht (h1.run pins s σ H H₀ σD { Dn with nx:=u Dn } ht I ok q)) fun f s1 ⟨ht1,z⟩=>?_)
 cases f with
 | next =>
  obtain⟨σ',H',σD',I',ok',p,q'⟩:=z
  exact thn (h2.run pins s1 σ' H' H₀ σD' Dn ht1 I' ok' q') fun _ _ y=>y.back p
 | ret v=>exact z
 | brk=>exact z
 | cont=>exact z⟩
theorem dss_mint{rest:List Stmt}{t u:DTS}{x:Str}{px:Pos}{i:Int}{k pc}{op:Operator}{r:Expr}{pb pa:Pos}(h1:DS X (.Assign [.Name x px] (.BinOp (.Constant (.int i) k pc) op r pb) pa) t)(h2:DSsk X rest u)
  (hs:swapsWith (.BinOp (.Constant (.int i) k pc) op r pb) (some (.Name x px)) pa.line X.env=pure false:=by rfl):DSs X (.Assign [.Name x px] (.BinOp (.Constant (.int i) k pc) op r pb) pa::rest) (dSeq t u):=⟨fun pins s σ H H₀ σD Dn I ok q=>by
 refine wpAny_execs_cons (thn (mint_asg hs (h1.run pins s σ H H₀ σD { Dn with nx:=u Dn } I ok q)) fun f s1 ⟨ht1,z⟩=>?_)
 cases f with
 | next =>
  obtain⟨σ',H',σD',I',ok',p,q'⟩:=z
  exact thn (h2.run pins s1 σ' H' H₀ σD' Dn ht1 I' ok' q') fun _ _ y=>y.back p
 | ret v=>exact z
 | brk=>exact z
 | cont=>exact z⟩
def dRepl1(to:DTE)(y z:Str):DTE:=fun σ Q=>to σ fun d=>match d with
 | .str x=>x.length<=1000000/\Q (.str (repl1 x y z))
 | _=>False
theorem dek_repl1{o:Expr}{to:DTE}{apos cpos:Pos}{y z:Str}{k1 k2 k3 p1 p2 p3}(ho:DE X o to)(hyz:(y == z)=false:=by decide +kernel)(hz:z.length<=1000:=by decide +kernel)
  (hbase:attributeBase o "replace" X.env (eval o X.env)=eval o X.env:=by rfl)
  (hfew:((backTo cpos (starEach [.Constant (.str y) k1 p1,.Constant (.str z) k2 p2,.Constant (.int 1) k3 p3] X.env)).all (fun x=>!x.1) && (backToKw cpos (keywordEach [] X.env)).all (fun x=>x.1.isSome)
   && decide (([.Constant (.str y) k1 p1,.Constant (.str z) k2 p2,.Constant (.int 1) k3 p3]:List Expr).length+([]:List Keyword).length+(if ([]:List Keyword).isEmpty then 0 else 1)<30))=true:=by rfl)
  (hline:(apos.endLine == cpos.line)=true:=by rfl)
  (hs:starEach [.Constant (.str y) k1 p1,.Constant (.str z) k2 p2,.Constant (.int 1) k3 p3] X.env = [(false,eval (.Constant (.str y) k1 p1) X.env),(false,eval (.Constant (.str z) k2 p2) X.env),(false,eval (.Constant (.int 1) k3 p3) X.env)]:=by rfl) :
  DEk X (.Call (.Attribute o "replace" apos) [.Constant (.str y) k1 p1,.Constant (.str z) k2 p2,.Constant (.int 1) k3 p3] [] cpos) (dRepl1 to y z):=⟨fun pins s σ H H₀ σD Q ht I ok q=>by
 refine wpAny_Call_method_late hbase hfew hline rfl (thn (any_toks 1 ht (ho.run pins s σ H H₀ σD _ I ok q)) fun v s1 ⟨ht1,x,H1,d,I1,r1,sm,rp,q1⟩=>?_)
 cases d with
 | str w =>
  cases rp
  obtain⟨t,rfl⟩:=r1
  obtain⟨hw,q1⟩:=q1
  refine⟨"str", "str.replace",F.plainAttrs_str,F.slot_str_replace,F.type_str_replace,typeIs_str _ _ _,(by intro a h;cases h),?_⟩
  rw [hs]
  refine Calls.callWith_builtin rfl (Calls.evalArgs_plain ?_)
  show wpAny _ _ (spliced [(false,eval (.Constant (.str y) k1 p1) X.env),(false,eval (.Constant (.str z) k2 p2) X.env),(false,eval (.Constant (.int 1) k3 p3) X.env)]) _ _ s1
  refine Calls.spliced_cons (Calls.Constant_str (Calls.spliced_cons (Calls.Constant_str (Calls.spliced_cons (wpAny_Constant_int (wpAny_pure ?_))))))
  have h0:(s1.toks == 0 || s1.toks+1 == 0)=false:=by
   have:(s1.toks == 0)=false:=by simp;omega
   rw [this];rfl
  have huv:(s1.toks == s1.toks+1)=false:=by simp
  have hlen:(Builtin.Str.occurrences w y 0 w.length 1).length<=1:=StrLaws.occ_length_le w y 0 w.length 1
  have hl:Builtin.Str.tooLong (w.length+(Builtin.Str.occurrences w y 0 w.length 1).length * z.length)=false:=by
   have:(Builtin.Str.occurrences w y 0 w.length 1).length * z.length<=1 * z.length:=Nat.mul_le_mul_right _ hlen
   unfold Builtin.Str.tooLong sizeLine
   exact decide_eq_false (by omega)
  refine call_gives F.slot_str_replace (typeIs_str _ _ _) F.entry_str_replace (F.args_str_replace_4 _ _ _ _) (gives_replace1 w y z t s1.toks (s1.toks+1) (s1.toks+2) h0 huv hyz hl) ?_
  have hfit:=repl1_len w y z
  have q2:=q1
  unfold repl1 at hfit q2
  split
  ·next hc =>
   rw [if_pos hc] at q2
   exact⟨.str w,H1,.str w,I1.tok _,⟨_,rfl⟩,sm,.str,q2⟩
  ·next hc =>
   rw [if_neg hc] at q2 hfit
   exact⟨by rw [sizeLine_eq];omega,.str _,H1,.str _,I1.tok _,⟨_,rfl⟩,sm,.str,q2⟩
 | _=>exact q1.elim⟩
def dPar3O(i j l:Nat)(tf:DTF)(te tg:DTE):DTS:=fun Dn σ=>tf σ fun xs=>te σ fun d=>tg σ fun g=>Dn.nx (((σ.set i (some (.own (.lst xs)))).set j (some (.val d))).set l (some (.val g)))
theorem ds_par3O{i j l:Nat}{x y z:Str}{px py pz pt spos:Pos}{kt k2 pt2}{tf:DTF}{te tg:DTE}{f g:Expr}(hc:X.calm=true)(hN:X.N.Nodup)(hi:X.N[i]?=some x)(hj:X.N[j]?=some y)(hk:X.N[l]?=some z)(hij:i≠j)(hik:i≠l)(hjk:j≠l)
  (hx:X.env.scope.names.lookup x=some .local) (hy:X.env.scope.names.lookup y=some .local) (hz:X.env.scope.names.lookup z=some .local) (he:DF X e tf) (hf:DE X f te) (hg:DE X g tg)
  (hw:swappedStores [.Tuple [.Name x px,.Name y py,.Name z pz] kt pt] (.Tuple [e,f,g] k2 pt2) X.env=pure (some [x,y,z]))
  (h1:starEach [e,f,g] X.env=(false,eval e X.env)::starEach [f,g] X.env:=by rfl) (h2:starEach [f,g] X.env=(false,eval f X.env)::starEach [g] X.env:=by rfl) (h3:starEach [g] X.env=(false,eval g X.env)::starEach [] X.env:=by rfl)
  (hs:swapsWithSole [.Tuple [.Name x px,.Name y py,.Name z pz] kt pt] (.Tuple [e,f,g] k2 pt2) spos.line X.env=pure false:=by rfl) :
  DS X (.Assign [.Tuple [.Name x px,.Name y py,.Name z pz] kt pt] (.Tuple [e,f,g] k2 pt2) spos) (dPar3O i j l tf te tg) :=
 DS.of (ps_par3 hc hN hi hj hk hij hik hjk hx hy hz (pa_cons he.pe (pa_cons hf.pe (pa_cons hg.pe pa_nil h3) h2) h1) hw hs) fun σ H H₀ σD Dn ok q =>
  ⟨H₀,σD,_,ok,q,fun a H1 vs xs s1 n e1 r1 q1=>⟨H₀,σD,_,ok.after s1,q1,fun v2 H2 d2 s2 r2 q2=>⟨H₀,σD,_,(ok.after s1).after s2,q2,fun v3 H3 d3 s3 r3 q3 =>
   ⟨.ref a,v2,v3,rfl,_,((ok.setO ((s1.trans s2).trans s3) n (s3 _ _ (s2 _ _ e1)) ((r1.same s2).same s3) i).setV (r2.same s3) j).setV r3 l,((s1.trans s2).trans s3).pers,q3⟩⟩⟩⟩
end
section
variable {X:Cx}{pins:List (Addr×Obj)}{σ:St}{H:Hp}{s:Shared}{P c:Addr}{q:Str}
end
section
variable {X:Cx}{pins:List (Addr×Obj)}{σ:St}{H:Hp}{a it S f:Addr}{xs:List V}{kf:Nat->Int}{kwd:List (Str×Value)}{R:Value->Shared->Prop}
structure MnHd(X:Cx)(pins:List (Addr×Obj))(σ:St)(H:Hp)(a it S:Addr)(xs:List V)(kf:Nat->Int)(j i:Nat)(H1:Hp)(s:Shared):Prop where
 I:Inv X pins σ H1 s
 sm:Same H H1
 st:s.heap.IsListIter it a j
 f1:FpOk X pins H1 it
 f2:FpOk X pins H1 S
 ne:it≠S
 best:∃ vb tb c x,s.heap.get? S=some (seqObj "list" #[vb,.int (kf i) tb] c)/\xs[i]?=some x/\RelV x vb
 lt:i<j
 mx:∀ j',j' < j->kf i<=kf j'/\(j' < i->kf i<kf j')
end
section
variable {X:Cx}{pins:List (Addr×Obj)}{σ:St}{H:Hp}{a f:Addr}{xs:List V}{kf:Nat->Int}{R:Value->Shared->Prop}{s:Shared}
end
structure LamScope(y n:Str)(sc:Scope):Prop where
 kind:sc.kind=.function
 co:sc.isCoroutine=false
 gen:sc.isGenerator=false
 ne:y≠n
 loc:sc.names.lookup y=some .local
 fre:sc.names.lookup n=some .free
 only:∀ x∈sc.names,x.2 ≠ .cell/\(x.2=.free->x.1=n)
section
variable {X:Cx}{a body:Expr}{ta:DTF}{tb:DTE}{p pos kp kp2 lp cp:Pos}{k:Nat}{P c:Addr}{q y n:Str}{params:Arguments}{scope:Scope}
end
end L2
namespace SQ
open PySem PyProof.Rows
set_option autoImplicit false
abbrev ipK(p:Int×Str):List Int:=p.1::p.2.cps.toList.map fun n:Nat=>(n:Int)
def RefP(h:Heap)(v:Value)(p:Int×Str):Prop:=∃ a t u,v=.ref a/\IsTup h a #[.int p.1 t,.str p.2 u]
theorem RefP.keep{h h':Heap}{v:Value}{p:Int×Str}(k:∀ b o,h.get? b=some o->h'.get? b=some o)(x:RefP h v p):RefP h' v p:=by
 obtain⟨a,t,u,e,i⟩:=x
 exact⟨a,t,u,e,i.keeps k⟩
open Classical in
noncomputable def refKeyP (h:Heap) (v:Value):Option (List Int):=if x:∃ p,RefP h v p then some (ipK x.choose) else none
@[reducible] noncomputable def pairK (h:Heap):KeyKind where
 α:=List Int
 blt a b:=decide (a<b)
 irrefl a:=by simpa using List.lt_irrefl a
 trans a b c h1 h2:=by simp only [decide_eq_true_eq] at *;exact List.lt_trans h1 h2
 negTrans a b c h:=by
  simp only [decide_eq_true_eq] at *
  by_cases c:a<b
  ·exact .inl c
  ·exact .inr (List.lt_of_le_of_lt (List.not_lt.mp c) h)
 total a b h1 h2:=by simp only [decide_eq_false_iff_not] at *;exact List.le_antisymm (List.not_lt.mp h2) (List.not_lt.mp h1)
 keyOf v:=refKeyP h v
 dflt:=[]
section
variable {prog:Program}{w:World}{A:Around}{E:Value->Shared->Prop}{s:Shared}
end
end SQ
namespace L2
open PySem PySem.Spec PyProof.Rows SQ
section
variable {X:Cx}
end
end L2
namespace L2
open PySem PySem.Spec PyProof.Rows
section
variable {X:Cx}{o:Expr}{td:TE}{p pos:Pos}
end
end L2
namespace My
open PySem L2 PyProof.Rows
def top(i:Nat):Stmt:=PySem.Challenge.pw_knockpurse_k92_texts_that_write_no_calle.main.body.getD i (.Pass ⟨0,0,0,0⟩)
abbrev s_is_whole:Stmt:=top 10
theorem sc_is_whole:FnScope ["thing"] ["thing"] (defScope s_is_whole):=⟨rfl,rfl,rfl,by decide +kernel,rfl,by decide +kernel,by decide +kernel⟩
abbrev s_whole_in:Stmt:=top 11
theorem sc_whole_in:FnScope ["thing", "least", "most"] ["thing", "least", "most"] (defScope s_whole_in):=⟨rfl,rfl,rfl,by decide +kernel,rfl,by decide +kernel,by decide +kernel⟩
abbrev s_wholes_in:Stmt:=top 12
theorem sc_wholes_in:FnScope ["thing", "bounds"] ["thing", "bounds"] (defScope s_wholes_in):=⟨rfl,rfl,rfl,by decide +kernel,rfl,by decide +kernel,by decide +kernel⟩
abbrev s_gaps_good:Stmt:=top 15
theorem sc_gaps_good:FnScope ["thing"] ["thing"] (defScope s_gaps_good):=⟨rfl,rfl,rfl,by decide +kernel,rfl,by decide +kernel,by decide +kernel⟩
abbrev s_plan_good:Stmt:=top 19
theorem sc_plan_good:FnScope ["thing", "gaps", "knocks", "time"] ["thing"] (defScope s_plan_good):=⟨rfl,rfl,rfl,by decide +kernel,rfl,by decide +kernel,by decide +kernel⟩
abbrev s_gate_good:Stmt:=top 22
theorem sc_gate_good:FnScope ["thing"] ["thing"] (defScope s_gate_good):=⟨rfl,rfl,rfl,by decide +kernel,rfl,by decide +kernel,by decide +kernel⟩
abbrev s_purse_good:Stmt:=top 25
theorem sc_purse_good:FnScope ["thing"] ["thing"] (defScope s_purse_good):=⟨rfl,rfl,rfl,by decide +kernel,rfl,by decide +kernel,by decide +kernel⟩
abbrev s_caller_plan_good:Stmt:=top 28
theorem sc_caller_plan_good:FnScope ["thing"] ["thing"] (defScope s_caller_plan_good):=⟨rfl,rfl,rfl,by decide +kernel,rfl,by decide +kernel,by decide +kernel⟩
abbrev s_number_good:Stmt:=top 37
theorem sc_number_good:FnScope ["word"] ["word"] (defScope s_number_good):=⟨rfl,rfl,rfl,by decide +kernel,rfl,by decide +kernel,by decide +kernel⟩
abbrev s_numbers_of:Stmt:=top 38
theorem sc_numbers_of:FnScope ["words"] ["words"] (defScope s_numbers_of):=⟨rfl,rfl,rfl,by decide +kernel,rfl,by decide +kernel,by decide +kernel⟩
abbrev s_row_read:Stmt:=top 39
theorem sc_row_read:FnScope ["rows", "number", "word", "first", "rest"] ["rows", "number", "word"] (defScope s_row_read):=⟨rfl,rfl,rfl,by decide +kernel,rfl,by decide +kernel,by decide +kernel⟩
abbrev s_caller_read:Stmt:=top 40
theorem sc_caller_read:FnScope ["text", "rows", "gaps", "plan", "purse", "gate", "right", "at", "good"] ["text"] (defScope s_caller_read):=⟨rfl,rfl,rfl,by decide +kernel,rfl,by decide +kernel,by decide +kernel⟩
abbrev s__law_cell_at:Stmt:=top 42
theorem sc__law_cell_at:FnScope ["_law_script", "_law_k"] ["_law_script", "_law_k"] (defScope s__law_cell_at):=⟨rfl,rfl,rfl,by decide +kernel,rfl,by decide +kernel,by decide +kernel⟩
abbrev s__law_next:Stmt:=top 43
theorem sc__law_next:FnScope ["_law_seed"] ["_law_seed"] (defScope s__law_next):=⟨rfl,rfl,rfl,by decide +kernel,rfl,by decide +kernel,by decide +kernel⟩
abbrev s__law_pen_of:Stmt:=top 44
theorem sc__law_pen_of:FnScope ["_law_cell", "_law_left"] ["_law_cell"] (defScope s__law_pen_of):=⟨rfl,rfl,rfl,by decide +kernel,rfl,by decide +kernel,by decide +kernel⟩
abbrev s__law_draw:Stmt:=top 45
theorem sc__law_draw:FnScope ["_law_pen", "_law_many", "_law_found"] ["_law_pen", "_law_many"] (defScope s__law_draw):=⟨rfl,rfl,rfl,by decide +kernel,rfl,by decide +kernel,by decide +kernel⟩
abbrev s__law_caller:Stmt:=top 46
theorem sc__law_caller:FnScope ["_law_pen", "_law_gaps", "_law_plan", "_law_cap", "_law_rest", "_law_purse", "_law_gate"] ["_law_pen"] (defScope s__law_caller):=⟨rfl,rfl,rfl,by decide +kernel,rfl,by decide +kernel,by decide +kernel⟩
abbrev s__law_great:Stmt:=top 47
theorem sc__law_great:FnScope ["_law_pen", "_law_way", "_law_rest", "_law_cap", "_law_first", "_law_gaps", "_law_purse", "_law_most", "_law_trials", "_law_gate"] ["_law_pen"] (defScope s__law_great):=⟨rfl,rfl,rfl,by decide +kernel,rfl,by decide +kernel,by decide +kernel⟩
abbrev s__law_rows:Stmt:=top 48
theorem sc__law_rows:FnScope ["_law_caller_here", "_law_gaps", "_law_knocks", "_law_time", "_law_purse", "_law_gate", "_law_rows_here"] ["_law_caller_here"] (defScope s__law_rows):=⟨rfl,rfl,rfl,by decide +kernel,rfl,by decide +kernel,by decide +kernel⟩
abbrev s__law_sign:Stmt:=top 49
theorem sc__law_sign:FnScope ["_law_pen", "_law_signs"] ["_law_pen"] (defScope s__law_sign):=⟨rfl,rfl,rfl,by decide +kernel,rfl,by decide +kernel,by decide +kernel⟩
abbrev s__law_number:Stmt:=top 50
theorem sc__law_number:FnScope ["_law_word", "_law_sign_here"] ["_law_word"] (defScope s__law_number):=⟨rfl,rfl,rfl,by decide +kernel,rfl,by decide +kernel,by decide +kernel⟩
abbrev s__law_odd:Stmt:=top 51
theorem sc__law_odd:FnScope ["_law_pen", "_law_some"] ["_law_pen"] (defScope s__law_odd):=⟨rfl,rfl,rfl,by decide +kernel,rfl,by decide +kernel,by decide +kernel⟩
abbrev s__law_refusal:Stmt:=top 52
theorem sc__law_refusal:FnScope ["_law_e", "_law_marks", "_law_word"] ["_law_e"] (defScope s__law_refusal):=⟨rfl,rfl,rfl,by decide +kernel,rfl,by decide +kernel,by decide +kernel⟩
abbrev s__law_within:Stmt:=top 53
theorem sc__law_within:FnScope ["_law_numbers", "_law_bounds"] ["_law_numbers", "_law_bounds"] (defScope s__law_within):=⟨rfl,rfl,rfl,by decide +kernel,rfl,by decide +kernel,by decide +kernel⟩
abbrev s__law_row_good:Stmt:=top 54
theorem sc__law_row_good:FnScope ["_law_number_here", "_law_words", "_law_kinds", "_law_told_here"] ["_law_number_here", "_law_words"] (defScope s__law_row_good):=⟨rfl,rfl,rfl,by decide +kernel,rfl,by decide +kernel,by decide +kernel⟩
abbrev s__law_due:Stmt:=top 55
theorem sc__law_due:FnScope ["_law_text", "_law_rows_here", "_law_found", "_law_number_here", "_law_row", "_law_words"] ["_law_text"] (defScope s__law_due):=⟨rfl,rfl,rfl,by decide +kernel,rfl,by decide +kernel,by decide +kernel⟩
abbrev s__law_told:Stmt:=top 56
theorem sc__law_told:FnScope ["_law_text", "_law_e"] ["_law_text"] (defScope s__law_told):=⟨rfl,rfl,rfl,by decide +kernel,rfl,by decide +kernel,by decide +kernel⟩
abbrev s__law_bent:Stmt:=top 57
theorem sc__law_bent:FnScope ["_law_pen", "_law_rows_here", "_law_at", "_law_way", "_law_words", "_law_to", "_law_spot", "_law_other", "_law_new", "_law_some", "_law_turned", "_law_bent_here"] ["_law_pen", "_law_rows_here"] (defScope s__law_bent):=⟨rfl,rfl,rfl,by decide +kernel,rfl,by decide +kernel,by decide +kernel⟩
abbrev s_law:Stmt:=top 58
theorem sc_law:FnScope ["_law_script", "_law_cell", "_law_pen", "_law_caller_here", "_law_rows_here", "_law_text", "_law_at", "_law_sign_here", "_law_things", "_law_thing", "_law_due_here"] ["_law_script"] (defScope s_law):=⟨rfl,rfl,rfl,by decide +kernel,rfl,by decide +kernel,by decide +kernel⟩
abbrev cl_NoText:Stmt:=top 7
theorem sci_NoText:FnScope ["self", "row"] ["self", "row"] (defScope (inClass cl_NoText 0)):=⟨rfl,rfl,rfl,by decide +kernel,rfl,by decide +kernel,by decide +kernel⟩
structure Blt(mg:Str->Option Value):Prop where
 len:mg "len" = none
 range:mg "range" = none
 enumerate:mg "enumerate" = none
 max:mg "max" = none
 repr:mg "repr" = none
 isinstance:mg "isinstance" = none
 all:mg "all" = none
 zip:mg "zip" = none
 tupleT:mg "tuple" = none
 intT:mg "int" = none
 listT:mg "list" = none
 strT:mg "str" = none
 boolT:mg "bool" = none
 ValueError:mg "ValueError" = none
 LookupError:mg "LookupError" = none
 TypeError:mg "TypeError" = none
 ArithmeticError:mg "ArithmeticError" = none
 RuntimeError:mg "RuntimeError" = none
structure Xf(K:PySem.W.Frag)(mg:Str->Option Value):Prop where
 kn:∃ CK,mg "KnockError" = some (.ref CK)/\∀ y∈(["NoText"]:List Str),∀ D,PySem.W.nsIn K mainGlobals y=some (some (.ref D))->XCls K CK D
 f_row:FldAt K "row" ["NoText"]
 i_NoBeat:∃ D,mg "NoBeat" = some (.ref D)/\∀ nm b,tabX (["NoText"]:List Str) "NoBeat" nm=some b->∀ C,PySem.W.nsIn K mainGlobals nm=some (some (.ref C))->XIs K C/\PySem.W.kitOne K (.ref C) (.ref D)=some b
 i_NoStep:∃ D,mg "NoStep" = some (.ref D)/\∀ nm b,tabX (["NoText"]:List Str) "NoStep" nm=some b->∀ C,PySem.W.nsIn K mainGlobals nm=some (some (.ref C))->XIs K C/\PySem.W.kitOne K (.ref C) (.ref D)=some b
 i_NoNumber:∃ D,mg "NoNumber" = some (.ref D)/\∀ nm b,tabX (["NoText"]:List Str) "NoNumber" nm=some b->∀ C,PySem.W.nsIn K mainGlobals nm=some (some (.ref C))->XIs K C/\PySem.W.kitOne K (.ref C) (.ref D)=some b
 i_NoLine:∃ D,mg "NoLine" = some (.ref D)/\∀ nm b,tabX (["NoText"]:List Str) "NoLine" nm=some b->∀ C,PySem.W.nsIn K mainGlobals nm=some (some (.ref C))->XIs K C/\PySem.W.kitOne K (.ref C) (.ref D)=some b
 i_NoStory:∃ D,mg "NoStory" = some (.ref D)/\∀ nm b,tabX (["NoText"]:List Str) "NoStory" nm=some b->∀ C,PySem.W.nsIn K mainGlobals nm=some (some (.ref C))->XIs K C/\PySem.W.kitOne K (.ref C) (.ref D)=some b
 i_NoText:∃ D,mg "NoText" = some (.ref D)/\∀ nm b,tabX (["NoText"]:List Str) "NoText" nm=some b->∀ C,PySem.W.nsIn K mainGlobals nm=some (some (.ref C))->XIs K C/\PySem.W.kitOne K (.ref C) (.ref D)=some b
 i_TooGreat:∃ D,mg "TooGreat" = some (.ref D)/\∀ nm b,tabX (["NoText"]:List Str) "TooGreat" nm=some b->∀ C,PySem.W.nsIn K mainGlobals nm=some (some (.ref C))->XIs K C/\PySem.W.kitOne K (.ref C) (.ref D)=some b
 b_ValueError:∀ nm b,tabB (["NoText"]:List Str) true nm=some b->∀ C,PySem.W.nsIn K mainGlobals nm=some (some (.ref C))->XIs K C/\PySem.W.kitOne K (.ref C) (.type "ValueError")=some b
 t_0:∀ nm b,tabB (["NoText"]:List Str) false nm=some b->∀ C,PySem.W.nsIn K mainGlobals nm=some (some (.ref C))->XIs K C/\PySem.W.kitAny K (.ref C) [.type "LookupError",.type "TypeError",.type "ArithmeticError",.type "RuntimeError"]=some b
def FnAt(K:PySem.W.Frag)(x:Str)(st:Stmt):Prop:=∃ f fd,PySem.W.nsIn K mainGlobals x=some (some (.ref f))/\Fun K x x st f fd
theorem fn_at{K:PySem.W.Frag}{x:Str}{st:Stmt}{f:Addr}{od an:Option Addr}{sl:Array (Option Value)}{oc kV dc pm cd ct:Value}(a:PySem.W.nsIn K mainGlobals x=some (some (.ref f)))(l:K.lookup f=some ⟨oc,od,.func (PySem.W.fnOf x x (defArgs st) (defBody st) (defScope st) .none kV dc pm an cd ct),sl⟩)(c:PySem.W.codeIn K cd x=true)(k:PySem.W.keepIn K (.ref f)=true):FnAt K x st:=⟨f,_,a,fun_mk l c k⟩
theorem law_binds{K:PySem.W.Frag}{x:Str}{st:Stmt}{f:Addr}{fd:FuncData}{s:Shared}{v:Value}{ps:List (Str×Value)}(F:Fun K x x st f fd)(h:∀(kV doc pm:Value) (an:Option Addr) (cdv ct:Value),bindArgs (PySem.W.fnOf x x (defArgs st) (defBody st) (defScope st) .none kV doc pm an cdv ct) ⟨[v],[]⟩=pure ps):BindsTo s fd ⟨[v],[]⟩ ps:=by
 obtain⟨oc,od,kV,doc,pm,an,cdv,ct,osl,rfl,lk,hcd⟩:=F.ex
 exact .of_eq (h kV doc pm an cdv ct)
abbrev Cal(P:Program)(w:World)(K:PySem.W.Frag)(mg:Str->Option Value)(base:Heap):=Callee P w K mg base
local macro_rules | `(tactic| walk_at "dr")=>`(tactic| dsimp only [↓dTry,↓dTxtI,↓dSlT,↓dTJoin,↓dTSplit,↓dStar1,↓gIntT,↓gStrA,↓gInT,↓dIsX,↓dNeverE,↓dCntX,↓dIdxX,↓dSeq,↓dNext,↓dSet,↓dSetO,↓dSetP,↓dAsg,↓dPar,↓dPar3,↓dUpper,↓dRepl1,↓dPar3O,↓gMulX,↓dFldX,↓dRaiseF,↓dIf,↓dFor,↓dRet,↓dRetF,↓dApp,↓dPutI,↓dVar,↓dOwn,↓dNowV,↓dLay,↓dC,↓dCons,↓dNil,↓dpNil,↓dpVal,↓dpVw,↓dTup,↓dLst,↓dFz,↓dTB,↓onB,↓dAnd,↓dOr,↓dNot,↓dTru,↓truD,↓dAndV,↓dOrV,↓dIfE,↓dOp,↓dChain,↓dUn,↓gNeg,↓gNot,↓gII,↓gII0,↓gCat,↓gRep,↓gAdd,↓gMul,↓gEq,↓gNe,↓gIn,↓dCB,↓dCF,↓gLen,↓gMax,↓gInt,↓gList,↓gTuple,↓gIx,↓dPart,↓dNoPart,↓dSl,↓dScrSl,↓dScrLen,↓dScrIx,↓dSeqI,↓dRange1,↓dZip,↓dEnumX,↓dgName,↓dgNil,↓dgCons,↓dgTup,↓dgSeq,↓dLC,↓lcF,↓dTrue,↓dCall,↓dCallF,↓Ret.d,↓startF,↓startD,↓seenW,↓clr,↓clrS,↓dIs,↓isD,↓dReprA,↓gAll,List.map_cons,List.map_nil,List.length_cons,List.length_nil,List.replicate_succ,List.replicate_zero,List.cons_append,List.nil_append,List.append_nil,List.set_cons_zero,List.set_cons_succ,List.getElem?_cons_zero,List.getElem?_cons_succ,Option.join_some,Nat.reduceAdd,Nat.reduceSub,Nat.zero_add,Bool.not_true,Bool.not_false])
local macro_rules | `(tactic| walk_at "ds")=>`(tactic| first | simp only [↓dTry,↓dTxtI,↓dSlT,↓dTJoin,↓dTSplit,↓dStar1,↓gIntT,↓gStrA,↓gInT,↓dIsX,↓dNeverE,↓dCntX,↓dIdxX,↓dSeq,↓dNext,↓dSet,↓dSetO,↓dSetP,↓dAsg,↓dPar,↓dPar3,↓dUpper,↓dRepl1,↓dPar3O,↓gMulX,↓dFldX,↓dRaiseF,↓dIf,↓dFor,↓dRet,↓dRetF,↓dApp,↓dPutI,↓dVar,↓dOwn,↓dNowV,↓dLay,↓dC,↓dCons,↓dNil,↓dpNil,↓dpVal,↓dpVw,↓dTup,↓dLst,↓dFz,↓dTB,↓onB,↓dAnd,↓dOr,↓dNot,↓dTru,↓truD,↓dAndV,↓dOrV,↓dIfE,↓dOp,↓dChain,↓dUn,↓gNeg,↓gNot,↓gII,↓gII0,↓gCat,↓gRep,↓gAdd,↓gMul,↓gEq,↓gNe,↓gIn,↓dCB,↓dCF,↓gLen,↓gMax,↓gInt,↓gList,↓gTuple,↓gIx,↓dPart,↓dNoPart,↓dSl,↓dScrSl,↓dScrLen,↓dScrIx,↓dSeqI,↓dRange1,↓dZip,↓dEnumX,↓dgName,↓dgNil,↓dgCons,↓dgTup,↓dgSeq,↓dLC,↓lcF,↓dTrue,↓dCall,↓dCallF,↓Ret.d,↓startF,↓startD,↓seenW,↓clr,↓clrS,↓dIs,↓isD,↓dReprA,↓gAll,List.map_cons,List.map_nil,List.length_cons,List.length_nil,List.replicate_succ,List.replicate_zero,List.cons_append,List.nil_append,List.append_nil,List.set_cons_zero,List.set_cons_succ,List.getElem?_cons_zero,List.getElem?_cons_succ,Option.join_some,Nat.reduceAdd,Nat.reduceSub,Nat.zero_add,Bool.not_true,Bool.not_false,if_true,if_false,reduceIte,decide_eq_true_eq,Bool.not_eq_true',decide_eq_false_iff_not,true_and,and_true,Bool.false_eq_true,Bool.not_eq_eq_eq_not,eq_self,and_self,List.isEmpty_nil,List.isEmpty_cons,reduceCtorEq,sizeLine_eq,Nat.reduceLeDiff,Nat.zero_le] | skip)
section
variable {P:Program}{w:World}{K:PySem.W.Frag}{mg:Str->Option Value}{base:Heap}{f:Addr}{fd:FuncData}
def sp__law_cell_at:DSp:=fun ws Q=>∃(ns:List Int) (k:Int),ws = [.scr ns,.val (.int k)]/\0<=k/\∀ v:Int,Q (.val (.int v))
theorem ok__law_cell_at(B:Blt mg)(F:Fun K "_law_cell_at" "_law_cell_at" s__law_cell_at f fd):FnOk P w K mg base CX0 1 f fd ["_law_script", "_law_k"] (cnSp K sp__law_cell_at):=by
 refine F.dok sc__law_cell_at (fun ws Q h=>?_) (fun cdv A outer s H ws Q E hr h=>?_)
 ·obtain⟨ns,k,rfl,_⟩:=h
  rfl
 obtain⟨ns,k,rfl,h0,q⟩:=h
 refine⟨_,(dss_cons (ds_if (dt_cmp o_lt (dv_own 1) (DE.dv (de_scrLen 0 rfl B.len)) (nomark _)) (dss_one (ds_ret (de_scrIx 0 (de_var 1) (fun _ _=>rfl)))) dss_nil) (dss_one (ds_ret de_int))),?_⟩
 walk_at "ds"
 split
 ·next c =>
  obtain⟨v,e,_⟩:=atI_ex (xs:=ns) h0 c
  exact⟨v,e,q v⟩
 ·exact q 0
def sp__law_next:DSp:=fun ws Q=>∃ k:Int,ws = [.val (.int k)]/\∀ v:Int,Q (.val (.int v))
theorem ok__law_next(B:Blt mg)(F:Fun K "_law_next" "_law_next" s__law_next f fd):FnOk P w K mg base CX0 1 f fd ["_law_seed"] (cnSp K sp__law_next):=by
 refine F.dok sc__law_next (fun ws Q h=>?_) (fun cdv A outer s H ws Q E hr h=>?_)
 ·obtain⟨k,rfl,_⟩:=h
  rfl
 obtain⟨k,rfl,q⟩:=h
 refine⟨_,(dss_cons (ds_set (i:=0) sc__law_next.nd rfl (Or.inl rfl) (de_op o_mod (DE.dv (de_op o_add (dv_own 0) (DE.dv de_int))) (DE.dv de_int))) (dss_one (ds_ret (de_op o_mod (DE.dv (de_op o_add (DE.dv (de_op o_add (DE.dv (de_op o_mul (dv_own 0) (dv_own 0))) (DE.dv (de_op o_mul (DE.dv de_int) (dv_own 0))))) (DE.dv de_int))) (DE.dv de_int))))),?_⟩
 walk_at "ds"
 have h1:0<=(k+7919) % 2147483647:=Int.emod_nonneg _ (by decide)
 have h2:(k+7919) % 2147483647<2147483647:=Int.emod_lt_of_pos _ (by decide)
 exact⟨by decide,.inl ⟨by omega,by omega⟩,.inl ⟨by omega,by omega⟩,by decide,q _⟩
def sp__law_pen_of:DSp:=fun ws Q=>∃ k:Int,ws = [.val (.int k)]/\∀ a b c:Int,Q (.new [.int a,.int b,.int c])
theorem ok__law_pen_of(B:Blt mg)(F:Fun K "_law_pen_of" "_law_pen_of" s__law_pen_of f fd):FnOk P w K mg base CX0 1 f fd ["_law_cell"] (cnSp K sp__law_pen_of):=by
 refine F.dok sc__law_pen_of (fun ws Q h=>?_) (fun cdv A outer s H ws Q E hr h=>?_)
 ·obtain⟨k,rfl,_⟩:=h
  rfl
 obtain⟨k,rfl,q⟩:=h
 refine⟨_,(dss_cons (ds_set (i:=1) sc__law_pen_of.nd rfl (Or.inl rfl) (de_callB (c_max rfl) rfl B.max boot_max (dav_cons (dv_own 0) (dav_cons (DE.dv (de_op o_sub (DE.dv de_int) (dv_own 0))) dav_nil)))) (dss_one (ds_retF (df_lst (da_cons (de_var 1) (da_cons (de_callTy c_int rfl B.intT boot_int (dav_cons (DE.dv (de_cmp o_ge (dv_own 1) (DE.dv (de_op o_pow (DE.dv de_int) (DE.dv de_int))) (nomark _))) dav_nil)) (da_cons (de_op o_mod (dv_own 1) (DE.dv de_int)) da_nil))))))),?_⟩
 walk_at "ds"
 exact⟨⟨by decide,by decide,by decide⟩,by decide,q _ _ _⟩
def sp_nextH:Sp:=fun vs H Q _=>∃ k:Int,vs = [.int k]/\∀(v:Int) H',Same H H'->Q (.int v) H'
theorem next_H{k:Nat}{x:Str}{ps:List Str}(C:Cal P w K mg base k x ps (cnSp K sp__law_next)):Cal P w K mg base k x ps sp_nextH:=by
 obtain⟨f,fd,F,r⟩:=C
 refine⟨f,fd,F.imp fun vs H Q E h=>?_,r⟩
 obtain⟨k,rfl,q⟩:=h
 exact⟨[.val (.int k)],fun r=>∃ i:Int,r=.val (.int i),.cons (show Rep K H (.int k) _ from .int) .nil,⟨k,rfl,fun v=>⟨v,rfl⟩⟩,fun v H' r sm rp ⟨i,e⟩=>by subst e;cases (show Rep K H' (.int i) v from rp);exact q i H' sm⟩
theorem ok__law_draw(B:Blt mg)(F:Fun K "_law_draw" "_law_draw" s__law_draw f fd)(Cd:Cal P w K mg base 1 "_law_next" ["_law_seed"] (cnSp K sp__law_next)):FnOk P w K mg base CX0 2 f fd ["_law_pen", "_law_many"] (cnSp K sp__law_draw):=by
 have C__law_next:=next_H Cd
 refine pen_fn (F.ok sc__law_draw (fun vs H Q E h=>?_) (fun cdv A outer s H vs Q E hr h=>?_))
 ·obtain⟨p,m,rfl,_⟩:=h
  rfl
 obtain⟨p,m,rfl,hm,hM,⟨a,b,c,hp⟩,q⟩:=h
 refine⟨_,(pss_cons (ps_if (pw_pt (pw_and (pt_cmpR op_eq (pe_ix ix_list (pv 0) pe_int (fun _ _=>rfl)) pe_int (nomark _)) (pw_and1 (pt_cmpR op_gt (pe_ix ix_list (pv 0) pe_int (fun _ _=>rfl)) pe_int (nomark _))))) (pss_cons (ps_set (i:=2) sc__law_draw.nd rfl (Or.inl rfl) (pe_op op_mod (pe_ix ix_list (pv 0) pe_int (fun _ _=>rfl)) (pv 1))) (pss_cons (ps_asg (pe_op op_fdivW (pe_ix ix_list (pv 0) pe_int (fun _ _=>rfl)) (pv 1)) (pg_sub (pv 0) pe_int set_list)) (pss_one (ps_ret (pv 2))))) pss_nil) (pss_cons (ps_asg (pe_callC C__law_next hr rfl (pa_cons (pe_op op_add (pe_callC C__law_next hr rfl (pa_cons (pe_ix ix_list (pv 0) pe_int (fun _ _=>rfl)) pa_nil)) pe_int) pa_nil)) (pg_sub (pv 0) pe_int set_list)) (pss_one (ps_ret (pe_op op_mod (pe_op op_fdivW (pe_ix ix_list (pv 0) pe_int (fun _ _=>rfl)) pe_int) (pv 1)))))),?_⟩
 have hS:SqL K H p [.int a,.int b,.int c]:=SqL.of hp
 refine⟨_,rfl,p,_,_,_,rfl,rfl,hS,rfl,rfl,_,rfl,?_⟩
 refine ite2 (fun c1=>?_) (fun c1=>?_)
 ·refine⟨_,rfl,p,_,_,_,rfl,rfl,hS,rfl,_,_,rfl,rfl,_,rfl,?_⟩
  refine ite2 (fun c2=>?_) (fun c2=>?_)
  ·refine⟨_,rfl,p,_,_,_,rfl,rfl,hS,rfl,_,rfl,_,_,rfl,rfl,hm,?_⟩
   refine⟨_,rfl,p,_,_,_,rfl,rfl,hS,rfl,_,rfl,_,_,rfl,rfl,⟨hm,hM⟩,?_⟩
   refine⟨_,rfl,p,_,_,_,rfl,rfl,hp,rfl,?_⟩
   exact⟨_,rfl,q _ _ (Int.emod_nonneg _ (by omega)) (Int.emod_lt_of_pos _ hm) ⟨a / m,b,c,upd_same⟩ But.write⟩
  ·refine⟨_,rfl,p,_,_,_,rfl,rfl,hS,rfl,_,rfl,fun v1 H1 s1=>⟨_,_,rfl,rfl,_,rfl,fun v2 H2 s2=>⟨_,rfl,p,_,_,_,rfl,rfl,s2 _ _ (s1 _ _ hp),rfl,?_⟩⟩⟩
   refine⟨_,rfl,p,_,_,_,rfl,rfl,SqL.of upd_same,rfl,_,_,rfl,rfl,⟨by decide,by decide⟩,_,rfl,_,_,rfl,rfl,hm,?_⟩
   exact q _ _ (Int.emod_nonneg _ (by omega)) (Int.emod_lt_of_pos _ hm) ⟨a,b,v2,upd_same⟩ ((But.of_same (s1.trans s2)).trans But.write)
 ·refine iteF ?_
  refine⟨_,rfl,p,_,_,_,rfl,rfl,hS,rfl,_,rfl,fun v1 H1 s1=>⟨_,_,rfl,rfl,_,rfl,fun v2 H2 s2=>⟨_,rfl,p,_,_,_,rfl,rfl,s2 _ _ (s1 _ _ hp),rfl,?_⟩⟩⟩
  refine⟨_,rfl,p,_,_,_,rfl,rfl,SqL.of upd_same,rfl,_,_,rfl,rfl,⟨by decide,by decide⟩,_,rfl,_,_,rfl,rfl,hm,?_⟩
  exact q _ _ (Int.emod_nonneg _ (by omega)) (Int.emod_lt_of_pos _ hm) ⟨a,b,v2,upd_same⟩ ((But.of_same (s1.trans s2)).trans But.write)
def sp_law:DSp:=fun ws Q=>∃ ns:List Int,ws = [.scr ns]/\ns.length<=63/\Q (.val (.bool true))
def As(x:Str):Prop:=∀ c∈x.cps.toList,c<128
theorem As.all{x:Str}(h:As x):x.cps.all (· < 128)=true:=by
 rw [Array.all_eq_true_iff_forall_mem]
 exact fun c hc=>decide_eq_true (h c (Array.mem_toList_iff.mpr hc))
def dgc(c:Nat):Bool:=decide (48<=c/\c<=57)
theorem dig_is{c:Nat}(h:c<128):Txt.contains (Str.ofString "0123456789") ⟨#[c]⟩=dgc c:=by
 have:=(show(List.range 128).all (fun c=>Txt.contains (Str.ofString "0123456789") ⟨#[c]⟩ == dgc c)=true by decide +kernel)
 exact eq_of_beq (List.all_eq_true.mp this c (List.mem_range.mpr h))
def numG(x:Str):Bool:=decide (1<=x.length) && decide (x.length<=30) && x.cps.toList.all dgc && (decide (x=Str.ofString "0") || !decide (x.cps.toList.head?=some 48))
def valT(x:Str):Int:=(PySem.NumText.digitsVal x.cps.toList:Nat)
theorem num_rd{x:Str}(h:numG x=true):PySem.intText? x=some (valT x)/\x.length<=30/\0<=valT x:=by
 unfold numG at h
 simp only [Bool.and_eq_true,decide_eq_true_eq] at h
 obtain⟨⟨⟨h1,h2⟩,h3⟩,_⟩:=h
 refine⟨PySem.intText_digits (fun c hc=>?_) (fun z=>?_) (by omega),h2,Int.natCast_nonneg _⟩
 ·exact of_decide_eq_true (List.all_eq_true.mp h3 c hc)
 ·have:x.cps.toList.length=x.length:=Array.length_toList
  rw [z] at this
  simp at this
  omega
theorem len_toList(x:Str):x.cps.toList.length=x.length:=Array.length_toList
theorem hd0{x:Str}{a:Nat}{cs:List Nat}(e:x.cps.toList=a::cs):(({ cps:=#[a] }:Str)=Str.ofString "0")↔x.cps.toList.head?=some 48:=by
 rw [e]
 have h3:(Str.ofString "0")=⟨#[48]⟩:=by decide +kernel
 rw [h3]
 simp
def sp_number_good:DSp:=fun ws Q=>∃ x:Str,ws = [.val (.str x)]/\As x/\x.length<=100000/\Q (.val (.bool (numG x)))
theorem ok_number_good(B:Blt mg)(F:Fun K "number_good" "number_good" s_number_good f fd){t_MOST_FIGURES:Tok}(G_MOST_FIGURES:mg "MOST_FIGURES" = some (.int 30 t_MOST_FIGURES)){t_FIGURES:Tok}(G_FIGURES:mg "FIGURES" = some (.str "0123456789" t_FIGURES)):FnOk P w K mg base CX0 1 f fd ["word"] (cnSp K sp_number_good):=by
 refine F.dok sc_number_good (fun ws Q h=>?_) (fun cdv A outer s H ws Q E hr h=>?_)
 ·obtain⟨x,rfl,_⟩:=h
  rfl
 obtain⟨x,rfl,hx,hl,q⟩:=h
 refine⟨_,(dss_cons (ds_if (DWt.dt (dw_or (dt_cmp o_lt (DE.dv (de_callB c_len rfl B.len PySem.boot_len (dav_cons (dv_own 0) dav_nil))) (DE.dv de_int) (nomark _)) (dw_or1 (dt_cmp o_gt (DE.dv (de_callB c_len rfl B.len PySem.boot_len (dav_cons (dv_own 0) dav_nil))) (DE.dv (de_glob (d:=.int 30) (v:=.int 30) rfl G_MOST_FIGURES ⟨_,rfl⟩ (fun _=>.int))) (nomark _))))) (dss_one (ds_ret de_bl)) dss_nil) (dss_one (ds_ret (de_and (de_callB (c_all rfl) rfl B.all boot_all (dav_cons (DE.dv (DF.de (df_lc rfl (N':=["sign"]) (capt:=[]) (k:=1) (js:=[]) ⟨rfl,by decide,rfl,by decide,.nil,rfl,.nil,rfl,by decide⟩ (DI.w (di_txt (de_var 0))) (fun _ _ _ _=>(dg_name (i:=0) (show List.Nodup (["sign"]:List Str) by decide +kernel) rfl (Or.inl rfl) (Or.inr rfl))) (fun _ _ _ _=>dts_nil) (fun _ _ _ _=>(de_cmp o_inT (dv_own 0) (DE.dv (de_glob (d:=.str "0123456789") (v:=.str "0123456789") rfl G_FIGURES ⟨_,rfl⟩ (fun _=>.str))) rfl))))) dav_nil)) (de_one (de_or (de_cmp (o_eq hr) (dv_own 0) (DE.dv de_str) (nomark _)) (de_one (de_cmp (o_ne hr) (DE.dv (de_ix (dv_own 0) de_int (fun _ _=>rfl))) (DE.dv de_str) (nomark _))))))))),?_⟩
 walk_at "ds"
 refine⟨by omega,?_⟩
 by_cases c1:(x.length:Int)<1
 ·rw [if_pos c1]
  have:numG x=false:=by unfold numG;rw [decide_eq_false (by omega)];rfl
  rw [this] at q
  exact q
 rw [if_neg c1]
 refine⟨by omega,?_⟩
 by_cases c2:(30:Int)<x.length
 ·rw [if_pos c2]
  have:numG x=false:=by unfold numG;rw [decide_eq_false (show ¬ x.length<=30 by omega),Bool.and_false];rfl
  rw [this] at q
  exact q
 rw [if_neg c2]
 have e1:numG x=(x.cps.toList.all dgc && (decide (x=Str.ofString "0") || !decide (x.cps.toList.head?=some 48))):=by unfold numG;rw [decide_eq_true (by omega),decide_eq_true (by omega)];rfl
 refine⟨hx.all,by unfold charsD;rw [List.length_map,len_toList];omega,?_⟩
 unfold charsD
 refine lcD_mapT (fun c:Nat=>PyData.str ⟨#[c]⟩) (fun c=>.bool (dgc c)) (fun c hc k hk=>?_) ⟨x.cps.toList.map dgc,?_,?_⟩
 ·walk_at "ds"
  rw [dig_is (hx c hc)]
  exact hk
 ·have:=boolsD_map (x.cps.toList.map dgc)
  rw [List.map_map] at this
  exact this
 ·have e2:(x.cps.toList.map dgc).all id=x.cps.toList.all dgc:=by rw [List.all_map];rfl
  rw [e2]
  cases c3:x.cps.toList.all dgc with
  | false =>
   rw [e1,c3] at q
   exact q
  | true =>
   rw [if_pos rfl]
   by_cases c0:x=Str.ofString "0"
   ·rw [if_pos c0]
    rw [e1,c3,decide_eq_true c0] at q
    exact q
   ·rw [if_neg c0]
    cases hcs:x.cps.toList with
    | nil=>rw [<-len_toList,hcs] at c1;simp at c1
    | cons a cs =>
     refine⟨by omega,a,atI_zero _ _,?_⟩
     have:=hd0 hcs
     rw [hcs] at this
     rw [e1,c3,decide_eq_false c0] at q
     rw [hcs] at q
     rw [decide_eq_decide.mpr this]
     exact q
def nosL(xs:List Str):List Int:=if xs.all numG=true then xs.map valT else []
def sp_numbers_of:DSp:=fun ws Q=>∃ xs:List Str,ws = [.val (.list (xs.map PyData.str))]/\xs.length<=100000/\(∀ x∈xs,As x/\x.length<=100000)/\Q (.val (tD (nosL xs)))
theorem ok_numbers_of(B:Blt mg)(F:Fun K "numbers_of" "numbers_of" s_numbers_of f fd)(C_number_good:Cal P w K mg base 1 "number_good" ["word"] (cnSp K sp_number_good)):FnOk P w K mg base CX0 2 f fd ["words"] (cnSp K sp_numbers_of):=by
 refine F.dok sc_numbers_of (fun ws Q h=>?_) (fun cdv A outer s H ws Q E hr h=>?_)
 ·obtain⟨ns,rfl,_⟩:=h
  rfl
 obtain⟨xs,rfl,hl,hx,q⟩:=h
 refine⟨_,(dss_cons (ds_if (dt_not (dt_tru (DE.dv (de_callB (c_all rfl) rfl B.all boot_all (dav_cons (DE.dv (DF.de (df_lc rfl (N':=["word"]) (capt:=[]) (k:=1) (js:=[]) ⟨rfl,by decide,rfl,by decide,.nil,rfl,.nil,rfl,by decide⟩ (diw_seq (dv_own 0)) (fun _ _ _ _=>(dg_name (i:=0) (show List.Nodup (["word"]:List Str) by decide +kernel) rfl (Or.inl rfl) (Or.inr rfl))) (fun _ _ _ _=>dts_nil) (fun _ _ _ _=>(de_call C_number_good hr rfl (dp_vw 0 dp_nil)))))) dav_nil))))) (dss_one (ds_ret (de_tup da_nil))) dss_nil) (dss_one (ds_ret (de_callTy c_tuple rfl B.tupleT boot_tuple (dav_cons (DE.dv (DF.de (df_lc rfl (N':=["word"]) (capt:=[]) (k:=1) (js:=[]) ⟨rfl,by decide,rfl,by decide,.nil,rfl,.nil,rfl,by decide⟩ (diw_seq (dv_own 0)) (fun _ _ _ _=>(dg_name (i:=0) (show List.Nodup (["word"]:List Str) by decide +kernel) rfl (Or.inl rfl) (Or.inr rfl))) (fun _ _ _ _=>dts_nil) (fun _ _ _ _=>(de_callTy c_intT rfl B.intT boot_int (dav_cons (dv_own 0) dav_nil)))))) dav_nil))))),?_⟩
 walk_at "ds"
 rw [List.length_map]
 refine⟨by omega,lcD_mapT PyData.str (fun x=>.bool (numG x)) (fun x hm k hk=>?_) ⟨xs.map numG,?_,?_⟩⟩
 ·walk_at "ds"
  exact⟨x,rfl,(hx x hm).1,(hx x hm).2,hk⟩
 ·have:=boolsD_map (xs.map numG)
  rw [List.map_map] at this
  exact this
 ·have e2:(xs.map numG).all id=xs.all numG:=by rw [List.all_map];rfl
  rw [e2]
  unfold nosL at q
  cases c:xs.all numG with
  | false =>
   rw [c] at q
   exact q
  | true =>
   rw [c] at q
   rw [if_neg (by decide)]
   refine⟨by omega,lcD_mapT PyData.str (fun x=>.int (valT x)) (fun x hm k hk=>?_) ?_⟩
   ·walk_at "ds"
    obtain⟨h1,h2,_⟩:=num_rd (List.all_eq_true.mp c x hm)
    exact⟨_,h1,by omega,hk⟩
   ·rw [if_pos rfl] at q
    unfold tD at q
    rw [List.map_map] at q
    exact q
def sp__law_number:DSp:=fun ws Q=>∃ x:Str,ws = [.val (.str x)]/\As x/\x.length<=100000/\Q (.val (if numG x=true then .int (valT x) else .none))
theorem ok__law_number(B:Blt mg)(F:Fun K "_law_number" "_law_number" s__law_number f fd):FnOk P w K mg base CX0 1 f fd ["_law_word"] (cnSp K sp__law_number):=by
 refine F.dok sc__law_number (fun ws Q h=>?_) (fun cdv A outer s H ws Q E hr h=>?_)
 ·obtain⟨x,rfl,_⟩:=h
  rfl
 obtain⟨x,rfl,hx,hl,q⟩:=h
 have e0:x=Str.ofString "" ↔ x.length=0:=by
  have h3:(Str.ofString "")=⟨#[]⟩:=by decide +kernel
  rw [h3]
  constructor
  ·intro z;rw [z];rfl
  ·intro z
   cases x with
   | mk a=>exact congrArg Str.mk (Array.eq_empty_of_size_eq_zero z)
 refine⟨_,(dss_cons (ds_if (DWt.dt (dw_or (dt_cmp (o_eq hr) (dv_own 0) (DE.dv de_str) (nomark _)) (dw_or (dt_cmp o_gt (DE.dv (de_callB c_len rfl B.len PySem.boot_len (dav_cons (dv_own 0) dav_nil))) (DE.dv de_int) (nomark _)) (dw_or1 (DWt.dt (dw_and (dt_cmp o_gt (DE.dv (de_callB c_len rfl B.len PySem.boot_len (dav_cons (dv_own 0) dav_nil))) (DE.dv de_int) (nomark _)) (dw_and1 (dt_cmp (o_eq hr) (DE.dv (de_ix (dv_own 0) de_int (fun _ _=>rfl))) (DE.dv de_str) (nomark _))))))))) (dss_one (ds_ret de_non)) dss_nil) (dss_cons (ds_for PassesOwn.never rfl (di_txt (de_var 0)) (dg_name (i:=1) sc__law_number.nd rfl (Or.inl rfl)) (dss_one (ds_if (dt_cmp o_notInT (dv_own 1) (DE.dv de_str) rfl) (dss_one (ds_ret de_non)) dss_nil))) (dss_one (ds_ret (de_callTy c_intT rfl B.intT boot_int (dav_cons (dv_own 0) dav_nil)))))),?_⟩
 refine dseq_by (fun σ=>σ = [some (.val (.str x)),none]/\numG x=x.cps.toList.all dgc) (fun N hN=>?_) ?_
 ·walk_at "ds"
  have no:numG x=false->Q (Ret.val PyData.none):=fun z=>by rw [z] at q;exact q
  by_cases c0:x=Str.ofString ""
  ·rw [if_pos c0]
   have:=e0.mp c0
   exact no (by unfold numG;rw [decide_eq_false (by omega)];rfl)
  rw [if_neg c0]
  have l0:x.length≠0:=fun z=>c0 (e0.mpr z)
  refine⟨by omega,?_⟩
  by_cases c2:(30:Int)<x.length
  ·rw [if_pos c2]
   exact no (by unfold numG;rw [decide_eq_false (show ¬ x.length<=30 by omega),Bool.and_false];rfl)
  rw [if_neg c2]
  have e1:numG x=(x.cps.toList.all dgc && (decide (x=Str.ofString "0") || !decide (x.cps.toList.head?=some 48))):=by unfold numG;rw [decide_eq_true (by omega),decide_eq_true (by omega)];rfl
  refine⟨by omega,?_⟩
  cases hcs:x.cps.toList with
  | nil=>rw [<-len_toList,hcs] at l0;simp at l0
  | cons a cs =>
   have h48:=hd0 hcs
   by_cases c3:(1:Int)<x.length
   ·rw [if_pos c3]
    refine⟨by omega,a,atI_zero _ _,?_⟩
    have nx:¬ x=Str.ofString "0" := fun z=>by
     have:(Str.ofString "0").length=1:=by decide +kernel
     rw [z,this] at c3
     omega
    by_cases c4:({ cps:=#[a] }:Str)=Str.ofString "0"
    ·rw [if_pos c4]
     exact no (by rw [e1,decide_eq_false nx,decide_eq_true (h48.mp c4)];simp)
    ·rw [if_neg c4]
     exact hN _ ⟨rfl,by rw [e1,decide_eq_false (fun z=>c4 (h48.mpr z))];simp⟩
   ·rw [if_neg c3]
    refine hN _ ⟨rfl,?_⟩
    rw [e1]
    by_cases c4:x.cps.toList.head?=some 48
    ·have:x=Str.ofString "0" := by
      have h3:(Str.ofString "0")=⟨#[48]⟩:=by decide +kernel
      rw [hcs] at c4
      have l1:=len_toList x
      rw [hcs,List.length_cons] at l1
      have:cs = []:=List.length_eq_zero_iff.mp (by omega)
      subst this
      cases c4
      rw [h3]
      cases x with
      | mk b=>exact congrArg _ (Array.toList_inj.mp hcs)
     rw [decide_eq_true this]
     simp
    ·rw [decide_eq_false c4]
     simp
 rintro σ ⟨rfl,e1⟩
 walk_at "ds"
 refine⟨hx.all,?_⟩
 rw [e1] at q
 refine forD_suf (fun ds σ=>∃(cs:List Nat) (u:Option W),ds=cs.map (fun c=>PyData.str ⟨#[c]⟩)/\(∀ c∈cs,c<128)/\x.cps.toList.all dgc=cs.all dgc/\σ = [some (.val (.str x)),u]) ?_ ?_ ⟨x.cps.toList,none,rfl,hx,rfl,rfl⟩
 ·rintro d ds σ N ⟨cs,u,e,h1,h2,rfl⟩ k
  cases cs with
  | nil=>cases e
  | cons c cs =>
   cases e
   walk_at "ds"
   rw [dig_is (h1 c List.mem_cons_self)]
   cases hc:dgc c with
   | false =>
    rw [h2,List.all_cons,hc] at q
    exact q
   | true=>exact k _ ⟨cs,_,rfl,fun c hc=>h1 c (List.mem_cons_of_mem _ hc),by rw [h2,List.all_cons,hc];rfl,rfl⟩
 ·rintro σ ⟨cs,u,e,h1,h2,rfl⟩
  cases cs with
  | cons c cs=>cases e
  | nil =>
   walk_at "ds"
   rw [h2] at q e1
   obtain⟨h3,h4,_⟩:=num_rd e1
   exact⟨_,h3,by omega,q⟩
end
section
variable {P:Program}{w:World}{K:PySem.W.Frag}{mg:Str->Option Value}{base:Heap}{f:Addr}{fd:FuncData}
def pD(r:Int×Int):D:=.tuple [.int r.1,.int r.2]
def whB:D->Bool
 | .int _=>true
 | _=>false
def inB(lo hi:Int):D->Bool
 | .int i=>decide (lo<=i/\i<=hi)
 | _=>false
def sp_is_whole:DSp:=fun ws Q=>∃ d:D,ws = [.val d]/\Q (.val (.bool (whB d)))
theorem ok_is_whole(B:Blt mg)(F:Fun K "is_whole" "is_whole" s_is_whole f fd):FnOk P w K mg base CX0 1 f fd ["thing"] (cnSp K sp_is_whole):=by
 refine F.dok sc_is_whole (fun ws Q h=>?_) (fun cdv A outer s H ws Q E hr h=>?_)
 ·obtain⟨d,rfl,_⟩:=h
  rfl
 obtain⟨d,rfl,q⟩:=h
 refine⟨_,(dss_one (ds_ret (de_and (de_isT (n := "int") k_int rfl B.isinstance boot_isinstance (dv_own 0) rfl B.intT boot_int) (de_one (de_not (de_isT (n := "bool") k_bool rfl B.isinstance boot_isinstance (dv_own 0) rfl B.boolT boot_bool)))))),?_⟩
 walk_at "ds"
 cases d <;> exact q
def sp_whole_in:DSp:=fun ws Q=>∃(d:D) (lo hi:Int),ws = [.val d,.val (.int lo),.val (.int hi)]/\Q (.val (.bool (inB lo hi d)))
theorem ok_whole_in(B:Blt mg)(F:Fun K "whole_in" "whole_in" s_whole_in f fd)(C_is_whole:Cal P w K mg base 1 "is_whole" ["thing"] (cnSp K sp_is_whole)):FnOk P w K mg base CX0 2 f fd ["thing", "least", "most"] (cnSp K sp_whole_in):=by
 refine F.dok sc_whole_in (fun ws Q h=>?_) (fun cdv A outer s H ws Q E hr h=>?_)
 ·obtain⟨d,lo,hi,rfl,_⟩:=h
  rfl
 obtain⟨d,lo,hi,rfl,q⟩:=h
 refine⟨_,(dss_one (ds_ret (de_and (de_call C_is_whole hr rfl (dp_vw 0 dp_nil)) (de_one (de_chain o_le o_le (dv_own 1) (dv_own 0) (dv_own 2)))))),?_⟩
 walk_at "ds"
 refine⟨d,rfl,?_⟩
 cases d with
 | int i =>
  simp only [whB]
  walk_at "ds"
  split
  ·next c=>simpa [inB,c] using q
  ·next c=>simpa [inB,c] using q
 | _=>simp only [whB];walk_at "ds";exact q
def wholesB(bs:List (Int×Int)):D->Bool
 | .tuple xs=>decide (xs.length=bs.length) && (xs.zip bs).all fun p=>inB p.2.1 p.2.2 p.1
 | _=>false
theorem zipD_map:∀(xs:List D) (bs:List (Int×Int)),zipD xs (bs.map pD)=(xs.zip bs).map fun p=>PyData.tuple [p.1,pD p.2]
 | [],_=>by simp [zipD]
 | _::_,[]=>by simp [zipD]
 | x::xs,b::bs=>by
  have:=zipD_map xs bs
  simp only [zipD] at this
  simp [zipD,this]
def sp_wholes_in:DSp:=fun ws Q=>∃(d:D) (bs:List (Int×Int)),ws = [.val d,.val (.tuple (bs.map pD))]/\bs.length<=1000/\Q (.val (.bool (wholesB bs d)))
theorem ok_wholes_in(B:Blt mg)(F:Fun K "wholes_in" "wholes_in" s_wholes_in f fd)(C_whole_in:Cal P w K mg base 2 "whole_in" ["thing", "least", "most"] (cnSp K sp_whole_in)):FnOk P w K mg base CX0 3 f fd ["thing", "bounds"] (cnSp K sp_wholes_in):=by
 refine F.dok sc_wholes_in (fun ws Q h=>?_) (fun cdv A outer s H ws Q E hr h=>?_)
 ·obtain⟨d,bs,rfl,_⟩:=h
  rfl
 obtain⟨d,bs,rfl,hl,q⟩:=h
 refine⟨_,(dss_cons (ds_if (DWt.dt (dw_or (dt_not (dt_tru (DE.dv (de_isT (n := "tuple") k_tuple rfl B.isinstance boot_isinstance (dv_own 0) rfl B.tupleT boot_tuple)))) (dw_or1 (dt_cmp (o_ne hr) (DE.dv (de_callB c_len rfl B.len PySem.boot_len (dav_cons (dv_own 0) dav_nil))) (DE.dv (de_callB c_len rfl B.len PySem.boot_len (dav_cons (dv_own 1) dav_nil))) (nomark _))))) (dss_one (ds_ret de_bl)) dss_nil) (dss_one (ds_ret (de_callB (c_all rfl) rfl B.all boot_all (dav_cons (DE.dv (DF.de (df_lc rfl (N':=["number", "least", "most"]) (capt:=[]) (k:=3) (js:=[]) ⟨rfl,by decide,rfl,by decide,.nil,rfl,.nil,rfl,by decide⟩ (diw_zip rfl B.zip (dav_cons (dv_own 0) (dav_cons (dv_own 1) dav_nil))) (fun _ _ _ _=>(dg_seq (n:=2) rfl (dgs_cons (dg_name (i:=0) (show List.Nodup (["number", "least", "most"]:List Str) by decide +kernel) rfl (Or.inl rfl) (Or.inr rfl)) (dgs_cons (dg_seq (n:=2) rfl (dgs_cons (dg_name (i:=1) (show List.Nodup (["number", "least", "most"]:List Str) by decide +kernel) rfl (Or.inl rfl) (Or.inr rfl)) (dgs_cons (dg_name (i:=2) (show List.Nodup (["number", "least", "most"]:List Str) by decide +kernel) rfl (Or.inl rfl) (Or.inr rfl)) dgs_nil))) dgs_nil)))) (fun _ _ _ _=>dts_nil) (fun _ _ _ _=>(de_call C_whole_in hr rfl (dp_vw 0 (dp_vw 1 (dp_vw 2 dp_nil)))))))) dav_nil))))),?_⟩
 cases d with
 | tuple xs =>
  walk_at "ds"
  rw [List.length_map,zipD_map]
  simp only [wholesB] at q
  by_cases c:xs.length=bs.length
  ·rw [if_neg (fun z=>z (by rw [c]))]
   rw [decide_eq_true c,Bool.true_and] at q
   refine⟨by rw [List.length_map,List.length_zip];omega,lcD_mapT _ (fun p:D×(Int×Int)=>.bool (inB p.2.1 p.2.2 p.1)) (fun p hp k hk=>?_) ⟨(xs.zip bs).map fun p=>inB p.2.1 p.2.2 p.1,?_,?_⟩⟩
   ·simp only [pD]
    walk_at "ds"
    exact⟨p.1,p.2.1,p.2.2,rfl,hk⟩
   ·have:=boolsD_map ((xs.zip bs).map fun p=>inB p.2.1 p.2.2 p.1)
    rw [List.map_map] at this
    exact this
   ·rw [List.all_map]
    exact q
  ·rw [if_pos (fun z=>c (by omega))]
   rw [decide_eq_false c,Bool.false_and] at q
   exact q
 | _=>walk_at "ds";exact q
def gB:List (Int×Int):=[(1,1000),(1,10),(0,1000),(1,1000)]
def sp_gaps_good:DSp:=fun ws Q=>∃(d:D),ws = [.val d]/\Q (.val (.bool (wholesB gB d)))
theorem ok_gaps_good(B:Blt mg)(F:Fun K "gaps_good" "gaps_good" s_gaps_good f fd){ga_GAPS_BOUNDS:Addr}(G_GAPS_BOUNDS:mg "GAPS_BOUNDS" = some (.ref ga_GAPS_BOUNDS))(N_GAPS_BOUNDS:∀ H,Rep K H (.tuple [(.tuple [(.int 1),(.int 1000)]),(.tuple [(.int 1),(.int 10)]),(.tuple [(.int 0),(.int 1000)]),(.tuple [(.int 1),(.int 1000)])]) (.ref ga_GAPS_BOUNDS))(C_wholes_in:Cal P w K mg base 3 "wholes_in" ["thing", "bounds"] (cnSp K sp_wholes_in)):FnOk P w K mg base CX0 4 f fd ["thing"] (cnSp K sp_gaps_good):=by
 refine F.dok sc_gaps_good (fun ws Q h=>?_) (fun cdv A outer s H ws Q E hr h=>?_)
 ·obtain⟨d,rfl,_⟩:=h
  rfl
 obtain⟨d,rfl,q⟩:=h
 refine⟨_,(dss_one (ds_ret (de_call C_wholes_in hr rfl (dp_vw 0 (dp_val (de_glob (v:=.ref _) rfl G_GAPS_BOUNDS rfl N_GAPS_BOUNDS) dp_nil))))),?_⟩
 walk_at "ds"
 exact⟨d,gB,rfl,by decide,q⟩
def planB(t:Int):D->Bool
 | .tuple [a,b,c]=>wholesB gB a && (inB 1 200 b && inB 0 t c)
 | _=>false
theorem tup3{xs:List D}:(∃ a b c,xs = [a,b,c])\/(¬ xs.length=3):=by
 match xs with
 | []=>exact .inr (by decide)
 | [_]=>exact .inr (by simp)
 | [_,_]=>exact .inr (by simp)
 | [a,b,c]=>exact .inl ⟨a,b,c,rfl⟩
 | _::_::_::_::_=>exact .inr (by simp)
theorem planB_no{t:Int}{xs:List D}(h:¬ xs.length=3):planB t (.tuple xs)=false:=by
 match xs,h with
 | [],_=>rfl
 | [_],_=>rfl
 | [_,_],_=>rfl
 | [_,_,_],h=>exact absurd rfl h
 | _::_::_::_::_,_=>rfl
def sp_plan_good:DSp:=fun ws Q=>∃(d:D),ws = [.val d]/\Q (.val (.bool (planB 400000 d)))
theorem ok_plan_good(B:Blt mg)(F:Fun K "plan_good" "plan_good" s_plan_good f fd){t_MOST_KNOCKS:Tok}(G_MOST_KNOCKS:mg "MOST_KNOCKS" = some (.int 200 t_MOST_KNOCKS)){t_MOST_TIME_asking:Tok}(G_MOST_TIME_asking:mg "MOST_TIME_asking" = some (.int 400000 t_MOST_TIME_asking))(C_whole_in:Cal P w K mg base 2 "whole_in" ["thing", "least", "most"] (cnSp K sp_whole_in))(C_gaps_good:Cal P w K mg base 4 "gaps_good" ["thing"] (cnSp K sp_gaps_good)):FnOk P w K mg base CX0 5 f fd ["thing"] (cnSp K sp_plan_good):=by
 refine F.dok sc_plan_good (fun ws Q h=>?_) (fun cdv A outer s H ws Q E hr h=>?_)
 ·obtain⟨d,rfl,_⟩:=h
  rfl
 obtain⟨d,rfl,q⟩:=h
 refine⟨_,(dss_cons (ds_if (DWt.dt (dw_or (dt_not (dt_tru (DE.dv (de_isT (n := "tuple") k_tuple rfl B.isinstance boot_isinstance (dv_own 0) rfl B.tupleT boot_tuple)))) (dw_or1 (dt_cmp (o_ne hr) (DE.dv (de_callB c_len rfl B.len PySem.boot_len (dav_cons (dv_own 0) dav_nil))) (DE.dv de_int) (nomark _))))) (dss_one (ds_ret de_bl)) dss_nil) (dss_cons (ds_asg (de_var 0) (dg_seq (n:=3) rfl (dgs_cons (dg_name (i:=1) sc_plan_good.nd rfl (Or.inl rfl)) (dgs_cons (dg_name (i:=2) sc_plan_good.nd rfl (Or.inl rfl)) (dgs_cons (dg_name (i:=3) sc_plan_good.nd rfl (Or.inl rfl)) dgs_nil))))) (dss_one (ds_ret (de_and (de_call C_gaps_good hr rfl (dp_vw 1 dp_nil)) (de_and (de_call C_whole_in hr rfl (dp_vw 2 (dp_val de_int (dp_val (de_glob (d:=.int 200) (v:=.int 200) rfl G_MOST_KNOCKS ⟨_,rfl⟩ (fun _=>.int)) dp_nil) sE_C))) (de_one (de_call C_whole_in hr rfl (dp_vw 3 (dp_val de_int (dp_val (de_glob (d:=.int 400000) (v:=.int 400000) rfl G_MOST_TIME_asking ⟨_,rfl⟩ (fun _=>.int)) dp_nil) sE_C)))))))))),?_⟩
 cases d with
 | tuple xs =>
  rcases tup3 (xs:=xs) with⟨a,b,c,rfl⟩ | h3
  ·walk_at "ds"
   rw [if_neg (by simp)]
   refine⟨a,rfl,?_⟩
   simp only [planB] at q
   cases e1:wholesB gB a with
   | false=>rw [e1] at q;walk_at "ds";exact q
   | true =>
    rw [e1] at q
    walk_at "ds"
    refine⟨b,1,200,rfl,?_⟩
    cases e2:inB 1 200 b with
    | false=>rw [e2] at q;walk_at "ds";exact q
    | true =>
     rw [e2] at q
     walk_at "ds"
     exact⟨c,0,400000,rfl,q⟩
  ·walk_at "ds"
   rw [if_pos (fun z=>h3 (by omega))]
   rw [planB_no h3] at q
   exact q
 | _=>walk_at "ds";exact q
def tB:List (Int×Int):=[(1,20),(1,1000),(1,10),(1,1000),(1,10)]
def uB:List (Int×Int):=[(0,1000),(1,1000),(0,10000),(0,10000)]
theorem inB_int{lo hi:Int}{d:D}(h:inB lo hi d=true):∃ i,d=.int i:=by
 cases d with
 | int i=>exact⟨i,rfl⟩
 | _=>cases h
theorem wholes5{d:D}(h:wholesB tB d=true):∃ a b c e f:Int,d=.tuple [.int a,.int b,.int c,.int e,.int f]:=by
 cases d with
 | tuple xs =>
  match xs with
  | [v,w,x,y,z] =>
   simp only [wholesB,tB,List.zip_cons_cons,List.zip_nil_right,List.all_cons,List.all_nil,Bool.and_true,Bool.and_eq_true,decide_eq_true_eq] at h
   obtain⟨_,h1,h2,h3,h4,h5⟩:=h
   obtain⟨a,rfl⟩:=inB_int h1
   obtain⟨b,rfl⟩:=inB_int h2
   obtain⟨c,rfl⟩:=inB_int h3
   obtain⟨e,rfl⟩:=inB_int h4
   obtain⟨f,rfl⟩:=inB_int h5
   exact⟨a,b,c,e,f,rfl⟩
  | []=>cases h
  | [_]=>cases h
  | [_,_]=>cases h
  | [_,_,_]=>cases h
  | [_,_,_,_]=>cases h
  | _::_::_::_::_::_::_=>simp [wholesB,tB] at h
 | _=>cases h
theorem wholes4{d:D}(h:wholesB uB d=true):∃ a b c e:Int,d=.tuple [.int a,.int b,.int c,.int e]:=by
 cases d with
 | tuple xs =>
  match xs with
  | [v,w,x,y] =>
   simp only [wholesB,uB,List.zip_cons_cons,List.zip_nil_right,List.all_cons,List.all_nil,Bool.and_true,Bool.and_eq_true,decide_eq_true_eq] at h
   obtain⟨_,h1,h2,h3,h4⟩:=h
   obtain⟨a,rfl⟩:=inB_int h1
   obtain⟨b,rfl⟩:=inB_int h2
   obtain⟨c,rfl⟩:=inB_int h3
   obtain⟨e,rfl⟩:=inB_int h4
   exact⟨a,b,c,e,rfl⟩
  | []=>cases h
  | [_]=>cases h
  | [_,_]=>cases h
  | [_,_,_]=>cases h
  | _::_::_::_::_::_=>simp [wholesB,uB] at h
 | _=>cases h
def gateB(d:D):Bool:=wholesB tB d && match d with
 | .tuple [_,.int b,_,.int e,_]=>decide (b<=e)
 | _=>false
def purseB(d:D):Bool:=wholesB uB d && match d with
 | .tuple [_,_,.int c,.int e]=>decide (e<=c)
 | _=>false
def sp_gate_good:DSp:=fun ws Q=>∃(d:D),ws = [.val d]/\Q (.val (.bool (gateB d)))
theorem ok_gate_good(B:Blt mg)(F:Fun K "gate_good" "gate_good" s_gate_good f fd){ga_GATE_BOUNDS:Addr}(G_GATE_BOUNDS:mg "GATE_BOUNDS" = some (.ref ga_GATE_BOUNDS))(N_GATE_BOUNDS:∀ H,Rep K H (.tuple [(.tuple [(.int 1),(.int 20)]),(.tuple [(.int 1),(.int 1000)]),(.tuple [(.int 1),(.int 10)]),(.tuple [(.int 1),(.int 1000)]),(.tuple [(.int 1),(.int 10)])]) (.ref ga_GATE_BOUNDS))(C_wholes_in:Cal P w K mg base 3 "wholes_in" ["thing", "bounds"] (cnSp K sp_wholes_in)):FnOk P w K mg base CX0 4 f fd ["thing"] (cnSp K sp_gate_good):=by
 refine F.dok sc_gate_good (fun ws Q h=>?_) (fun cdv A outer s H ws Q E hr h=>?_)
 ·obtain⟨d,rfl,_⟩:=h
  rfl
 obtain⟨d,rfl,q⟩:=h
 refine⟨_,(dss_one (ds_ret (de_and (de_call C_wholes_in hr rfl (dp_vw 0 (dp_val (de_glob (v:=.ref _) rfl G_GATE_BOUNDS rfl N_GATE_BOUNDS) dp_nil))) (de_one (de_cmp o_le (DE.dv (de_ix (dv_own 0) de_int (fun _ _=>rfl))) (DE.dv (de_ix (dv_own 0) de_int (fun _ _=>rfl))) (nomark _)))))),?_⟩
 walk_at "ds"
 refine⟨d,tB,rfl,by decide,?_⟩
 unfold gateB at q
 cases e:wholesB tB d with
 | false=>rw [e] at q;walk_at "ds";exact q
 | true =>
  obtain⟨a,b,c,e',f,rfl⟩:=wholes5 e
  rw [e] at q
  walk_at "ds"
  refine⟨_,atI_one _ _ _,_,atI_three _ _ _ _ _,?_⟩
  exact q
def sp_purse_good:DSp:=fun ws Q=>∃(d:D),ws = [.val d]/\Q (.val (.bool (purseB d)))
theorem ok_purse_good(B:Blt mg)(F:Fun K "purse_good" "purse_good" s_purse_good f fd){ga_PURSE_BOUNDS:Addr}(G_PURSE_BOUNDS:mg "PURSE_BOUNDS" = some (.ref ga_PURSE_BOUNDS))(N_PURSE_BOUNDS:∀ H,Rep K H (.tuple [(.tuple [(.int 0),(.int 1000)]),(.tuple [(.int 1),(.int 1000)]),(.tuple [(.int 0),(.int 10000)]),(.tuple [(.int 0),(.int 10000)])]) (.ref ga_PURSE_BOUNDS))(C_wholes_in:Cal P w K mg base 3 "wholes_in" ["thing", "bounds"] (cnSp K sp_wholes_in)):FnOk P w K mg base CX0 4 f fd ["thing"] (cnSp K sp_purse_good):=by
 refine F.dok sc_purse_good (fun ws Q h=>?_) (fun cdv A outer s H ws Q E hr h=>?_)
 ·obtain⟨d,rfl,_⟩:=h
  rfl
 obtain⟨d,rfl,q⟩:=h
 refine⟨_,(dss_one (ds_ret (de_and (de_call C_wholes_in hr rfl (dp_vw 0 (dp_val (de_glob (v:=.ref _) rfl G_PURSE_BOUNDS rfl N_PURSE_BOUNDS) dp_nil))) (de_one (de_cmp o_le (DE.dv (de_ix (dv_own 0) de_int (fun _ _=>rfl))) (DE.dv (de_ix (dv_own 0) de_int (fun _ _=>rfl))) (nomark _)))))),?_⟩
 walk_at "ds"
 refine⟨d,uB,rfl,by decide,?_⟩
 unfold purseB at q
 cases e:wholesB uB d with
 | false=>rw [e] at q;walk_at "ds";exact q
 | true =>
  obtain⟨a,b,c,e',rfl⟩:=wholes4 e
  rw [e] at q
  walk_at "ds"
  refine⟨_,atI_three _ _ _ _ _,_,atI_two _ _ _ _,?_⟩
  exact q
theorem planB_cut:∀{d:D},planB 400000 d=true->∃ a b i,d=.tuple [a,b,.int i]/\planB 1000 d=decide (i<=1000):=by
 intro d h
 cases d with
 | tuple xs =>
  rcases tup3 (xs:=xs) with⟨a,b,c,rfl⟩ | h3
  ·simp only [planB,Bool.and_eq_true] at h
   obtain⟨h1,h2,h3⟩:=h
   obtain⟨i,rfl⟩:=inB_int h3
   refine⟨a,b,i,rfl,?_⟩
   simp only [planB,h1,h2,Bool.true_and]
   simp only [inB,decide_eq_true_eq] at h3 ⊢
   by_cases c:i<=1000
   ·rw [decide_eq_true c];exact decide_eq_true ⟨h3.1,c⟩
   ·rw [decide_eq_false c];exact decide_eq_false fun z=>c z.2
  ·rw [planB_no h3] at h;cases h
 | _=>cases h
theorem planB_sub{d:D}(h:planB 400000 d=false):planB 1000 d=false:=by
 cases d with
 | tuple xs =>
  rcases tup3 (xs:=xs) with⟨a,b,c,rfl⟩ | h3
  ·simp only [planB] at h ⊢
   cases e1:wholesB gB a with
   | false=>rfl
   | true =>
    cases e2:inB 1 200 b with
    | false=>rfl
    | true =>
     rw [e1,e2] at h
     simp only [Bool.true_and] at h ⊢
     cases c with
     | int i =>
      simp only [inB] at h ⊢
      have:=of_decide_eq_false h
      exact decide_eq_false (by omega)
     | _=>rfl
  ·exact planB_no h3
 | _=>rfl
def sp_caller_plan_good:DSp:=fun ws Q=>∃(d:D),ws = [.val d]/\Q (.val (.bool (planB 1000 d)))
theorem ok_caller_plan_good(B:Blt mg)(F:Fun K "caller_plan_good" "caller_plan_good" s_caller_plan_good f fd){t_MOST_TIME_callers:Tok}(G_MOST_TIME_callers:mg "MOST_TIME_callers" = some (.int 1000 t_MOST_TIME_callers))(C_plan_good:Cal P w K mg base 5 "plan_good" ["thing"] (cnSp K sp_plan_good)):FnOk P w K mg base CX0 6 f fd ["thing"] (cnSp K sp_caller_plan_good):=by
 refine F.dok sc_caller_plan_good (fun ws Q h=>?_) (fun cdv A outer s H ws Q E hr h=>?_)
 ·obtain⟨d,rfl,_⟩:=h
  rfl
 obtain⟨d,rfl,q⟩:=h
 refine⟨_,(dss_one (ds_ret (de_and (de_call C_plan_good hr rfl (dp_vw 0 dp_nil)) (de_one (de_cmp o_le (DE.dv (de_ix (dv_own 0) de_int (fun _ _=>rfl))) (DE.dv (de_glob (d:=.int 1000) (v:=.int 1000) rfl G_MOST_TIME_callers ⟨_,rfl⟩ (fun _=>.int))) (nomark _)))))),?_⟩
 walk_at "ds"
 refine⟨d,rfl,?_⟩
 cases e:planB 400000 d with
 | false=>rw [planB_sub e] at q;walk_at "ds";exact q
 | true =>
  obtain⟨a,b,i,rfl,e2⟩:=planB_cut e
  rw [e2] at q
  walk_at "ds"
  exact⟨_,atI_two _ _ _ _,q⟩
end
section
variable {P:Program}{w:World}{K:PySem.W.Frag}{mg:Str->Option Value}{base:Heap}{f:Addr}{fd:FuncData}
theorem joinL_mem{c:Nat}:∀{xs:List (List Nat)} {x:List Nat},x∈xs->(∀ a∈x,a∈joinL c xs)/\x.length<=(joinL c xs).length
 | [y],x,h=>by
  rcases List.mem_cons.mp h with rfl | h
  ·exact⟨fun a h=>h,Nat.le_refl _⟩
  ·cases h
 | y::z::r,x,h=>by
  rw [joinL]
  rcases List.mem_cons.mp h with rfl | h
  ·exact⟨fun a h=>List.mem_append_left _ h,by rw [List.length_append];omega⟩
  ·have:=joinL_mem (c:=c) h
   exact⟨fun a h=>List.mem_append_right _ (List.mem_cons_of_mem _ (this.1 a h)),by rw [List.length_append,List.length_cons];omega⟩
theorem joinL_cnt(c:Nat):∀ xs:List (List Nat),xs.length<=(joinL c xs).length+1
 | []=>by simp
 | [y]=>by simp
 | y::z::r=>by
  have:=joinL_cnt c (z::r)
  rw [joinL]
  simp only [List.length_append,List.length_cons] at this ⊢
  omega
theorem split_pt(x:Str)(c:Nat):(∀ y∈Txt.split x ⟨#[c]⟩,(As x->As y)/\y.length<=x.length)/\(Txt.split x ⟨#[c]⟩).length<=x.length+1:=by
 have h1:=StrLaws.join_split x ⟨#[c]⟩
 have h3:=join_list c (Txt.split x ⟨#[c]⟩)
 rw [h1] at h3
 refine⟨fun y hy=>?_,?_⟩
 ·have:=joinL_mem (c:=c) (List.mem_map.mpr ⟨y,hy,rfl⟩:y.cps.toList∈(Txt.split x ⟨#[c]⟩).map fun x=>x.cps.toList)
  rw [<-h3] at this
  exact⟨fun h a ha=>h a (this.1 a ha),by rw [<-len_toList,<-len_toList];exact this.2⟩
 ·have:=joinL_cnt c ((Txt.split x ⟨#[c]⟩).map fun x=>x.cps.toList)
  rw [<-h3,List.length_map,len_toList] at this
  exact this
theorem sp_is:Str.ofString " " = ⟨#[32]⟩:=by decide +kernel
theorem parts_le(x y:Str):(Builtin.Str.partsBetween x (Builtin.Str.occurrences x y 0 x.length (x.length+1)) y.length).length<=x.length+2:=by
 rw [length_partsBetween]
 have:=StrLaws.occ_length_le x y 0 x.length (x.length+1)
 omega
def Tx(n:Nat)(x:Str):Prop:=x.length<=n/\As x
theorem nl_is:Str.ofString "\n" = ⟨#[10]⟩:=by decide +kernel
def rowR(rows:List Str)(k:Nat)(w:Str):List Int:=match rows[k]? with
 | none=>[]
 | some r=>match Txt.split r (Str.ofString " ") with
  | []=>[]
  | a::rest=>if a=w then nosL rest else []
def sp_row_read:DSp:=fun ws Q=>∃(rows:List Str) (k:Nat) (w:Str),ws = [.val (.list (rows.map PyData.str)),.val (.int ((k:Int)+1)),.val (.str w)]/\(∀ x∈rows,Tx 10000 x)/\Q (.val (tD (rowR rows k w)))
theorem ok_row_read(B:Blt mg)(F:Fun K "row_read" "row_read" s_row_read f fd)(C_numbers_of:Cal P w K mg base 2 "numbers_of" ["words"] (cnSp K sp_numbers_of)):FnOk P w K mg base CX0 3 f fd ["rows", "number", "word"] (cnSp K sp_row_read):=by
 refine F.dok sc_row_read (fun ws Q h=>?_) (fun cdv A outer s H ws Q E hr h=>?_)
 ·obtain⟨rows,k,w,rfl,_⟩:=h
  rfl
 obtain⟨rows,k,w,rfl,hx,q⟩:=h
 refine⟨_,(dss_cons (ds_if (dt_cmp o_gt (dv_own 1) (DE.dv (de_callB c_len rfl B.len PySem.boot_len (dav_cons (dv_own 0) dav_nil))) (nomark _)) (dss_one (ds_ret (de_tup da_nil))) dss_nil) (dss_cons (ds_star1 (i:=3) (j:=4) rfl sc_row_read.nd rfl rfl (Or.inl rfl) (Or.inl rfl) (DF.de (df_tsplit (de_ix (dv_own 0) (de_op o_sub (dv_own 1) (DE.dv de_int)) (fun _ _=>rfl)) de_str))) (dss_cons (ds_if (dt_cmp (o_ne hr) (dv_own 3) (dv_own 2) (nomark _)) (dss_one (ds_ret (de_tup da_nil))) dss_nil) (dss_one (ds_ret (de_call C_numbers_of hr rfl (dp_vw 4 dp_nil))))))),?_⟩
 walk_at "ds"
 rw [List.length_map]
 unfold rowR at q
 by_cases c:(rows.length:Int)<(k:Int)+1
 ·rw [if_pos c]
  rw [List.getElem?_eq_none (by omega)] at q
  exact q
 rw [if_neg c]
 have hk:k<rows.length:=by omega
 have er:rows[k]?=some rows[k]:=List.getElem?_eq_getElem hk
 rw [er] at q
 have hr2:=hx _ (List.getElem_mem hk)
 generalize rows[k]=x at q er hr2
 obtain⟨hl,ha⟩:=hr2
 have ha2:atI (rows.map PyData.str) ((k:Int)+1-1)=some (.str x):=by
  rw [Int.add_sub_cancel]
  exact atI_nat (by rw [List.getElem?_map,er];rfl)
 refine⟨_,ha2,?_⟩
 walk_at "ds"
 have pt:=parts_le x (Str.ofString " ")
 have st:=split_pt x 32
 rw [<-sp_is] at st
 refine⟨by decide +kernel,by omega,by omega,by omega,?_⟩
 cases es:Txt.split x (Str.ofString " ") with
 | nil=>exact absurd es (by rw [sp_is];exact split_ne x 32)
 | cons a rest =>
  dsimp only at q
  rw [es] at q st
  rw [List.length_cons] at st
  have st1:∀ y∈rest,As y/\y.length<=100000:=fun y hy=>by
   have:=st.1 y (List.mem_cons_of_mem _ hy)
   exact⟨this.1 ha,by omega⟩
  simp only [List.map_cons]
  walk_at "ds"
  rw [List.length_map]
  refine⟨by omega,?_⟩
  by_cases c2:a=w
  ·rw [if_neg (not_not_intro c2)]
   simp only [if_pos c2] at q
   exact⟨rest,rfl,by omega,st1,q⟩
  ·rw [if_pos c2]
   simp only [if_neg c2] at q
   exact q
theorem rowR_len{rows:List Str}(hx:∀ x∈rows,Tx 10000 x)(k:Nat)(w:Str):(rowR rows k w).length<=10001:=by
 unfold rowR
 split
 ·simp
 ·next r e =>
  have hr2:=hx r (List.mem_of_getElem? e)
  have st:=split_pt r 32
  rw [<-sp_is] at st
  split
  ·simp
  ·next a rest es =>
   rw [es,List.length_cons] at st
   have:=hr2.1
   split
   ·unfold nosL
    split
    ·rw [List.length_map];omega
    ·simp
   ·simp
def gC(rows:List Str):D:=tD (rowR rows 0 (Str.ofString "gaps"))
def pC(rows:List Str):D:=.tuple (gC rows::(rowR rows 1 (Str.ofString "plan")).map PyData.int)
def uC(rows:List Str):D:=tD (rowR rows 2 (Str.ofString "purse"))
def tC(rows:List Str):D:=tD (rowR rows 3 (Str.ofString "gate"))
def okC(rows:List Str):List Bool:=[wholesB gB (gC rows),planB 1000 (pC rows),purseB (uC rows),gateB (tC rows),decide (((rows.map PyData.str).length:Int)=4)]
def sp_caller_read:DSpX:=fun ws Q ex=>∃ d:D,ws = [.val d]/\((∀ x,d ≠ .str x)->ex ("NoText",[("row",0)]))/\∀ x,d=.str x->Tx 10000 x/\(∀ i:Nat,(okC (Txt.split x (Str.ofString "\n"))).findIdx? (! ·)=some i->ex ("NoText",[("row",(i:Int)+1)])) /\
 ((okC (Txt.split x (Str.ofString "\n"))).findIdx? (! ·)=none->Q (.val (.tuple [pC (Txt.split x (Str.ofString "\n")),uC (Txt.split x (Str.ofString "\n")),tC (Txt.split x (Str.ofString "\n"))])))
theorem ok_caller_read(B:Blt mg)(F:Fun K "caller_read" "caller_read" s_caller_read f fd){t_GAPS:Tok}(G_GAPS:mg "GAPS" = some (.str "gaps" t_GAPS)){t_PURSE:Tok}(G_PURSE:mg "PURSE" = some (.str "purse" t_PURSE)){t_GATE:Tok}(G_GATE:mg "GATE" = some (.str "gate" t_GATE)){t_PLAN:Tok}(G_PLAN:mg "PLAN" = some (.str "plan" t_PLAN)){t_MOST_ROWS:Tok}(G_MOST_ROWS:mg "MOST_ROWS" = some (.int 4 t_MOST_ROWS))(XF:Xf K mg)(R_NoText:FldCls P w K mg base "NoText" ["row"])(C_gaps_good:Cal P w K mg base 4 "gaps_good" ["thing"] (cnSp K sp_gaps_good))(C_gate_good:Cal P w K mg base 4 "gate_good" ["thing"] (cnSp K sp_gate_good))(C_purse_good:Cal P w K mg base 4 "purse_good" ["thing"] (cnSp K sp_purse_good))(C_caller_plan_good:Cal P w K mg base 6 "caller_plan_good" ["thing"] (cnSp K sp_caller_plan_good))(C_row_read:Cal P w K mg base 3 "row_read" ["rows", "number", "word"] (cnSp K sp_row_read)):FnOk P w K mg base (CXk P w) 9 f fd ["text"] (cnSpX K sp_caller_read):=by
 refine F.dokX sc_caller_read (fun ws Q ex h=>?_) (fun cdv A outer s H ws Q ex E hr h hE=>?_)
 ·obtain⟨d,rfl,_⟩:=h
  rfl
 obtain⟨d,rfl,q0,q⟩:=h
 obtain⟨cx_NoText,fx_NoText,ox_NoText,sx_NoText,tx_NoText,mx_NoText,nx_NoText,xc_NoText,io_NoText,gi_NoText⟩:=R_NoText;refine⟨_,(dsxs_cons (dsx_if (dt_not (dt_tru (DE.dv (de_isT (n := "str") k_str rfl B.isinstance boot_isinstance (dv_own 0) rfl B.strT boot_str)))) (dsxs_one (dsx_raiseF (k:=1) hE hr.hd (hr.mono (by decide)) rfl mx_NoText nx_NoText xc_NoText io_NoText gi_NoText rfl (by decide) (da_cons de_int da_nil sE_C))) dsxs_nil) (dsxs_cons (dsx_of (ds_set (i:=1) sc_caller_read.nd rfl (Or.inl rfl) (DF.de (df_tsplit (de_var 0) de_str)))) (dsxs_cons (dsx_of (ds_set (i:=2) sc_caller_read.nd rfl (Or.inl rfl) (de_call C_row_read hr rfl (dp_vw 1 (dp_val de_int (dp_val (de_glob (d:=.str "gaps") (v:=.str "gaps") rfl G_GAPS ⟨_,rfl⟩ (fun _=>.str)) dp_nil) sE_C))))) (dsxs_cons (dsx_of (ds_set (i:=3) sc_caller_read.nd rfl (Or.inl rfl) (de_op o_add (DE.dv (de_tup (da_cons (de_var 2) da_nil))) (DE.dv (de_call C_row_read hr rfl (dp_vw 1 (dp_val de_int (dp_val (de_glob (d:=.str "plan") (v:=.str "plan") rfl G_PLAN ⟨_,rfl⟩ (fun _=>.str)) dp_nil) sE_C))))))) (dsxs_cons (dsx_of (ds_set (i:=4) sc_caller_read.nd rfl (Or.inl rfl) (de_call C_row_read hr rfl (dp_vw 1 (dp_val de_int (dp_val (de_glob (d:=.str "purse") (v:=.str "purse") rfl G_PURSE ⟨_,rfl⟩ (fun _=>.str)) dp_nil) sE_C))))) (dsxs_cons (dsx_of (ds_set (i:=5) sc_caller_read.nd rfl (Or.inl rfl) (de_call C_row_read hr rfl (dp_vw 1 (dp_val de_int (dp_val (de_glob (d:=.str "gate") (v:=.str "gate") rfl G_GATE ⟨_,rfl⟩ (fun _=>.str)) dp_nil) sE_C))))) (dsxs_cons (dsx_of (ds_set (i:=6) sc_caller_read.nd rfl (Or.inl rfl) (DF.de (df_lst (da_cons (de_call C_gaps_good hr rfl (dp_vw 2 dp_nil)) (da_cons (de_call C_caller_plan_good hr rfl (dp_vw 3 dp_nil)) (da_cons (de_call C_purse_good hr rfl (dp_vw 4 dp_nil)) (da_cons (de_call C_gate_good hr rfl (dp_vw 5 dp_nil)) (da_cons (de_cmp (o_eq hr) (DE.dv (de_callB c_len rfl B.len PySem.boot_len (dav_cons (dv_own 1) dav_nil))) (DE.dv (de_glob (d:=.int 4) (v:=.int 4) rfl G_MOST_ROWS ⟨_,rfl⟩ (fun _=>.int))) (nomark _)) da_nil))))))))) (dsxs_cons (dsx_for PassesOwn.leaving rfl (di_enumX rfl B.enumerate (da_cons (de_var 6) da_nil)) (dg_seq (n:=2) rfl (dgs_cons (dg_name (i:=7) sc_caller_read.nd rfl (Or.inl rfl)) (dgs_cons (dg_name (i:=8) sc_caller_read.nd rfl (Or.inl rfl)) dgs_nil))) (dsxs_one (dsx_if (dt_not (dt_tru (dv_own 8))) (dsxs_one (dsx_raiseF (k:=1) hE hr.hd (hr.mono (by decide)) rfl mx_NoText nx_NoText xc_NoText io_NoText gi_NoText rfl (by decide) (da_cons (de_op o_add (dv_own 7) (DE.dv de_int)) da_nil))) dsxs_nil))) (dsxs_one (dsx_of (ds_ret (de_tup (da_cons (de_var 3) (da_cons (de_var 4) (da_cons (de_var 5) da_nil))))))))))))))),?_⟩
 cases d with
 | str x =>
  obtain⟨⟨hl,ha⟩,q1,q2⟩:=q x rfl
  walk_at "ds"
  have pt:=parts_le x (Str.ofString "\n")
  have st:=split_pt x 10
  rw [<-nl_is] at st
  refine⟨by decide +kernel,by omega,by omega,by omega,?_⟩
  generalize Txt.split x (Str.ofString "\n")=rows at *
  have hx:∀ x∈rows,Tx 10000 x:=fun y hy=>⟨by have:=(st.1 y hy).2;omega,(st.1 y hy).1 ha⟩
  have hn:=rowR_len hx 1 (Str.ofString "plan")
  refine⟨rows,0,_,rfl,hx,rows,1,_,rfl,hx,?_⟩
  simp only [tD]
  refine⟨by simp only [List.length_cons,List.length_nil,List.length_map];omega,?_⟩
  refine⟨rows,2,_,rfl,hx,rows,3,_,rfl,hx,_,rfl,_,rfl,_,rfl,_,rfl,?_⟩
  refine forD_suf (fun ds σ=>∃(n:Nat) (bs:List Bool) (u v:Option W),ds=(bs.zipIdx n).map (fun p=>PyData.tuple [.int (p.2:Nat),.bool p.1])/\(okC rows).findIdx? (! ·)=(bs.findIdx? (! ·)).map (·+n)/\σ = [some (.val (.str x)),some (.val (.list (rows.map PyData.str))),some (.val (gC rows)),some (.val (pC rows)),some (.val (uC rows)),some (.val (tC rows)),some (.val (.list ((okC rows).map PyData.bool))),u,v]) ?_ ?_ ⟨0,okC rows,none,none,?_,by simp,?_⟩
  ·rintro d ds σ N ⟨n,bs,u,v,e,h2,rfl⟩ k
   cases bs with
   | nil=>cases e
   | cons b bs =>
    rw [List.zipIdx_cons,List.map_cons] at e
    cases e
    walk_at "ds"
    cases b with
    | false =>
     rw [List.findIdx?_cons] at h2
     exact⟨[(n:Int)+1],rfl,rfl,q1 n (by rw [h2];simp)⟩
    | true =>
     rw [List.findIdx?_cons] at h2
     refine k _ ⟨n+1,bs,_,_,rfl,?_,rfl⟩
     rw [h2]
     cases bs.findIdx? (! ·) with
     | none=>rfl
     | some j=>simp;omega
  ·rintro σ ⟨n,bs,u,v,e,h2,rfl⟩
   cases bs with
   | cons b bs=>cases e
   | nil =>
    walk_at "ds"
    exact q2 (by rw [h2];rfl)
  ·rfl
  ·rfl
 | _ =>
  walk_at "ds"
  exact⟨[0],rfl,rfl,q0 (by intro x z;cases z)⟩
end
section
variable {P:Program}{w:World}{K:PySem.W.Frag}{mg:Str->Option Value}{base:Heap}{f:Addr}{fd:FuncData}
def sp__law_refusal:DSp:=fun ws Q=>∃ a:Int,ws = [.exc ("NoText",[("row",a)])]/\Q (.val (.tuple [.str "text",.int a]))
def dueC(rows:List Str):D:=match (okC rows).findIdx? (! ·) with
 | some i=>.tuple [.str "text",.int ((i:Int)+1)]
 | none=>.tuple [pC rows,uC rows,tC rows]
def dueD:D->D
 | .str x=>dueC (Txt.split x (Str.ofString "\n"))
 | _=>.tuple [.str "text",.int 0]
def sp__law_told:DSp:=fun ws Q=>∃ d:D,ws = [.val d]/\(∀ x,d=.str x->Tx 10000 x)/\Q (.val (dueD d))
theorem ok__law_told(B:Blt mg)(F:Fun K "_law_told" "_law_told" s__law_told f fd)(XF:Xf K mg)(C_caller_read:CalleeX P w K mg base 9 "caller_read" ["text"] (cnSpX K sp_caller_read))(C__law_refusal:CalleeH P w K mg base 1 "_law_refusal" ["_law_e"] (cnSp K sp__law_refusal)):FnOk P w K mg base CX0 10 f fd ["_law_text"] (cnSp K sp__law_told):=by
 refine F.dok sc__law_told (fun ws Q h=>?_) (fun cdv A outer s H ws Q E hr h=>?_)
 ·obtain⟨d,rfl,_⟩:=h
  rfl
 obtain⟨d,rfl,hx,q⟩:=h
 obtain⟨ck,mk,kk⟩:=XF.kn;refine⟨_,(dss_one (ds_try (i:=1) (kn := "KnockError") C_caller_read C__law_refusal hr mk kk sc__law_told.nd rfl rfl rfl rfl rfl rfl rfl (dp_vw 0 dp_nil))),?_⟩
 walk_at "ds"
 refine⟨d,rfl,fun z=>?_,fun x e=>⟨hx x e,fun i hi=>?_,fun hi=>?_⟩⟩
 ·have:dueD d=.tuple [.str "text",.int 0]:=by
   unfold dueD
   split
   ·next x=>exact absurd rfl (z x)
   ·rfl
  rw [this] at q
  exact⟨List.mem_cons_self,_,rfl,q⟩
 ·subst e
  replace q:Q (.val (dueC (Txt.split x (Str.ofString "\n")))):=q
  unfold dueC at q
  rw [hi] at q
  exact⟨List.mem_cons_self,_,rfl,q⟩
 ·subst e
  replace q:Q (.val (dueC (Txt.split x (Str.ofString "\n")))):=q
  unfold dueC at q
  rw [hi] at q
  exact q
def witB(ns:List Int)(bs:List (Int×Int)):Bool:=(ns.zip bs).all fun p=>decide (p.2.1<=p.1) && decide (p.1<=p.2.2)
def sp__law_within:DSp:=fun ws Q=>∃(ns:List Int) (bs:List (Int×Int)),ws = [.val (.list (ns.map PyData.int)),.val (.list (bs.map pD))]/\ns.length<=10/\bs.length<=10/\Q (.val (.bool (witB ns bs)))
theorem ok__law_within(B:Blt mg)(F:Fun K "_law_within" "_law_within" s__law_within f fd):FnOk P w K mg base CX0 1 f fd ["_law_numbers", "_law_bounds"] (cnSp K sp__law_within):=by
 refine F.dok sc__law_within (fun ws Q h=>?_) (fun cdv A outer s H ws Q E hr h=>?_)
 ·obtain⟨ns,bs,rfl,_⟩:=h
  rfl
 obtain⟨ns,bs,rfl,h1,h2,q⟩:=h
 refine⟨_,(dss_one (ds_ret (de_callB (c_all rfl) rfl B.all boot_all (dav_cons (DE.dv (DF.de (df_lc rfl (N':=["_law_number_here", "_law_low", "_law_high"]) (capt:=[]) (k:=3) (js:=[]) ⟨rfl,by decide,rfl,by decide,.nil,rfl,.nil,rfl,by decide⟩ (diw_zip rfl B.zip (dav_cons (dv_own 0) (dav_cons (dv_own 1) dav_nil))) (fun _ _ _ _=>(dg_seq (n:=2) rfl (dgs_cons (dg_name (i:=0) (show List.Nodup (["_law_number_here", "_law_low", "_law_high"]:List Str) by decide +kernel) rfl (Or.inl rfl) (Or.inr rfl)) (dgs_cons (dg_seq (n:=2) rfl (dgs_cons (dg_name (i:=1) (show List.Nodup (["_law_number_here", "_law_low", "_law_high"]:List Str) by decide +kernel) rfl (Or.inl rfl) (Or.inr rfl)) (dgs_cons (dg_name (i:=2) (show List.Nodup (["_law_number_here", "_law_low", "_law_high"]:List Str) by decide +kernel) rfl (Or.inl rfl) (Or.inr rfl)) dgs_nil))) dgs_nil)))) (fun _ _ _ _=>dts_nil) (fun _ _ _ _=>(de_chain o_le o_le (dv_own 1) (dv_own 0) (dv_own 2)))))) dav_nil)))),?_⟩
 walk_at "ds"
 rw [zipD_map (ns.map PyData.int) bs,List.zip_map_left,List.map_map]
 refine⟨by rw [List.length_map,List.length_zip];omega,lcD_mapT _ (fun p:Int×(Int×Int)=>.bool (decide (p.2.1<=p.1) && decide (p.1<=p.2.2))) (fun p hp k hk=>?_) ⟨(ns.zip bs).map fun p=>decide (p.2.1<=p.1) && decide (p.1<=p.2.2),?_,?_⟩⟩
 ·simp only [Function.comp_apply,pD,Prod.map,id_eq]
  walk_at "ds"
  by_cases c:p.2.1<=p.1
  ·rw [if_pos c]
   rw [decide_eq_true c,Bool.true_and] at hk
   exact hk
  ·rw [if_neg c]
   rw [decide_eq_false c,Bool.false_and] at hk
   exact hk
 ·have:=boolsD_map ((ns.zip bs).map fun p=>decide (p.2.1<=p.1) && decide (p.1<=p.2.2))
  rw [List.map_map] at this
  exact this
 ·rw [List.all_map]
  exact q
end
section
variable {P:Program}{w:World}{K:PySem.W.Frag}{mg:Str->Option Value}{base:Heap}{f:Addr}{fd:FuncData}
def rgB(k:Nat)(ns:List Int):Bool:=match k with
 | 0=>decide (ns.length=4) && witB ns [(1,1000),(1,10),(0,1000),(1,1000)]
 | 1=>decide (ns.length=2) && witB ns [(1,200),(0,1000)]
 | 2=>decide (ns.length=4) && witB ns [(0,1000),(1,1000),(0,10000),(0,ns.getD 2 0)]
 | _=>decide (ns.length=5) && witB ns [(1,20),(1,1000),(1,10),(ns.getD 1 0,1000),(1,10)]
def kwT(k:Nat):Str:=match k with
 | 0=>Str.ofString "gaps"
 | 1=>Str.ofString "plan"
 | 2=>Str.ofString "purse"
 | _=>Str.ofString "gate"
def sp__law_row_good:DSp:=fun ws Q=>∃(k:Nat) (w:Str) (rest:List Str),ws = [.val (.int k),.val (.list (.str w::rest.map PyData.str))]/\k<=3/\rest.length<=10001/\(∀ y∈rest,As y/\y.length<=100000)/\Q (.val (.bool (rgB k (if w=kwT k then nosL rest else []))))
theorem ok__law_row_good(B:Blt mg)(F:Fun K "_law_row_good" "_law_row_good" s__law_row_good f fd)(C__law_number:Cal P w K mg base 1 "_law_number" ["_law_word"] (cnSp K sp__law_number))(C__law_within:Cal P w K mg base 1 "_law_within" ["_law_numbers", "_law_bounds"] (cnSp K sp__law_within)):FnOk P w K mg base CX0 2 f fd ["_law_number_here", "_law_words"] (cnSp K sp__law_row_good):=by
 refine F.dok sc__law_row_good (fun ws Q h=>?_) (fun cdv A outer s H ws Q E hr h=>?_)
 ·obtain⟨k,w,rest,rfl,_⟩:=h
  rfl
 obtain⟨k,w,rest,rfl,hk,hl,hx,q⟩:=h
 refine⟨_,(dss_cons (ds_set (i:=2) sc__law_row_good.nd rfl (Or.inl rfl) (DF.de (df_lst (da_cons (de_tup (da_cons de_str (da_cons de_int da_nil sE_C) sE_C)) (da_cons (de_tup (da_cons de_str (da_cons de_int da_nil sE_C) sE_C)) (da_cons (de_tup (da_cons de_str (da_cons de_int da_nil sE_C) sE_C)) (da_cons (de_tup (da_cons de_str (da_cons de_int da_nil sE_C) sE_C)) da_nil sE_T) sE_T) sE_T) sE_T)))) (dss_cons (ds_if (DWt.dt (dw_or (dt_cmp (o_ne hr) (DE.dv (de_ix (dv_own 1) de_int (fun _ _=>rfl))) (DE.dv (de_ix (DE.dv (de_ix (dv_own 2) (de_var 0) (fun _ _=>rfl))) de_int (fun _ _=>rfl))) (nomark _)) (dw_or1 (dt_cmp (o_ne hr) (DE.dv (de_callB c_len rfl B.len PySem.boot_len (dav_cons (dv_own 1) dav_nil))) (DE.dv (de_op o_add (DE.dv (de_ix (DE.dv (de_ix (dv_own 2) (de_var 0) (fun _ _=>rfl))) de_int (fun _ _=>rfl))) (DE.dv de_int))) (nomark _))))) (dss_one (ds_ret de_bl)) dss_nil) (dss_cons (ds_setLC (i:=3) sc__law_row_good.nd rfl (Or.inl rfl) rfl (N':=["_law_word"]) (capt:=[]) (k:=1) (js:=[]) ⟨rfl,by decide,rfl,by decide,.nil,rfl,.nil,rfl,by decide⟩ (diw_seq (DE.dv (de_slice (dv_own 1) (do_some de_int) do_none))) (fun _ _ _ _=>(dg_name (i:=0) (show List.Nodup (["_law_word"]:List Str) by decide +kernel) rfl (Or.inl rfl) (Or.inr rfl))) (fun _ _ _ _=>dts_nil) (fun _ _ _ _=>(de_call C__law_number hr rfl (dp_vw 0 dp_nil)))) (dss_cons (ds_if (dt_cmp (o_in hr) (DE.dv de_non) (dv_own 3) rfl) (dss_one (ds_ret de_bl)) dss_nil) (dss_cons (ds_if (dt_cmp (o_eq hr) (dv_own 0) (DE.dv de_int) (nomark _)) (dss_one (ds_ret (de_call C__law_within hr rfl (dp_vw 3 (dp_val (DF.de (df_lst (da_cons (de_tup (da_cons de_int (da_cons de_int da_nil sE_C) sE_C)) (da_cons (de_tup (da_cons de_int (da_cons de_int da_nil sE_C) sE_C)) (da_cons (de_tup (da_cons de_int (da_cons de_int da_nil sE_C) sE_C)) (da_cons (de_tup (da_cons de_int (da_cons de_int da_nil sE_C) sE_C)) da_nil sE_T) sE_T) sE_T) sE_T))) dp_nil sE_L))))) dss_nil) (dss_cons (ds_if (dt_cmp (o_eq hr) (dv_own 0) (DE.dv de_int) (nomark _)) (dss_one (ds_ret (de_call C__law_within hr rfl (dp_vw 3 (dp_val (DF.de (df_lst (da_cons (de_tup (da_cons de_int (da_cons de_int da_nil sE_C) sE_C)) (da_cons (de_tup (da_cons de_int (da_cons de_int da_nil sE_C) sE_C)) da_nil sE_T) sE_T))) dp_nil sE_L))))) dss_nil) (dss_cons (ds_if (dt_cmp (o_eq hr) (dv_own 0) (DE.dv de_int) (nomark _)) (dss_one (ds_ret (de_call C__law_within hr rfl (dp_vw 3 (dp_val (DF.de (df_lst (da_cons (de_tup (da_cons de_int (da_cons de_int da_nil sE_C) sE_C)) (da_cons (de_tup (da_cons de_int (da_cons de_int da_nil sE_C) sE_C)) (da_cons (de_tup (da_cons de_int (da_cons de_int da_nil sE_C) sE_C)) (da_cons (de_tup (da_cons de_int (da_cons (de_ix (dv_own 3) de_int (fun _ _=>rfl)) da_nil) sE_C)) da_nil sE_T) sE_T) sE_T) sE_T))) dp_nil sE_L))))) dss_nil) (dss_one (ds_ret (de_call C__law_within hr rfl (dp_vw 3 (dp_val (DF.de (df_lst (da_cons (de_tup (da_cons de_int (da_cons de_int da_nil sE_C) sE_C)) (da_cons (de_tup (da_cons de_int (da_cons de_int da_nil sE_C) sE_C)) (da_cons (de_tup (da_cons de_int (da_cons de_int da_nil sE_C) sE_C)) (da_cons (de_tup (da_cons (de_ix (dv_own 3) de_int (fun _ _=>rfl)) (da_cons de_int da_nil sE_C))) (da_cons (de_tup (da_cons de_int (da_cons de_int da_nil sE_C) sE_C)) da_nil sE_T) sE_T) sE_T) sE_T) sE_T))) dp_nil sE_L)))))))))))),?_⟩
 refine dseq_by (fun σ=>σ = [some (.val (.int k)),some (.val (.list (.str w::rest.map PyData.str))),some (.val (.list [.tuple [.str (Str.ofString "gaps"),.int 4],.tuple [.str (Str.ofString "plan"),.int 2],.tuple [.str (Str.ofString "purse"),.int 4],.tuple [.str (Str.ofString "gate"),.int 5]])),none]) (fun N hN=>?_) ?_
 ·walk_at "ds"
  exact hN _ rfl
 rintro σ rfl
 refine dseq_by (fun σ=>(w=kwT k/\rest.length = [4,2,4,5].getD k 0)/\σ = [some (.val (.int k)),some (.val (.list (.str w::rest.map PyData.str))),some (.val (.list [.tuple [.str (Str.ofString "gaps"),.int 4],.tuple [.str (Str.ofString "plan"),.int 2],.tuple [.str (Str.ofString "purse"),.int 4],.tuple [.str (Str.ofString "gate"),.int 5]])),none]) (fun N hN=>?_) ?_
 ·have no:¬ (w=kwT k/\rest.length = [4,2,4,5].getD k 0)->Q (.val (.bool false)):=fun z=>by
   have:rgB k (if w=kwT k then nosL rest else [])=false:=by
    have key:∀ ns:List Int,ns.length ≠ [4,2,4,5].getD k 0->rgB k ns=false:=fun ns hn=>by
     obtain rfl | rfl | rfl | rfl:k=0\/k=1\/k=2\/k=3:=by omega
     ·exact(congrArg (· && _) (decide_eq_false hn)).trans (Bool.false_and _)
     ·exact(congrArg (· && _) (decide_eq_false hn)).trans (Bool.false_and _)
     ·exact(congrArg (· && _) (decide_eq_false hn)).trans (Bool.false_and _)
     ·exact(congrArg (· && _) (decide_eq_false hn)).trans (Bool.false_and _)
    have k0:rgB k []=false:=key [] (by
     obtain rfl | rfl | rfl | rfl:k=0\/k=1\/k=2\/k=3:=by omega
     all_goals decide)
    by_cases c:w=kwT k
    ·rw [if_pos c]
     unfold nosL
     by_cases c2:rest.all numG=true
     ·rw [if_pos c2]
      exact key _ (by rw [List.length_map];exact fun e=>z ⟨c,e⟩)
     ·rw [if_neg c2]
      exact k0
    ·rw [if_neg c]
     exact k0
   rw [this] at q
   exact q
  obtain rfl | rfl | rfl | rfl:k=0\/k=1\/k=2\/k=3:=by omega
  ·walk_at "ds"
   refine⟨_,atI_zero _ _,_,rfl,?_⟩
   walk_at "ds"
   refine⟨_,atI_zero _ _,?_⟩
   walk_at "ds"
   by_cases c:w=Str.ofString "gaps"
   ·rw [if_neg (not_not_intro c)]
    refine⟨_,rfl,?_⟩
    walk_at "ds"
    refine⟨_,atI_one _ _ _,?_⟩
    walk_at "ds"
    rw [List.length_map]
    by_cases c2:rest.length=4
    ·rw [if_neg (not_not_intro (by omega))]
     exact hN _ ⟨⟨c,c2⟩,rfl⟩
    ·rw [if_pos (by omega)]
     exact no fun z=>c2 z.2
   ·rw [if_pos c]
    exact no fun z=>c z.1
  ·walk_at "ds"
   refine⟨_,atI_zero _ _,_,rfl,?_⟩
   walk_at "ds"
   refine⟨_,atI_zero _ _,?_⟩
   walk_at "ds"
   by_cases c:w=Str.ofString "plan"
   ·rw [if_neg (not_not_intro c)]
    refine⟨_,rfl,?_⟩
    walk_at "ds"
    refine⟨_,atI_one _ _ _,?_⟩
    walk_at "ds"
    rw [List.length_map]
    by_cases c2:rest.length=2
    ·rw [if_neg (not_not_intro (by omega))]
     exact hN _ ⟨⟨c,c2⟩,rfl⟩
    ·rw [if_pos (by omega)]
     exact no fun z=>c2 z.2
   ·rw [if_pos c]
    exact no fun z=>c z.1
  ·walk_at "ds"
   refine⟨_,atI_zero _ _,_,rfl,?_⟩
   walk_at "ds"
   refine⟨_,atI_zero _ _,?_⟩
   walk_at "ds"
   by_cases c:w=Str.ofString "purse"
   ·rw [if_neg (not_not_intro c)]
    refine⟨_,rfl,?_⟩
    walk_at "ds"
    refine⟨_,atI_one _ _ _,?_⟩
    walk_at "ds"
    rw [List.length_map]
    by_cases c2:rest.length=4
    ·rw [if_neg (not_not_intro (by omega))]
     exact hN _ ⟨⟨c,c2⟩,rfl⟩
    ·rw [if_pos (by omega)]
     exact no fun z=>c2 z.2
   ·rw [if_pos c]
    exact no fun z=>c z.1
  ·walk_at "ds"
   refine⟨_,atI_zero _ _,_,rfl,?_⟩
   walk_at "ds"
   refine⟨_,atI_zero _ _,?_⟩
   walk_at "ds"
   by_cases c:w=Str.ofString "gate"
   ·rw [if_neg (not_not_intro c)]
    refine⟨_,rfl,?_⟩
    walk_at "ds"
    refine⟨_,atI_one _ _ _,?_⟩
    walk_at "ds"
    rw [List.length_map]
    by_cases c2:rest.length=5
    ·rw [if_neg (not_not_intro (by omega))]
     exact hN _ ⟨⟨c,c2⟩,rfl⟩
    ·rw [if_pos (by omega)]
     exact no fun z=>c2 z.2
   ·rw [if_pos c]
    exact no fun z=>c z.1
 rintro σ ⟨⟨hw,hn⟩,rfl⟩
 rw [if_pos hw] at q
 walk_at "ds"
 rw [sliceD_from _ (by decide)]
 simp only [show Int.toNat 1=1 from rfl,List.drop_succ_cons,List.drop_zero,List.length_map]
 have on_is:∀ z:Str,Lay (if numG z=true then PyData.int (valT z) else PyData.none)/\(if numG z=true then PyData.int (valT z) else PyData.none).depth<=63:=fun z=>by
  split
  ·exact⟨Lay.int _,by simp [PyData.depth]⟩
  ·exact⟨Lay.none,by simp [PyData.depth]⟩
 refine⟨by omega,lcD_mapT PyData.str (fun z=>if numG z=true then .int (valT z) else .none) (fun z hz k hk=>?_) ⟨Lay.none,Lay.list fun x hx=>?_,?_⟩⟩
 ·walk_at "ds"
  have:=hx z hz
  exact⟨z,rfl,this.1,this.2,hk⟩
 ·obtain⟨z,_,rfl⟩:=List.mem_map.mp hx
  exact on_is z
 by_cases ca:rest.all numG=true
 ·have e1:rest.map (fun z=>if numG z=true then PyData.int (valT z) else PyData.none)=(nosL rest).map PyData.int:=by
   unfold nosL
   rw [if_pos ca,List.map_map]
   refine List.map_congr_left fun z hz=>?_
   rw [if_pos (List.all_eq_true.mp ca z hz)]
   rfl
  have ln:(nosL rest).length=rest.length:=by unfold nosL;rw [if_pos ca,List.length_map]
  rw [e1]
  generalize nosL rest=ns at *
  have e2:inD PyData.none (ns.map PyData.int)=false:=by
   unfold inD
   rw [List.any_map,List.any_eq_false]
   intro x hx
   simp [PyData.eqv]
  rw [e2,if_neg (by decide)]
  have l2:=ln.trans hn
  obtain rfl | rfl | rfl | rfl:k=0\/k=1\/k=2\/k=3:=by omega
  ·rw [if_pos (by decide)]
   have l3:ns.length=4:=l2
   refine⟨ns,[(1,1000),(1,10),(0,1000),(1,1000)],rfl,by omega,by decide,?_⟩
   have e:rgB 0 ns=witB ns [(1,1000),(1,10),(0,1000),(1,1000)]:=(congrArg (· && _) (decide_eq_true l3)).trans (Bool.true_and _)
   rw [e] at q
   exact q
  ·rw [if_neg (by decide),if_pos (by decide)]
   have l3:ns.length=2:=l2
   refine⟨ns,[(1,200),(0,1000)],rfl,by omega,by decide,?_⟩
   have e:rgB 1 ns=witB ns [(1,200),(0,1000)]:=(congrArg (· && _) (decide_eq_true l3)).trans (Bool.true_and _)
   rw [e] at q
   exact q
  ·rw [if_neg (by decide),if_neg (by decide),if_pos (by decide)]
   have l3:ns.length=4:=l2
   refine⟨.int (ns.getD 2 0),?_,ns,[(0,1000),(1,1000),(0,10000),(0,ns.getD 2 0)],rfl,by omega,by simp,?_⟩
   ·refine atI_nat (j:=2) ?_
    rw [List.getElem?_map,List.getElem?_eq_getElem (by omega),List.getD_eq_getElem?_getD,List.getElem?_eq_getElem (by omega)]
    rfl
   ·have e:rgB 2 ns=witB ns [(0,1000),(1,1000),(0,10000),(0,ns.getD 2 0)]:=(congrArg (· && _) (decide_eq_true l3)).trans (Bool.true_and _)
    rw [e] at q
    exact q
  ·rw [if_neg (by decide),if_neg (by decide),if_neg (by decide)]
   have l3:ns.length=5:=l2
   refine⟨.int (ns.getD 1 0),?_,ns,[(1,20),(1,1000),(1,10),(ns.getD 1 0,1000),(1,10)],rfl,by omega,by simp,?_⟩
   ·refine atI_nat (j:=1) ?_
    rw [List.getElem?_map,List.getElem?_eq_getElem (by omega),List.getD_eq_getElem?_getD,List.getElem?_eq_getElem (by omega)]
    rfl
   ·have e:rgB 3 ns=witB ns [(1,20),(1,1000),(1,10),(ns.getD 1 0,1000),(1,10)]:=(congrArg (· && _) (decide_eq_true l3)).trans (Bool.true_and _)
    rw [e] at q
    exact q
 ·have e2:inD PyData.none (rest.map fun z=>if numG z=true then PyData.int (valT z) else PyData.none)=true:=by
   have:∃ z∈rest,numG z=false:=by
    simpa using ca
   obtain⟨z,hz,hf⟩:=this
   unfold inD
   rw [List.any_map,List.any_eq_true]
   exact⟨z,hz,by simp [hf,PyData.eqv]⟩
  rw [e2,if_pos rfl]
  unfold nosL at q
  rw [if_neg ca] at q
  obtain rfl | rfl | rfl | rfl:k=0\/k=1\/k=2\/k=3:=by omega
  all_goals exact q
end
section
variable {P:Program}{w:World}{K:PySem.W.Frag}{mg:Str->Option Value}{base:Heap}{f:Addr}{fd:FuncData}
theorem len5{α:Type}{xs:List α}(h:xs.length=5):∃ a b c d e,xs = [a,b,c,d,e]:=by
 match xs,h with
 | [a,b,c,d,e],_=>exact⟨a,b,c,d,e,rfl⟩
theorem len4{α:Type}{xs:List α}(h:xs.length=4):∃ a b c d,xs = [a,b,c,d]:=by
 match xs,h with
 | [a,b,c,d],_=>exact⟨a,b,c,d,rfl⟩
theorem wh_rg(ns:List Int):wholesB gB (tD ns)=rgB 0 ns:=by
 by_cases c:ns.length=4
 ·obtain⟨a,b,e,d,rfl⟩:=len4 c
  simp [wholesB,gB,tD,rgB,witB,inB]
 ·have e:rgB 0 ns=false:=(congrArg (· && _) (decide_eq_false c)).trans (Bool.false_and _)
  rw [e]
  unfold wholesB tD
  simp only [List.length_map]
  rw [decide_eq_false (by simpa [gB] using c),Bool.false_and]
theorem pu_rg(ns:List Int):purseB (tD ns)=rgB 2 ns:=by
 by_cases c:ns.length=4
 ·obtain⟨a,b,e,d,rfl⟩:=len4 c
  simp only [purseB,wholesB,uB,tD,rgB,witB,inB,List.map_cons,List.map_nil,List.zip_cons_cons,List.zip_nil_right,List.all_cons,List.all_nil,List.getD_cons_succ,List.getD_cons_zero,List.length_cons,List.length_nil]
  rw [Bool.eq_iff_iff]
  simp
  omega
 ·have e:rgB 2 ns=false:=(congrArg (· && _) (decide_eq_false c)).trans (Bool.false_and _)
  rw [e]
  unfold purseB wholesB tD
  simp only [List.length_map]
  rw [decide_eq_false (by simpa [uB] using c),Bool.false_and,Bool.false_and]
theorem ga_rg(ns:List Int):gateB (tD ns)=rgB 3 ns:=by
 by_cases c:ns.length=5
 ·obtain⟨a,b,e,d,f,rfl⟩:=len5 c
  simp only [gateB,wholesB,tB,tD,rgB,witB,inB,List.map_cons,List.map_nil,List.zip_cons_cons,List.zip_nil_right,List.all_cons,List.all_nil,List.getD_cons_succ,List.getD_cons_zero,List.length_cons,List.length_nil]
  rw [Bool.eq_iff_iff]
  simp
  omega
 ·have e:rgB 3 ns=false:=(congrArg (· && _) (decide_eq_false c)).trans (Bool.false_and _)
  rw [e]
  unfold gateB wholesB tD
  simp only [List.length_map]
  rw [decide_eq_false (by simpa [tB] using c),Bool.false_and,Bool.false_and]
end
section
variable {P:Program}{w:World}{K:PySem.W.Frag}{mg:Str->Option Value}{base:Heap}{f:Addr}{fd:FuncData}
theorem pl_rg(g:D)(ns:List Int):planB 1000 (.tuple (g::ns.map PyData.int))=(wholesB gB g && rgB 1 ns):=by
 match ns with
 | []=>simp [planB,rgB]
 | [a]=>simp [planB,rgB]
 | [a,b]=>simp [planB,rgB,witB,inB]
 | a::b::c::r=>simp [planB,rgB]
def rwK(rows:List Str)(k:Nat):List Int:=rowR rows k (kwT k)
theorem ok_is(rows:List Str):okC rows = [rgB 0 (rwK rows 0),(rgB 0 (rwK rows 0) && rgB 1 (rwK rows 1)),rgB 2 (rwK rows 2),rgB 3 (rwK rows 3),decide ((rows.length:Int)=4)]:=by
 unfold okC pC uC tC gC
 rw [pl_rg,wh_rg,pu_rg,ga_rg,List.length_map]
 rfl
theorem due_bad{rows:List Str}{n:Nat}(hn:n<=3)(h:∀ j,j<n->rgB j (rwK rows j)=true)(hb:rgB n (rwK rows n)=false):dueC rows=.tuple [.str "text",.int ((n:Int)+1)]:=by
 unfold dueC
 rw [ok_is]
 obtain rfl | rfl | rfl | rfl:n=0\/n=1\/n=2\/n=3:=by omega
 ·simp [List.findIdx?_cons,hb]
 ·simp [List.findIdx?_cons,hb,h 0 (by decide)]
 ·simp [List.findIdx?_cons,hb,h 0 (by decide),h 1 (by decide)]
 ·simp [List.findIdx?_cons,hb,h 0 (by decide),h 1 (by decide),h 2 (by decide)]
theorem due_long{rows:List Str}(h:∀ j,j<4->rgB j (rwK rows j)=true)(hl:rows.length≠4):dueC rows=.tuple [.str "text",.int 5]:=by
 unfold dueC
 rw [ok_is]
 simp [List.findIdx?_cons,h 0 (by decide),h 1 (by decide),h 2 (by decide),h 3 (by decide),show ¬ (rows.length:Int)=4 by omega]
theorem due_good{rows:List Str}(h:∀ j,j<4->rgB j (rwK rows j)=true)(hl:rows.length=4):dueC rows=.tuple [pC rows,uC rows,tC rows]:=by
 unfold dueC
 rw [ok_is]
 simp [List.findIdx?_cons,h 0 (by decide),h 1 (by decide),h 2 (by decide),h 3 (by decide),show(rows.length:Int)=4 by omega]
theorem rg_nil{n:Nat}(h:n<=3):rgB n []=false:=by
 obtain rfl | rfl | rfl | rfl:n=0\/n=1\/n=2\/n=3:=by omega
 all_goals decide
theorem rwK_out{rows:List Str}{n:Nat}(h:rows.length<=n):rwK rows n = []:=by
 unfold rwK rowR
 rw [List.getElem?_eq_none h]
end
section
variable {P:Program}{w:World}{K:PySem.W.Frag}{mg:Str->Option Value}{base:Heap}{f:Addr}{fd:FuncData}
theorem rwK_in{rows:List Str}{n:Nat}{y w:Str}{rest:List Str}(h:rows[n]?=some y)(hs:Txt.split y (Str.ofString " ")=w::rest):rwK rows n=if w=kwT n then nosL rest else []:=by
 unfold rwK rowR
 rw [h]
 dsimp only
 rw [hs]
theorem nos_all{n:Nat}(hn:n<=3){w:Str}{rest:List Str}(h:rgB n (if w=kwT n then nosL rest else [])=true):w=kwT n/\rest.all numG=true:=by
 by_cases c:w=kwT n
 ·rw [if_pos c] at h
  refine⟨c,?_⟩
  by_cases c2:rest.all numG=true
  ·exact c2
  ·unfold nosL at h
   rw [if_neg c2,rg_nil hn] at h
   cases h
 ·rw [if_neg c,rg_nil hn] at h
  cases h
def sp__law_due:DSp:=fun ws Q=>∃ d:D,ws = [.val d]/\(∀ x,d=.str x->Tx 10000 x)/\Q (.val (dueD d))
theorem ok__law_due(B:Blt mg)(F:Fun K "_law_due" "_law_due" s__law_due f fd)(C__law_number:Cal P w K mg base 1 "_law_number" ["_law_word"] (cnSp K sp__law_number))(C__law_row_good:Cal P w K mg base 2 "_law_row_good" ["_law_number_here", "_law_words"] (cnSp K sp__law_row_good)):FnOk P w K mg base CX0 3 f fd ["_law_text"] (cnSp K sp__law_due):=by
 refine F.dok sc__law_due (fun ws Q h=>?_) (fun cdv A outer s H ws Q E hr h=>?_)
 ·obtain⟨d,rfl,_⟩:=h
  rfl
 obtain⟨d,rfl,hx,q⟩:=h
 refine⟨_,(dss_cons (ds_if (dt_not (dt_tru (DE.dv (de_isT (n := "str") k_str rfl B.isinstance boot_isinstance (dv_own 0) rfl B.strT boot_str)))) (dss_one (ds_ret (de_tup (da_cons de_str (da_cons de_int da_nil sE_C) sE_C)))) dss_nil) (dss_cons (ds_set (i:=1) sc__law_due.nd rfl (Or.inl rfl) (DF.de (df_tsplit (de_var 0) de_str))) (dss_cons (ds_setO (i:=2) sc__law_due.nd rfl (Or.inl rfl) (df_lst da_nil)) (dss_cons (ds_for PassesOwn.never rfl (di_enumX rfl B.enumerate (da_cons (de_var 1) da_nil)) (dg_seq (n:=2) rfl (dgs_cons (dg_name (i:=3) sc__law_due.nd rfl (Or.inl rfl)) (dgs_cons (dg_name (i:=4) sc__law_due.nd rfl (Or.inl rfl)) dgs_nil))) (dss_cons (ds_set (i:=5) sc__law_due.nd rfl (Or.inl rfl) (DF.de (df_tsplit (de_var 4) de_str))) (dss_cons (ds_if (DWt.dt (dw_or (dt_cmp o_gt (dv_own 3) (DE.dv de_int) (nomark _)) (dw_or1 (dt_not (dt_tru (DE.dv (de_call C__law_row_good hr rfl (dp_vw 3 (dp_vw 5 dp_nil))))))))) (dss_one (ds_ret (de_tup (da_cons de_str (da_cons (de_op o_add (dv_own 3) (DE.dv de_int)) da_nil) sE_C)))) dss_nil) (dss_one (ds_append 2 (de_callTy c_tuple rfl B.tupleT boot_tuple (dav_cons (DE.dv (DF.de (df_lc rfl (N':=["_law_word"]) (capt:=[]) (k:=1) (js:=[]) ⟨rfl,by decide,rfl,by decide,.nil,rfl,.nil,rfl,by decide⟩ (diw_seq (DE.dv (de_slice (dv_own 5) (do_some de_int) do_none))) (fun _ _ _ _=>(dg_name (i:=0) (show List.Nodup (["_law_word"]:List Str) by decide +kernel) rfl (Or.inl rfl) (Or.inr rfl))) (fun _ _ _ _=>dts_nil) (fun _ _ _ _=>(de_call C__law_number hr rfl (dp_vw 0 dp_nil)))))) dav_nil))))))) (dss_cons (ds_if (dt_cmp o_lt (DE.dv (de_callB c_len rfl B.len PySem.boot_len (dav_cons (dv_own 1) dav_nil))) (DE.dv de_int) (nomark _)) (dss_one (ds_ret (de_tup (da_cons de_str (da_cons (de_op o_add (DE.dv (de_callB c_len rfl B.len PySem.boot_len (dav_cons (dv_own 1) dav_nil))) (DE.dv de_int)) da_nil) sE_C)))) dss_nil) (dss_one (ds_ret (de_tup (da_cons (de_tup (da_cons (de_ix (dv_own 2) de_int (fun _ _=>rfl)) (da_cons (de_ix (DE.dv (de_ix (dv_own 2) de_int (fun _ _=>rfl))) de_int (fun _ _=>rfl)) (da_cons (de_ix (DE.dv (de_ix (dv_own 2) de_int (fun _ _=>rfl))) de_int (fun _ _=>rfl)) da_nil)))) (da_cons (de_ix (dv_own 2) de_int (fun _ _=>rfl)) (da_cons (de_ix (dv_own 2) de_int (fun _ _=>rfl)) da_nil)) sE_T))))))))),?_⟩
 cases d with
 | str x =>
  obtain⟨hl,ha⟩:=hx x rfl
  walk_at "ds"
  have pt:=parts_le x (Str.ofString "\n")
  have st:=split_pt x 10
  rw [<-nl_is] at st
  refine⟨by decide +kernel,by omega,by omega,by omega,?_⟩
  replace q:Q (.val (dueC (Txt.split x (Str.ofString "\n")))):=q
  generalize Txt.split x (Str.ofString "\n")=rows at *
  have hx:∀ x∈rows,Tx 10000 x:=fun y hy=>⟨by have:=(st.1 y hy).2;omega,(st.1 y hy).1 ha⟩
  refine forD_suf (fun ds σ=>∃(n:Nat) (rs:List Str) (u3 u4 u5:Option W),ds=enumD n (rs.map PyData.str)/\rs=rows.drop n/\n<=rows.length/\n<=4/\(∀ j,j<n->rgB j (rwK rows j)=true)/\σ = [some (.val (.str x)),some (.val (.list (rows.map PyData.str))),some (.own (.lst ((List.range n).map fun j=>tD (rwK rows j)))),u3,u4,u5]) ?_ ?_ ⟨0,rows,none,none,none,rfl,rfl,by omega,by omega,fun j hj=>absurd hj (by omega),rfl⟩
  ·rintro d ds σ N ⟨n,rs,u3,u4,u5,e,hr2,hn0,hn,hg,rfl⟩ k
   cases rs with
   | nil=>cases e
   | cons y rs =>
    cases e
    have ey:rows[n]?=some y:=by
     have:=congrArg (·[0]?) hr2
     simpa using this.symm
    have hy:=hx y (List.mem_of_getElem? ey)
    have hn2:n<rows.length:=(List.getElem?_eq_some_iff.mp ey).1
    have pt:=parts_le y (Str.ofString " ")
    have st:=split_pt y 32
    rw [<-sp_is] at st
    have hyl:=hy.1
    walk_at "ds"
    refine⟨by decide +kernel,by omega,by omega,by omega,?_⟩
    by_cases c:(3:Int)<(n:Int)
    ·rw [if_pos c]
     obtain rfl:n=4:=by omega
     rw [due_long hg (by omega)] at q
     exact q
    rw [if_neg c]
    cases es:Txt.split y (Str.ofString " ") with
    | nil=>exact absurd es (by rw [sp_is];exact split_ne y 32)
    | cons w rest =>
     rw [es] at st
     rw [List.length_cons] at st
     have st1:∀ y∈rest,As y/\y.length<=100000:=fun y hy2=>by
      have:=st.1 y (List.mem_cons_of_mem _ hy2)
      exact⟨this.1 hy.2,by omega⟩
     have rk:=rwK_in ey es
     simp only [List.map_cons]
     refine⟨n,w,rest,rfl,by omega,by omega,st1,?_⟩
     walk_at "ds"
     cases hb:rgB n (if w=kwT n then nosL rest else []) with
     | false =>
      rw [due_bad (by omega) hg (by rw [rk];exact hb)] at q
      exact q
     | true =>
      obtain⟨ew,en⟩:=nos_all (by omega) hb
      rw [if_pos ew] at rk
      rw [sliceD_from _ (by decide)]
      simp only [show Int.toNat 1=1 from rfl,List.drop_succ_cons,List.drop_zero,List.length_map]
      rw [if_neg (by decide)]
      rw [if_pos ew] at hb
      refine⟨by omega,lcD_mapT PyData.str (fun z=>.int (valT z)) (fun z hz c hc=>?_) ⟨by rw [List.length_range];omega,k _ ⟨n+1,rs,some (.val (.int n)),some (.val (.str y)),some (.val (.list (.str w::rest.map PyData.str))),rfl,?_,by omega,by omega,fun j hj=>?_,?_⟩⟩⟩
      ·walk_at "ds"
       refine⟨z,rfl,(st1 z hz).1,(st1 z hz).2,?_⟩
       rw [if_pos (List.all_eq_true.mp en z hz)]
       exact hc
      ·have:=congrArg List.tail hr2
       rw [List.tail_drop] at this
       exact this
      ·by_cases cj:j=n
       ·subst cj
        rw [rk]
        exact hb
       ·exact hg j (by omega)
      ·have e5:tD (rwK rows n)=.tuple (rest.map fun z=>.int (valT z)):=by
        rw [rk]
        unfold nosL tD
        rw [if_pos en,List.map_map]
        rfl
       rw [List.range_succ,List.map_append,List.map_cons,List.map_nil,e5]
  ·rintro σ ⟨n,rs,u3,u4,u5,e,hr2,hn0,hn,hg,rfl⟩
   cases rs with
   | cons y rs=>cases e
   | nil =>
    have e4:n=rows.length:=by
     have:=congrArg List.length hr2
     simp at this
     omega
    walk_at "ds"
    rw [List.length_map]
    by_cases c:(rows.length:Int)<4
    ·rw [if_pos c]
     rw [due_bad (n:=rows.length) (by omega) (by rw [<-e4];exact hg) (by rw [rwK_out (Nat.le_refl _)];exact rg_nil (by omega))] at q
     exact q
    ·rw [if_neg c]
     obtain rfl:n=4:=by omega
     rw [due_good hg e4.symm] at q
     have l1:(rwK rows 1).length=2:=by
      have:(decide ((rwK rows 1).length=2) && witB (rwK rows 1) [(1,200),(0,1000)])=true:=hg 1 (by decide)
      rw [Bool.and_eq_true,decide_eq_true_eq] at this
      exact this.1
     obtain⟨a,b,e1⟩:∃ a b,rwK rows 1 = [a,b]:=by
      match rwK rows 1,l1 with
      | [a,b],_=>exact⟨a,b,rfl⟩
     simp only [show List.range 4 = [0,1,2,3] from rfl,List.map_cons,List.map_nil,e1]
     have e6:tD [a,b]=.tuple [.int a,.int b]:=rfl
     rw [e6]
     refine⟨_,rfl,_,rfl,?_⟩
     walk_at "ds"
     refine⟨_,rfl,_,rfl,?_⟩
     walk_at "ds"
     refine⟨_,rfl,_,rfl,_,rfl,?_⟩
     have e1':rowR rows 1 (Str.ofString "plan") = [a,b]:=e1
     unfold pC at q
     rw [e1'] at q
     exact q
 | _ =>
  walk_at "ds"
  exact q
end
section
variable {P:Program}{w:World}{K:PySem.W.Frag}{mg:Str->Option Value}{base:Heap}{f:Addr}{fd:FuncData}
theorem As.app{x y:Str}(h:As x)(h2:As y):As (x++y):=fun c hc=>by
 have:(x++y).cps.toList=x.cps.toList++y.cps.toList:=Array.toList_append
 rw [this] at hc
 exact(List.mem_append.mp hc).elim (h c) (h2 c)
theorem Tx.app{a b:Nat}{x y:Str}(h:Tx a x)(h2:Tx b y):Tx (a+b) (x++y):=⟨by have:=h.1;have:=h2.1;rw [strLen_append];omega,h.2.app h2.2⟩
theorem Tx.mono{a b:Nat}{x:Str}(h:Tx a x)(l:a<=b):Tx b x:=⟨Nat.le_trans h.1 l,h.2⟩
theorem tx_num{i:Int}(h0:0<=i)(h1:i<10000000000):Tx 10 (numT i):=by
 have:=num_t h0 (by omega)
 exact⟨this.le,fun c hc=>by have:=this.dig c hc;omega⟩
theorem tx_slice{a:Nat}{x:Str}(h:Tx a x)(l u:Option Int):Tx a (Txt.slice x l u):=by
 refine⟨Nat.le_trans (Txt.slice_le x l u) h.1,?_⟩
 unfold Txt.slice
 split
 ·exact h.2
 ·intro c hc
  obtain⟨i,hi,e⟩:=List.mem_filterMap.mp hc
  exact h.2 c (Array.mem_toList_iff.mpr (Array.mem_of_getElem? e))
theorem txt_join(s:Str)(xs:List Str):Txt.join s xs=Str.join s xs:=StrLaws.glued_eq_join s xs
theorem as_join{s:Str}(hs:As s):∀ xs:List Str,(∀ x∈xs,As x)->As (Str.join s xs)
 | [],_=>fun c hc=>by cases hc
 | [x],h=>h x List.mem_cons_self
 | x::y::r,h=>by
  show As (x++s++Str.join s (y::r))
  exact((h x List.mem_cons_self).app hs).app (as_join hs (y::r) fun z hz=>h z (List.mem_cons_of_mem _ hz))
theorem tx_join{s:Str}{S B:Nat}{xs:List Str}(hs:Tx S s)(h:∀ x∈xs,Tx B x):Tx (xs.length * B+xs.length * S) (Txt.join s xs):=by
 rw [txt_join]
 refine⟨?_,as_join hs.2 xs fun x hx=>(h x hx).2⟩
 have h1:=StrLaws.join_length_le s xs
 have h2:=StrLaws.sumLen_le (B:=B) xs fun y hy=>(h y hy).1
 have h3:xs.length * s.length<=xs.length * S:=Nat.mul_le_mul_left _ hs.1
 have h4:(xs.length-1) * s.length<=xs.length * s.length:=Nat.mul_le_mul_right _ (Nat.sub_le _ _)
 first
  | omega
  | exact Nat.le_trans h1 (Nat.add_le_add h2 (Nat.le_trans h4 h3))
theorem join_ok{sep:Str}{texts:List Str}{B S:Nat}(hs:Tx S sep)(hB:∀ y∈texts,Tx B y)(h:texts.length * B+texts.length * S<=16777216):JoinOk sep texts=true:=by
 unfold JoinOk
 rw [StrLaws.joinFits (fun y hy=>(hB y hy).1) (Nat.le_trans (Nat.add_le_add_left (Nat.mul_le_mul_left _ hs.1) _) h)]
 rfl
theorem tx_sp:Tx 1 (Str.ofString " "):=⟨by decide +kernel,by unfold As;decide +kernel⟩
theorem tx_mi:Tx 1 (Str.ofString "-"):=⟨by decide +kernel,by unfold As;decide +kernel⟩
theorem tx_no:Tx 0 (Str.ofString ""):=⟨by decide +kernel,by unfold As;decide +kernel⟩
def sp__law_sign:DSp:=fun ws Q=>ws = [.pen]/\∀ x:Str,Tx 1 x->Q (.val (.str x))
theorem ok__law_sign(B:Blt mg)(F:Fun K "_law_sign" "_law_sign" s__law_sign f fd)(C__law_draw:Cal P w K mg base 2 "_law_draw" ["_law_pen", "_law_many"] (cnSp K sp__law_draw)):FnOk P w K mg base CX0 3 f fd ["_law_pen"] (cnSp K sp__law_sign):=by
 refine F.dok sc__law_sign (fun ws Q h=>?_) (fun cdv A outer s H ws Q E hr h=>?_)
 ·obtain⟨rfl,_⟩:=h
  rfl
 obtain⟨rfl,q⟩:=h
 have sg:∃ y:Str,y=Str.ofString " !\"#$&'()*+,-./0123456789:;<=>?@ABCDEFGHIJKLMNOPQRSTUVWXYZ[\\]^_`abcdefghijklmnopqrstuvwxyz{|}~\t\n" /\ Tx 100 y/\1<=y.length:=⟨_,rfl,⟨by decide +kernel,by unfold As;decide +kernel⟩,by decide +kernel⟩
 obtain⟨y,ey,⟨y1,y2⟩,y3⟩:=sg
 refine⟨_,(dss_cons (ds_set (i:=1) sc__law_sign.nd rfl (Or.inl rfl) de_str) (dss_one (ds_ret (de_ix (DE.dv (DF.de (df_lst (da_cons de_str (da_cons de_str (da_cons de_str (da_cons de_str (da_cons de_str (da_cons (de_ix (dv_own 1) (de_call C__law_draw hr rfl (dp_vw 0 (dp_val (de_callB c_len rfl B.len PySem.boot_len (dav_cons (dv_own 1) dav_nil)) dp_nil))) (fun _ _=>rfl)) da_nil) sE_C) sE_C) sE_C) sE_C) sE_C)))) (de_call C__law_draw hr rfl (dp_vw 0 (dp_val de_int dp_nil sE_C))) (fun _ _=>rfl))))),?_⟩
 walk_at "ds"
 rw [<-ey]
 refine⟨by omega,?_⟩
 refine drawI (by first | decide | omega) (by first | decide | omega) fun i li hi=>?_
 walk_at "ds"
 obtain⟨c,ec,hc⟩:=atI_ex (xs:=y.cps.toList) li (by rw [len_toList];exact hi)
 refine⟨by omega,c,ec,?_⟩
 refine drawI (by first | decide | omega) (by first | decide | omega) fun j lj hj=>?_
 walk_at "ds"
 have all:∀ d ∈ [PyData.str (Str.ofString "\n"),PyData.str (Str.ofString "\t"),PyData.str (Str.ofString " "),PyData.str (Str.ofString "0"),PyData.str (Str.ofString "-"),PyData.str ⟨#[c]⟩],∃ x,d=.str x/\Tx 1 x:=by
  refine mem_two ⟨_,rfl,by decide +kernel,by unfold As;decide +kernel⟩ (mem_two ⟨_,rfl,by decide +kernel,by unfold As;decide +kernel⟩ (mem_two ⟨_,rfl,tx_sp⟩ (mem_two ⟨_,rfl,by decide +kernel,by unfold As;decide +kernel⟩ (mem_two ⟨_,rfl,tx_mi⟩ (mem_two ⟨_,rfl,Nat.le_refl 1,fun a ha=>?_⟩ mem_no)))))
  cases List.mem_singleton.mp ha
  exact y2 c hc
 obtain⟨d,ed,hd⟩:=atI_ex (xs:=[PyData.str (Str.ofString "\n"),PyData.str (Str.ofString "\t"),PyData.str (Str.ofString " "),PyData.str (Str.ofString "0"),PyData.str (Str.ofString "-"),PyData.str ⟨#[c]⟩]) lj hj
 obtain⟨x,rfl,hx⟩:=all d hd
 exact⟨_,ed,q x hx⟩
def sp__law_odd:DSp:=fun ws Q=>ws = [.pen]/\∀ d:D,(∀ x,d=.str x->Tx 10 x)->Q (.val d)
theorem ok__law_odd(B:Blt mg)(F:Fun K "_law_odd" "_law_odd" s__law_odd f fd)(C__law_draw:Cal P w K mg base 2 "_law_draw" ["_law_pen", "_law_many"] (cnSp K sp__law_draw)):FnOk P w K mg base CX0 3 f fd ["_law_pen"] (cnSp K sp__law_odd):=by
 refine F.dok sc__law_odd (fun ws Q h=>?_) (fun cdv A outer s H ws Q E hr h=>?_)
 ·obtain⟨rfl,_⟩:=h
  rfl
 obtain⟨rfl,q⟩:=h
 refine⟨_,(dss_cons (ds_set (i:=1) sc__law_odd.nd rfl (Or.inl rfl) (DF.de (df_lst (da_cons de_non (da_cons de_bl (da_cons de_bl (da_cons (de_neg de_int) (da_cons de_str (da_cons de_str (da_cons (DF.de (df_lst da_nil)) (da_cons (de_tup da_nil) (da_cons de_dic0 (da_cons (de_tup (da_cons de_int da_nil sE_C)) (da_cons (de_op o_pow (DE.dv de_int) (DE.dv de_int)) (da_cons de_str (da_cons (DF.de (df_lst (da_cons de_int (da_cons de_int da_nil sE_C) sE_C))) (da_cons (de_tup (da_cons (de_tup (da_cons de_int (da_cons de_int da_nil sE_C) sE_C)) da_nil sE_T)) (da_cons de_dic1 (da_cons (de_tup (da_cons de_int (da_cons de_int (da_cons de_int da_nil sE_C) sE_C) sE_C)) da_nil sE_T)) sE_T) sE_L) sE_C)) sE_T)) sE_T) sE_L) sE_C) sE_C)) sE_C) sE_C) sE_C)))) (dss_one (ds_ret (de_ix (dv_own 1) (de_call C__law_draw hr rfl (dp_vw 0 (dp_val (de_callB c_len rfl B.len PySem.boot_len (dav_cons (dv_own 1) dav_nil)) dp_nil))) (fun _ _=>rfl))))),?_⟩
 walk_at "ds"
 refine⟨by unfold CPow;decide,?_⟩
 refine drawI (by first | decide | omega) (by first | decide | omega) fun i li hi=>?_
 walk_at "ds"
 obtain⟨d,ed,hd⟩:=atI_ex (xs:=[PyData.none,.bool true,.bool false,.int (-1),.str (Str.ofString ""),.str (Str.ofString "silent"),.list [],.tuple [],.dict [],.tuple [.int 1],.int (10 ^ 30),.str (Str.ofString "a"),.list [.int 1,.int 2],.tuple [.tuple [.int 1,.int 2]],.dict [(.int 1,.int 2)],.tuple [.int 0,.int 1,.int 2]]) li hi
 refine⟨d,ed,q d fun x e=>?_⟩
 subst e
 simp only [List.mem_cons,List.not_mem_nil,or_false,reduceCtorEq,false_or,PyData.str.injEq] at hd
 rcases hd with rfl | rfl | rfl
 ·exact tx_no.mono (by decide)
 ·exact⟨by decide +kernel,by unfold As;decide +kernel⟩
 ·exact⟨by decide +kernel,by unfold As;decide +kernel⟩
structure Cn where
 a:Int
 b:Int
 c:Int
 d:Int
 k:Int
 t:Int
 p:Int
 r:Int
 m:Int
 f:Int
 u:Int
 v:Int
 w:Int
 x:Int
 y:Int
def Cn.gD(n:Cn):D:=.tuple [.int n.a,.int n.b,.int n.c,.int n.d]
def Cn.pD(n:Cn):D:=.tuple [n.gD,.int n.k,.int n.t]
def Cn.uD(n:Cn):D:=.tuple [.int n.p,.int n.r,.int n.m,.int n.f]
def Cn.tD(n:Cn):D:=.tuple [.int n.u,.int n.v,.int n.w,.int n.x,.int n.y]
def Cn.D(n:Cn):D:=.tuple [n.pD,n.uD,n.tD]
structure Cn.Ok(n:Cn):Prop where
 a:1<=n.a/\n.a<=1000
 b:1<=n.b/\n.b<=10
 c:0<=n.c/\n.c<=1000
 d:1<=n.d/\n.d<=1000
 k:1<=n.k/\n.k<=200
 t:0<=n.t/\n.t<=1000
 p:0<=n.p/\n.p<=1000
 r:1<=n.r/\n.r<=1000
 m:0<=n.m/\n.m<=10000
 f:0<=n.f/\n.f<=n.m
 u:1<=n.u/\n.u<=20
 v:1<=n.v/\n.v<=n.x
 w:1<=n.w/\n.w<=10
 x:n.x<=1000
 y:1<=n.y/\n.y<=10
def sp__law_caller:DSp:=fun ws Q=>ws = [.pen]/\∀ n:Cn,n.Ok->Q (.val n.D)
theorem ok__law_caller(B:Blt mg)(F:Fun K "_law_caller" "_law_caller" s__law_caller f fd)(C__law_draw:Cal P w K mg base 2 "_law_draw" ["_law_pen", "_law_many"] (cnSp K sp__law_draw)):FnOk P w K mg base CX0 3 f fd ["_law_pen"] (cnSp K sp__law_caller):=by
 refine F.dok sc__law_caller (fun ws Q h=>?_) (fun cdv A outer s H ws Q E hr h=>?_)
 ·obtain⟨rfl,_⟩:=h
  rfl
 obtain⟨rfl,q⟩:=h
 refine⟨_,(dss_cons (ds_set (i:=1) sc__law_caller.nd rfl (Or.inl rfl) (de_tup (da_cons (de_op o_add (DE.dv de_int) (DE.dv (de_call C__law_draw hr rfl (dp_vw 0 (dp_val de_int dp_nil sE_C))))) (da_cons (de_op o_add (DE.dv de_int) (DE.dv (de_call C__law_draw hr rfl (dp_vw 0 (dp_val de_int dp_nil sE_C))))) (da_cons (de_call C__law_draw hr rfl (dp_vw 0 (dp_val de_int dp_nil sE_C))) (da_cons (de_op o_add (DE.dv de_int) (DE.dv (de_call C__law_draw hr rfl (dp_vw 0 (dp_val de_int dp_nil sE_C))))) da_nil)))))) (dss_cons (ds_set (i:=2) sc__law_caller.nd rfl (Or.inl rfl) (de_tup (da_cons (de_var 1) (da_cons (de_op o_add (DE.dv de_int) (DE.dv (de_call C__law_draw hr rfl (dp_vw 0 (dp_val de_int dp_nil sE_C))))) (da_cons (de_call C__law_draw hr rfl (dp_vw 0 (dp_val de_int dp_nil sE_C))) da_nil))))) (dss_cons (ds_par (i:=3) (j:=4) rfl sc__law_caller.nd rfl rfl (by decide) rfl rfl (da_cons (de_call C__law_draw hr rfl (dp_vw 0 (dp_val de_int dp_nil sE_C))) (da_cons (de_op o_add (DE.dv de_int) (DE.dv (de_call C__law_draw hr rfl (dp_vw 0 (dp_val de_int dp_nil sE_C))))) da_nil)) rfl) (dss_cons (ds_set (i:=5) sc__law_caller.nd rfl (Or.inl rfl) (de_tup (da_cons (de_call C__law_draw hr rfl (dp_vw 0 (dp_val de_int dp_nil sE_C))) (da_cons (de_op o_add (DE.dv de_int) (DE.dv (de_call C__law_draw hr rfl (dp_vw 0 (dp_val de_int dp_nil sE_C))))) (da_cons (de_var 3) (da_cons (de_call C__law_draw hr rfl (dp_vw 0 (dp_val (de_op o_add (dv_own 3) (DE.dv de_int)) dp_nil))) da_nil)))))) (dss_cons (ds_set (i:=6) sc__law_caller.nd rfl (Or.inl rfl) (de_tup (da_cons (de_op o_add (DE.dv de_int) (DE.dv (de_call C__law_draw hr rfl (dp_vw 0 (dp_val de_int dp_nil sE_C))))) (da_cons (de_var 4) (da_cons (de_op o_add (DE.dv de_int) (DE.dv (de_call C__law_draw hr rfl (dp_vw 0 (dp_val de_int dp_nil sE_C))))) (da_cons (de_op o_add (dv_own 4) (DE.dv (de_call C__law_draw hr rfl (dp_vw 0 (dp_val de_int dp_nil sE_C))))) (da_cons (de_op o_add (DE.dv de_int) (DE.dv (de_call C__law_draw hr rfl (dp_vw 0 (dp_val de_int dp_nil sE_C))))) da_nil))))))) (dss_one (ds_ret (de_tup (da_cons (de_var 2) (da_cons (de_var 5) (da_cons (de_var 6) da_nil))))))))))),?_⟩
 walk_at "ds"
 refine drawI (by first | decide | omega) (by first | decide | omega) fun a la ha=>?_
 walk_at "ds"
 refine drawI (by first | decide | omega) (by first | decide | omega) fun b lb hb=>?_
 walk_at "ds"
 refine drawI (by first | decide | omega) (by first | decide | omega) fun c lc hc=>?_
 walk_at "ds"
 refine drawI (by first | decide | omega) (by first | decide | omega) fun d ld hd=>?_
 walk_at "ds"
 refine drawI (by first | decide | omega) (by first | decide | omega) fun k lk hk=>?_
 walk_at "ds"
 refine drawI (by first | decide | omega) (by first | decide | omega) fun t lt ht=>?_
 walk_at "ds"
 refine drawI (by first | decide | omega) (by first | decide | omega) fun m lm hm=>?_
 walk_at "ds"
 refine drawI (by first | decide | omega) (by first | decide | omega) fun v lv hv=>?_
 walk_at "ds"
 refine drawI (by first | decide | omega) (by first | decide | omega) fun p lp hp=>?_
 walk_at "ds"
 refine drawI (by first | decide | omega) (by first | decide | omega) fun r lr hr=>?_
 walk_at "ds"
 refine drawI (by first | decide | omega) (by first | decide | omega) fun f lf hf=>?_
 walk_at "ds"
 refine drawI (by first | decide | omega) (by first | decide | omega) fun u lu hu=>?_
 walk_at "ds"
 refine drawI (by first | decide | omega) (by first | decide | omega) fun w1 lw1 hw1=>?_
 walk_at "ds"
 refine drawI (by first | decide | omega) (by first | decide | omega) fun x lx hx=>?_
 walk_at "ds"
 refine drawI (by first | decide | omega) (by first | decide | omega) fun y ly hy=>?_
 walk_at "ds"
 exact q ⟨1+a,1+b,c,1+d,1+k,t,p,1+r,m,f,1+u,1+v,1+w1,1+v+x,1+y⟩ ⟨by simp only [];omega,by simp only [];omega,by simp only [];omega,by simp only [];omega,by simp only [];omega,by simp only [];omega,by simp only [];omega,by simp only [];omega,by simp only [];omega,by simp only [];omega,by simp only [];omega,by simp only [];omega,by simp only [];omega,by simp only [];omega,by simp only [];omega⟩
def sp__law_great:DSp:=fun ws Q=>ws = [.pen]/\∀ n:Cn,n.Ok->Q (.val n.D)
theorem ok__law_great(B:Blt mg)(F:Fun K "_law_great" "_law_great" s__law_great f fd)(C__law_draw:Cal P w K mg base 2 "_law_draw" ["_law_pen", "_law_many"] (cnSp K sp__law_draw))(C__law_caller:Cal P w K mg base 3 "_law_caller" ["_law_pen"] (cnSp K sp__law_caller)):FnOk P w K mg base CX0 4 f fd ["_law_pen"] (cnSp K sp__law_great):=by
 refine F.dok sc__law_great (fun ws Q h=>?_) (fun cdv A outer s H ws Q E hr h=>?_)
 ·obtain⟨rfl,_⟩:=h
  rfl
 obtain⟨rfl,q⟩:=h
 refine⟨_,(dss_cons (ds_set (i:=1) sc__law_great.nd rfl (Or.inl rfl) (de_call C__law_draw hr rfl (dp_vw 0 (dp_val de_int dp_nil sE_C)))) (dss_cons (ds_if (dt_cmp (o_eq hr) (dv_own 1) (DE.dv de_int) (nomark _)) (dss_one (ds_ret (de_call C__law_caller hr rfl (dp_vw 0 dp_nil)))) dss_nil) (dss_cons (ds_par3 (i:=2) (j:=3) (k:=4) rfl sc__law_great.nd rfl rfl rfl (by decide) (by decide) (by decide) rfl rfl rfl (da_cons (de_op o_add (DE.dv de_int) (DE.dv (de_call C__law_draw hr rfl (dp_vw 0 (dp_val de_int dp_nil sE_C))))) (da_cons (de_call C__law_draw hr rfl (dp_vw 0 (dp_val de_int dp_nil sE_C))) (da_cons (de_op o_add (DE.dv de_int) (DE.dv (de_call C__law_draw hr rfl (dp_vw 0 (dp_val de_int dp_nil sE_C))))) da_nil))) rfl) (dss_cons (ds_set (i:=5) sc__law_great.nd rfl (Or.inl rfl) (de_tup (da_cons (de_var 4) (da_cons (de_op o_add (DE.dv de_int) (DE.dv (de_call C__law_draw hr rfl (dp_vw 0 (dp_val de_int dp_nil sE_C))))) (da_cons (de_call C__law_draw hr rfl (dp_vw 0 (dp_val de_int dp_nil sE_C))) (da_cons (de_op o_add (DE.dv de_int) (DE.dv (de_call C__law_draw hr rfl (dp_vw 0 (dp_val de_int dp_nil sE_C))))) da_nil)))))) (dss_cons (ds_set (i:=6) sc__law_great.nd rfl (Or.inl rfl) (de_tup (da_cons (de_call C__law_draw hr rfl (dp_vw 0 (dp_val de_int dp_nil sE_C))) (da_cons (de_op o_add (DE.dv de_int) (DE.dv (de_call C__law_draw hr rfl (dp_vw 0 (dp_val de_int dp_nil sE_C))))) (da_cons (de_var 3) (da_cons (de_call C__law_draw hr rfl (dp_vw 0 (dp_val (de_op o_add (dv_own 3) (DE.dv de_int)) dp_nil))) da_nil)))))) (dss_cons (ds_par (i:=7) (j:=8) rfl sc__law_great.nd rfl rfl (by decide) rfl rfl (da_cons (de_op o_add (dv_own 2) (DE.dv (de_call C__law_draw hr rfl (dp_vw 0 (dp_val (de_op o_sub (DE.dv de_int) (dv_own 2)) dp_nil))))) (da_cons (de_op o_add (DE.dv de_int) (DE.dv (de_call C__law_draw hr rfl (dp_vw 0 (dp_val de_int dp_nil sE_C))))) da_nil)) rfl) (dss_cons (ds_set (i:=9) sc__law_great.nd rfl (Or.inl rfl) (de_tup (da_cons (de_op o_add (DE.dv de_int) (DE.dv (de_call C__law_draw hr rfl (dp_vw 0 (dp_val de_int dp_nil sE_C))))) (da_cons (de_var 2) (da_cons (de_op o_add (DE.dv de_int) (DE.dv (de_call C__law_draw hr rfl (dp_vw 0 (dp_val de_int dp_nil sE_C))))) (da_cons (de_var 7) (da_cons (de_var 8) da_nil))))))) (dss_cons (ds_if (dt_cmp (o_eq hr) (dv_own 1) (DE.dv de_int) (nomark _)) (dss_one (ds_ret (de_tup (da_cons (de_tup (da_cons (de_var 5) (da_cons (de_op o_add (DE.dv de_int) (DE.dv (de_call C__law_draw hr rfl (dp_vw 0 (dp_val de_int dp_nil sE_C))))) (da_cons (de_call C__law_draw hr rfl (dp_vw 0 (dp_val de_int dp_nil sE_C))) da_nil)))) (da_cons (de_var 6) (da_cons (de_var 9) da_nil)) sE_T)))) dss_nil) (dss_one (ds_ret (de_tup (da_cons (de_tup (da_cons (de_tup (da_cons de_int (da_cons de_int (da_cons de_int (da_cons de_int da_nil sE_C) sE_C) sE_C) sE_C)) (da_cons de_int (da_cons de_int da_nil sE_C) sE_C) sE_T)) (da_cons (de_tup (da_cons de_int (da_cons de_int (da_cons de_int (da_cons de_int da_nil sE_C) sE_C) sE_C) sE_C)) (da_cons (de_tup (da_cons de_int (da_cons de_int (da_cons de_int (da_cons de_int (da_cons de_int da_nil sE_C) sE_C) sE_C) sE_C) sE_C)) da_nil sE_T) sE_T) sE_T)))))))))))),?_⟩
 refine dseq_by (fun σ=>∃ way:Int,(way=0\/way=1\/way=2)/\σ = [some .pen,some (.val (.int way)),none,none,none,none,none,none,none,none]) (fun N hN=>?_) ?_
 ·walk_at "ds"
  refine drawI (by first | decide | omega) (by first | decide | omega) fun way lway hway=>?_
  walk_at "ds"
  exact hN _ ⟨way,by omega,rfl⟩
 rintro σ ⟨way,hw,rfl⟩
 refine dseq_by (fun σ=>way≠0/\σ = [some .pen,some (.val (.int way)),none,none,none,none,none,none,none,none]) (fun N hN=>?_) ?_
 ·walk_at "ds"
  by_cases c0:way=0
  ·rw [if_pos c0]
   exact⟨rfl,q⟩
  ·rw [if_neg c0]
   exact hN _ ⟨c0,rfl⟩
 rintro σ ⟨hw0,rfl⟩
 refine dseq_by (fun σ=>∃ v m a:Int,(1<=v/\v<=1000)/\(0<=m/\m<=10000)/\(1<=a/\a<=1000)/\σ = [some .pen,some (.val (.int way)),some (.val (.int v)),some (.val (.int m)),some (.val (.int a)),none,none,none,none,none]) (fun N hN=>?_) ?_
 ·walk_at "ds"
  refine drawI (by first | decide | omega) (by first | decide | omega) fun v lv hv=>?_
  walk_at "ds"
  refine drawI (by first | decide | omega) (by first | decide | omega) fun m lm hm=>?_
  walk_at "ds"
  refine drawI (by first | decide | omega) (by first | decide | omega) fun a la ha=>?_
  walk_at "ds"
  exact hN _ ⟨_,_,_,by omega,by omega,by omega,rfl⟩
 rintro σ ⟨v,m,a,bv,bm,ba,rfl⟩
 refine dseq_by (fun σ=>∃ b c d:Int,(1<=b/\b<=10)/\(0<=c/\c<=1000)/\(1<=d/\d<=1000)/\σ = [some .pen,some (.val (.int way)),some (.val (.int v)),some (.val (.int m)),some (.val (.int a)),some (.val (.tuple [.int a,.int b,.int c,.int d])),none,none,none,none]) (fun N hN=>?_) ?_
 ·walk_at "ds"
  refine drawI (by first | decide | omega) (by first | decide | omega) fun b lb hb=>?_
  walk_at "ds"
  refine drawI (by first | decide | omega) (by first | decide | omega) fun c lc hc=>?_
  walk_at "ds"
  refine drawI (by first | decide | omega) (by first | decide | omega) fun d ld hd=>?_
  walk_at "ds"
  exact hN _ ⟨_,_,_,by omega,by omega,by omega,rfl⟩
 rintro σ ⟨b,c,d,bb,bc,bd,rfl⟩
 refine dseq_by (fun σ=>∃ p r f:Int,(0<=p/\p<=1000)/\(1<=r/\r<=1000)/\(0<=f/\f<=m)/\σ = [some .pen,some (.val (.int way)),some (.val (.int v)),some (.val (.int m)),some (.val (.int a)),some (.val (.tuple [.int a,.int b,.int c,.int d])),some (.val (.tuple [.int p,.int r,.int m,.int f])),none,none,none]) (fun N hN=>?_) ?_
 ·walk_at "ds"
  refine drawI (by first | decide | omega) (by first | decide | omega) fun p lp hp=>?_
  walk_at "ds"
  refine drawI (by first | decide | omega) (by first | decide | omega) fun r lr hr=>?_
  walk_at "ds"
  refine drawI (by first | decide | omega) (by first | decide | omega) fun f lf hf=>?_
  walk_at "ds"
  exact hN _ ⟨_,_,_,by omega,by omega,by omega,rfl⟩
 rintro σ ⟨p,r,f,bp,br,bf,rfl⟩
 refine dseq_by (fun σ=>∃ x y:Int,(v<=x/\x<=1000)/\(1<=y/\y<=10)/\σ = [some .pen,some (.val (.int way)),some (.val (.int v)),some (.val (.int m)),some (.val (.int a)),some (.val (.tuple [.int a,.int b,.int c,.int d])),some (.val (.tuple [.int p,.int r,.int m,.int f])),some (.val (.int x)),some (.val (.int y)),none]) (fun N hN=>?_) ?_
 ·walk_at "ds"
  refine drawI (by first | decide | omega) (by first | decide | omega) fun x lx hx=>?_
  walk_at "ds"
  refine drawI (by first | decide | omega) (by first | decide | omega) fun y ly hy=>?_
  walk_at "ds"
  exact hN _ ⟨_,_,by omega,by omega,rfl⟩
 rintro σ ⟨x,y,bx,byy,rfl⟩
 refine dseq_by (fun σ=>∃ u w1:Int,(1<=u/\u<=20)/\(1<=w1/\w1<=10)/\σ = [some .pen,some (.val (.int way)),some (.val (.int v)),some (.val (.int m)),some (.val (.int a)),some (.val (.tuple [.int a,.int b,.int c,.int d])),some (.val (.tuple [.int p,.int r,.int m,.int f])),some (.val (.int x)),some (.val (.int y)),some (.val (.tuple [.int u,.int v,.int w1,.int x,.int y]))]) (fun N hN=>?_) ?_
 ·walk_at "ds"
  refine drawI (by first | decide | omega) (by first | decide | omega) fun u lu hu=>?_
  walk_at "ds"
  refine drawI (by first | decide | omega) (by first | decide | omega) fun w1 lw1 hw1=>?_
  walk_at "ds"
  exact hN _ ⟨_,_,by omega,by omega,rfl⟩
 rintro σ ⟨u,w1,bu,bw,rfl⟩
 walk_at "ds"
 by_cases c1:way=1
 ·rw [if_pos c1]
  refine drawI (by first | decide | omega) (by first | decide | omega) fun k lk hk=>?_
  walk_at "ds"
  refine drawI (by first | decide | omega) (by first | decide | omega) fun t lt ht=>?_
  walk_at "ds"
  exact q ⟨a,b,c,d,1+k,t,p,r,m,f,u,v,w1,x,y⟩ ⟨by simp only [];omega,by simp only [];omega,by simp only [];omega,by simp only [];omega,by simp only [];omega,by simp only [];omega,by simp only [];omega,by simp only [];omega,by simp only [];omega,by simp only [];omega,by simp only [];omega,by simp only [];omega,by simp only [];omega,by simp only [];omega,by simp only [];omega⟩
 ·rw [if_neg c1]
  exact q ⟨1000,10,1000,1000,200,1000,1000,1000,10000,10000,20,1000,10,1000,10⟩ ⟨by decide,by decide,by decide,by decide,by decide,by decide,by decide,by decide,by decide,by decide,by decide,by decide,by decide,by decide,by decide⟩
end
section
variable {P:Program}{w:World}{K:PySem.W.Frag}{mg:Str->Option Value}{base:Heap}{f:Addr}{fd:FuncData}
def rowT(w:Str)(ns:List Int):Str:=Txt.join (Str.ofString " ") (w::ns.map numT)
theorem rowT_split{w:Str}{ns:List Int}(hs:32∉w.cps.toList)(hn:∀ n∈ns,0<=n/\n<100000000):Txt.split (rowT w ns) (Str.ofString " ")=w::ns.map numT:=by
 unfold rowT
 rw [txt_join,sp_is]
 refine split_join 32 (by simp) fun x hx=>?_
 rcases List.mem_cons.mp hx with rfl | hx
 ·exact hs
 ·obtain⟨n,hm,rfl⟩:=List.mem_map.mp hx
  have hb:=hn n hm
  intro z
  have:=(num_t hb.1 (by omega)).dig 32 z
  omega
theorem rowT_tx{w:Str}{ns:List Int}(hw:Tx 10 w)(hl:ns.length<=10)(hn:∀ n∈ns,0<=n/\n<100000000):(∀ y∈w::ns.map numT,Tx 10 y)/\Tx 200 (rowT w ns):=by
 have h1:∀ y∈w::ns.map numT,Tx 10 y:=fun y hy=>by
  rcases List.mem_cons.mp hy with rfl | hy
  ·exact hw
  ·obtain⟨n,hm,rfl⟩:=List.mem_map.mp hy
   have hb:=hn n hm
   exact tx_num hb.1 (by omega)
 exact⟨h1,(tx_join tx_sp h1).mono (by rw [List.length_cons,List.length_map];omega)⟩
def Cn.gs(n:Cn):List Int:=[n.a,n.b,n.c,n.d]
def Cn.ps(n:Cn):List Int:=[n.k,n.t]
def Cn.us(n:Cn):List Int:=[n.p,n.r,n.m,n.f]
def Cn.ts(n:Cn):List Int:=[n.u,n.v,n.w,n.x,n.y]
theorem Cn.Ok.gs{n:Cn}(h:n.Ok):∀ i∈n.gs,0<=i/\i<100000000:=by
 have:=h.a;have:=h.b;have:=h.c;have:=h.d
 intro i hi
 simp only [Cn.gs,List.mem_cons,List.not_mem_nil,or_false] at hi
 omega
theorem Cn.Ok.ps{n:Cn}(h:n.Ok):∀ i∈n.ps,0<=i/\i<100000000:=by
 have:=h.k;have:=h.t
 intro i hi
 simp only [Cn.ps,List.mem_cons,List.not_mem_nil,or_false] at hi
 omega
theorem Cn.Ok.us{n:Cn}(h:n.Ok):∀ i∈n.us,0<=i/\i<100000000:=by
 have:=h.p;have:=h.r;have:=h.m;have:=h.f
 intro i hi
 simp only [Cn.us,List.mem_cons,List.not_mem_nil,or_false] at hi
 omega
theorem Cn.Ok.ts{n:Cn}(h:n.Ok):∀ i∈n.ts,0<=i/\i<100000000:=by
 have:=h.u;have:=h.v;have:=h.w;have:=h.x;have:=h.y
 intro i hi
 simp only [Cn.ts,List.mem_cons,List.not_mem_nil,or_false] at hi
 omega
def RwT(x:Str):Prop:=Tx 200 x/\2<=(Txt.split x (Str.ofString " ")).length/\(Txt.split x (Str.ofString " ")).length<=11
def sp__law_rows:DSp:=fun ws Q=>∃ n:Cn,ws = [.val n.D]/\n.Ok/\∀ rows:List Str,rows.length=4->(∀ x∈rows,RwT x)->Q (.new (rows.map PyData.str))
theorem ok__law_rows(B:Blt mg)(F:Fun K "_law_rows" "_law_rows" s__law_rows f fd):FnOk P w K mg base CX0 1 f fd ["_law_caller_here"] (cnSp K sp__law_rows):=by
 refine F.dok sc__law_rows (fun ws Q h=>?_) (fun cdv A outer s H ws Q E hr h=>?_)
 ·obtain⟨n,rfl,_⟩:=h
  rfl
 obtain⟨n,rfl,ho,q⟩:=h
 have wd:∀ k,k<=3->Tx 10 (kwT k)/\32∉(kwT k).cps.toList:=fun k hk=>by
  obtain rfl | rfl | rfl | rfl:k=0\/k=1\/k=2\/k=3:=by omega
  all_goals exact⟨⟨by decide +kernel,by unfold As;decide +kernel⟩,by decide +kernel⟩
 simp only [Cn.D,Cn.pD,Cn.gD,Cn.uD,Cn.tD]
 refine⟨_,(dss_cons (ds_asg (de_var 0) (dg_seq (n:=3) rfl (dgs_cons (dg_seq (n:=3) rfl (dgs_cons (dg_name (i:=1) sc__law_rows.nd rfl (Or.inl rfl)) (dgs_cons (dg_name (i:=2) sc__law_rows.nd rfl (Or.inl rfl)) (dgs_cons (dg_name (i:=3) sc__law_rows.nd rfl (Or.inl rfl)) dgs_nil)))) (dgs_cons (dg_name (i:=4) sc__law_rows.nd rfl (Or.inl rfl)) (dgs_cons (dg_name (i:=5) sc__law_rows.nd rfl (Or.inl rfl)) dgs_nil))))) (dss_cons (ds_set (i:=6) sc__law_rows.nd rfl (Or.inl rfl) (DF.de (df_lst (da_cons (de_op o_add (DE.dv (de_tup (da_cons de_str da_nil sE_C))) (dv_own 1)) (da_cons (de_tup (da_cons de_str (da_cons (de_var 2) (da_cons (de_var 3) da_nil)) sE_C)) (da_cons (de_op o_add (DE.dv (de_tup (da_cons de_str da_nil sE_C))) (dv_own 4)) (da_cons (de_op o_add (DE.dv (de_tup (da_cons de_str da_nil sE_C))) (dv_own 5)) da_nil)) sE_T))))) (dss_one (ds_retF (df_lc rfl (N':=["_law_row"]) (capt:=[]) (k:=1) (js:=[]) ⟨rfl,by decide,rfl,by decide,.nil,rfl,.nil,rfl,by decide⟩ (diw_seq (dv_own 6)) (fun _ _ _ _=>(dg_name (i:=0) (show List.Nodup (["_law_row"]:List Str) by decide +kernel) rfl (Or.inl rfl) (Or.inr rfl))) (fun _ _ _ _=>dts_nil) (fun _ _ _ _=>(de_tjoin de_str (DE.dv (DF.de (df_lc rfl (N':=["_law_word"]) (capt:=[]) (k:=1) (js:=[]) ⟨rfl,by decide,rfl,by decide,.nil,rfl,.nil,rfl,by decide⟩ (diw_seq (dv_own 0)) (fun _ _ _ _=>(dg_name (i:=0) (show List.Nodup (["_law_word"]:List Str) by decide +kernel) rfl (Or.inl rfl) (Or.inr rfl))) (fun _ _ _ _=>dts_nil) (fun _ _ _ _=>(de_callTy c_strA rfl B.strT boot_str (dav_cons (dv_own 0) dav_nil))))))))))))),?_⟩
 walk_at "ds"
 have hall:∀ p ∈ [(kwT 0,n.gs),(kwT 1,n.ps),(kwT 2,n.us),(kwT 3,n.ts)],Tx 10 p.1/\32∉p.1.cps.toList/\1<=p.2.length/\p.2.length<=10/\∀ m∈p.2,0<=m/\m<100000000:=fun p hp=>by
  simp only [List.mem_cons,List.not_mem_nil,or_false] at hp
  rcases hp with rfl | rfl | rfl | rfl
  ·exact⟨(wd 0 (by decide)).1,(wd 0 (by decide)).2,by simp [Cn.gs],by simp [Cn.gs],ho.gs⟩
  ·exact⟨(wd 1 (by decide)).1,(wd 1 (by decide)).2,by simp [Cn.ps],by simp [Cn.ps],ho.ps⟩
  ·exact⟨(wd 2 (by decide)).1,(wd 2 (by decide)).2,by simp [Cn.us],by simp [Cn.us],ho.us⟩
  ·exact⟨(wd 3 (by decide)).1,(wd 3 (by decide)).2,by simp [Cn.ts],by simp [Cn.ts],ho.ts⟩
 refine lcD_mapT (fun p:Str×List Int=>PyData.tuple (.str p.1::p.2.map PyData.int)) (fun p=>.str (rowT p.1 p.2)) (as:=[(kwT 0,n.gs),(kwT 1,n.ps),(kwT 2,n.us),(kwT 3,n.ts)]) (fun p hp k hk=>?_) ?_
 ·obtain⟨h1,_,_,h2,h3⟩:=hall p hp
  walk_at "ds"
  rw [List.length_map]
  have hm:(PyData.str p.1::p.2.map PyData.int)=((none:Option Int)::p.2.map some).map fun o=>match o with | none=>PyData.str p.1 | some i=>PyData.int i:=by
   rw [List.map_cons,List.map_map]
   rfl
  rw [hm]
  refine⟨by omega,lcD_mapT _ (fun o=>match o with | none=>PyData.str p.1 | some i=>PyData.str (numT i)) (fun o hmo k' hk'=>?_) ?_⟩
  ·cases o with
   | none =>
    walk_at "ds"
    exact hk'
   | some i =>
    have hi:=h3 i (by simpa using hmo)
    have shx:Sh (.int i) 41 0:=Sh.intB (by omega) (by omega)
    walk_at "ds"
    exact⟨of_decide_eq_true (by simpa [PyData.showable] using shx.sho),hk'⟩
  ·refine⟨p.1::p.2.map numT,?_,join_ok tx_sp (rowT_tx h1 h2 h3).1 (by rw [List.length_cons,List.length_map];omega),hk⟩
   rw [List.map_cons,List.map_cons,List.map_map,List.map_map]
   rfl
 ·have:=q ([(kwT 0,n.gs),(kwT 1,n.ps),(kwT 2,n.us),(kwT 3,n.ts)].map fun p=>rowT p.1 p.2) rfl (fun x hx=>by
   obtain⟨p,hp,rfl⟩:=List.mem_map.mp hx
   obtain⟨h1,h2,h3,h4,h5⟩:=hall p hp
   exact⟨(rowT_tx h1 h4 h5).2,by rw [rowT_split h2 h5,List.length_cons,List.length_map];omega,by rw [rowT_split h2 h5,List.length_cons,List.length_map];omega⟩)
  rw [List.map_map] at this
  exact this
end
section
variable {P:Program}{w:World}{K:PySem.W.Frag}{mg:Str->Option Value}{base:Heap}{f:Addr}{fd:FuncData}
def sp__law_bent:DSp:=fun ws Q=>∃ rows:List Str,ws = [.pen,.val (.list (rows.map PyData.str))]/\rows.length=4/\(∀ x∈rows,RwT x)/\∀ x:Str,Tx 9000 x->Q (.val (.str x))
theorem wit_bd:∀(ns:List Int) (bs:List (Int×Int)),ns.length=bs.length->(∀ b∈bs,0<=b.1/\b.2<=10000)->witB ns bs=true->∀ i∈ns,0<=i/\i<=10000
 | [],_,_,_,_=>fun i hi=>by cases hi
 | n::ns,[],h,_,_=>by cases h
 | n::ns,b::bs,h,hb,e=>by
  unfold witB at e
  rw [List.zip_cons_cons,List.all_cons,Bool.and_eq_true,Bool.and_eq_true,decide_eq_true_eq,decide_eq_true_eq] at e
  have h0:=hb b List.mem_cons_self
  have:b.1<=n/\n<=b.2:=e.1
  exact mem_two ⟨by omega,by omega⟩ (wit_bd ns bs (by simpa using h) (fun b h=>hb b (List.mem_cons_of_mem _ h)) e.2)
theorem rg_bd{k:Nat}{ns:List Int}(hk:k<=3)(h:rgB k ns=true):ns.length<=5/\∀ i∈ns,0<=i/\i<=10000:=by
 obtain rfl | rfl | rfl | rfl:k=0\/k=1\/k=2\/k=3:=by omega
 ·have e:(decide (ns.length=4) && witB ns [(1,1000),(1,10),(0,1000),(1,1000)])=true:=h
  rw [Bool.and_eq_true,decide_eq_true_eq] at e
  exact⟨by omega,wit_bd ns _ (by rw [e.1];rfl) (by simp) e.2⟩
 ·have e:(decide (ns.length=2) && witB ns [(1,200),(0,1000)])=true:=h
  rw [Bool.and_eq_true,decide_eq_true_eq] at e
  exact⟨by omega,wit_bd ns _ (by rw [e.1];rfl) (by simp) e.2⟩
 ·have e:(decide (ns.length=4) && witB ns [(0,1000),(1,1000),(0,10000),(0,ns.getD 2 0)])=true:=h
  rw [Bool.and_eq_true,decide_eq_true_eq] at e
  obtain⟨a,b,c,d,rfl⟩:=len4 e.1
  have e2:=e.2
  simp [witB] at e2
  exact⟨by simp,mem_two (by omega) (mem_two (by omega) (mem_two (by omega) (mem_two (by omega) mem_no)))⟩
 ·have e:(decide (ns.length=5) && witB ns [(1,20),(1,1000),(1,10),(ns.getD 1 0,1000),(1,10)])=true:=h
  rw [Bool.and_eq_true,decide_eq_true_eq] at e
  obtain⟨a,b,c,d,f,rfl⟩:=len5 e.1
  have e2:=e.2
  simp [witB] at e2
  exact⟨by simp,mem_two (by omega) (mem_two (by omega) (mem_two (by omega) (mem_two (by omega) (mem_two (by omega) mem_no))))⟩
theorem sh_row{ns:List Int}(h:ns.length<=5/\∀ i∈ns,0<=i/\i<=10000):∀ x∈ns.map PyData.int,Sh x 41 0:=fun x hx=>by
 obtain⟨i,hi,rfl⟩:=List.mem_map.mp hx
 have:=h.2 i hi
 exact Sh.intB (by omega) (by omega)
theorem sh_text(i:Int)(h:0<=i/\i<=10):Sh (.tuple [.str "text",.int i]) 20000 3:=(Sh.tup (n:=41) (k:=0) (m:=2) (mem_two ⟨by decide +kernel,by decide +kernel,by decide +kernel,by decide +kernel⟩ (mem_two (Sh.intB (by omega) (by omega)) mem_no)) (Nat.le_refl 2)).mono (by decide) (by decide)
theorem sh_due(d:D):Sh (dueD d) 20000 3:=by
 unfold dueD
 split
 ·next x =>
  generalize Txt.split x (Str.ofString "\n")=rows
  by_cases g:∀ j,j<4->rgB j (rwK rows j)=true
  ·by_cases l:rows.length=4
   ·rw [due_good g l]
    have b0:=rg_bd (by decide) (g 0 (by decide))
    have b1:=rg_bd (by decide) (g 1 (by decide))
    have b2:=rg_bd (by decide) (g 2 (by decide))
    have b3:=rg_bd (by decide) (g 3 (by decide))
    have s0:Sh (gC rows) 300 1:=(Sh.tup (n:=41) (k:=0) (m:=5) (sh_row b0) (by rw [List.length_map];exact b0.1)).mono (by decide) (by decide)
    have s1:Sh (pC rows) 3000 2:=(Sh.tup (n:=300) (k:=1) (m:=6) (mem_two s0 fun x hx=>(sh_row b1 x hx).mono (by decide) (by decide)) (by rw [List.length_cons,List.length_map];have:(rowR rows 1 (Str.ofString "plan")).length<=5:=b1.1;omega)).mono (by decide) (by decide)
    have s2:Sh (uC rows) 3000 2:=(Sh.tup (n:=41) (k:=0) (m:=5) (sh_row b2) (by rw [List.length_map];exact b2.1)).mono (by decide) (by decide)
    have s3:Sh (tC rows) 3000 2:=(Sh.tup (n:=41) (k:=0) (m:=5) (sh_row b3) (by rw [List.length_map];exact b3.1)).mono (by decide) (by decide)
    exact(Sh.tup (n:=3000) (k:=2) (m:=3) (mem_two s1 (mem_two s2 (mem_two s3 mem_no))) (Nat.le_refl 3)).mono (by decide) (by decide)
   ·rw [due_long g l]
    exact sh_text 5 (by decide)
  ·have:∃ n,n<=3/\(∀ j,j<n->rgB j (rwK rows j)=true)/\rgB n (rwK rows n)=false:=by
    cases h0:rgB 0 (rwK rows 0) with
    | false=>exact⟨0,by decide,fun j hj=>absurd hj (by omega),h0⟩
    | true=>cases h1:rgB 1 (rwK rows 1) with
     | false=>exact⟨1,by decide,fun j hj=>(by obtain rfl:j=0:=(by omega);exact h0),h1⟩
     | true=>cases h2:rgB 2 (rwK rows 2) with
      | false=>exact⟨2,by decide,fun j hj=>(by rcases (show j=0\/j=1 by omega) with rfl | rfl;exact h0;exact h1),h2⟩
      | true=>cases h3:rgB 3 (rwK rows 3) with
       | false=>exact⟨3,by decide,fun j hj=>(by rcases (show j=0\/j=1\/j=2 by omega) with rfl | rfl | rfl;exact h0;exact h1;exact h2),h3⟩
       | true=>exact absurd (fun j hj=>by
         obtain rfl | rfl | rfl | rfl:j=0\/j=1\/j=2\/j=3:=by omega
         ·exact h0
         ·exact h1
         ·exact h2
         ·exact h3) g
   obtain⟨n,h1,h2,h3⟩:=this
   rw [due_bad h1 h2 h3]
   exact sh_text _ (by omega)
 ·exact sh_text 0 (by decide)
theorem gReprA_lst{xs:List D}{Q:D->Prop}(h:Lay (.list xs)/\(PyData.list xs).showable=true/\(PyData.list xs).shown.length<=sizeLine)(q:Q (.str (PyData.list xs).shown)):gReprA (.list xs) Q:=⟨h.1,h.2.1,h.2.2,q⟩
theorem pr_all{p:D->Prop}:∀{ds ys:List D},Paired (fun _ y=>p y) ds ys->∀ y∈ys,p y
 | _,_,.nil=>fun y h=>by cases h
 | _,_,.cons h r=>mem_two h (pr_all r)
theorem tx_nl:Tx 1 (Str.ofString "\n"):=⟨by decide +kernel,by unfold As;decide +kernel⟩
theorem ok_law(B:Blt mg)(F:Fun K "law" "law" s_law f fd)(C__law_cell_at:Cal P w K mg base 1 "_law_cell_at" ["_law_script", "_law_k"] (cnSp K sp__law_cell_at))(C__law_pen_of:Cal P w K mg base 1 "_law_pen_of" ["_law_cell"] (cnSp K sp__law_pen_of))(C__law_draw:Cal P w K mg base 2 "_law_draw" ["_law_pen", "_law_many"] (cnSp K sp__law_draw))(C__law_great:Cal P w K mg base 4 "_law_great" ["_law_pen"] (cnSp K sp__law_great))(C__law_rows:Cal P w K mg base 1 "_law_rows" ["_law_caller_here"] (cnSp K sp__law_rows))(C__law_sign:Cal P w K mg base 3 "_law_sign" ["_law_pen"] (cnSp K sp__law_sign))(C__law_odd:Cal P w K mg base 3 "_law_odd" ["_law_pen"] (cnSp K sp__law_odd))(C__law_due:Cal P w K mg base 3 "_law_due" ["_law_text"] (cnSp K sp__law_due))(C__law_told:Cal P w K mg base 10 "_law_told" ["_law_text"] (cnSp K sp__law_told))(C__law_bent:Cal P w K mg base 3 "_law_bent" ["_law_pen", "_law_rows_here"] (cnSp K sp__law_bent)):FnOk P w K mg base CX0 11 f fd ["_law_script"] (cnSp K sp_law):=by
 refine F.dok sc_law (fun ws Q h=>?_) (fun cdv A outer s H ws Q E hr h=>?_)
 ·obtain⟨ns,rfl,_⟩:=h
  rfl
 obtain⟨ns,rfl,h63,q⟩:=h
 refine⟨_,(dss_cons (ds_for PassesOwn.never rfl (di_seq (de_op o_add (DE.dv (DF.de (df_lst (da_cons (de_call C__law_cell_at hr rfl (dp_vw 0 (dp_val de_int dp_nil sE_C))) da_nil)))) (DE.dv (DF.de (df_scr 0 (do_some de_int) (do_some de_int)))))) (dg_name (i:=1) sc_law.nd rfl (Or.inl rfl)) (dss_cons (ds_setP (i:=2) sc_law.nd rfl (Or.inr rfl) (df_call C__law_pen_of hr rfl (dp_vw 1 dp_nil))) (dss_cons (ds_set (i:=3) sc_law.nd rfl (Or.inl rfl) (de_call C__law_great hr rfl (dp_vw 2 dp_nil))) (dss_cons (ds_set (i:=4) sc_law.nd rfl (Or.inr rfl) (de_call C__law_rows hr rfl (dp_vw 3 dp_nil))) (dss_cons (ds_set (i:=5) sc_law.nd rfl (Or.inl rfl) (de_tjoin de_str (dv_own 4))) (dss_cons (ds_par (i:=6) (j:=7) rfl sc_law.nd rfl rfl (by decide) rfl rfl (da_cons (de_call C__law_draw hr rfl (dp_vw 2 (dp_val (de_op o_add (DE.dv (de_callB c_len rfl B.len PySem.boot_len (dav_cons (dv_own 5) dav_nil))) (DE.dv de_int)) dp_nil))) (da_cons (de_call C__law_sign hr rfl (dp_vw 2 dp_nil)) da_nil)) rfl) (dss_cons (ds_set (i:=8) sc_law.nd rfl (Or.inl rfl) (DF.de (df_lst (da_cons (de_op o_add (DE.dv (de_op o_add (DE.dv (de_sliceT (de_var 5) do_none (do_some (de_var 6)))) (dv_own 7))) (DE.dv (de_sliceT (de_var 5) (do_some (de_var 6)) do_none))) (da_cons (de_op o_add (DE.dv (de_op o_add (DE.dv (de_sliceT (de_var 5) do_none (do_some (de_var 6)))) (dv_own 7))) (DE.dv (de_sliceT (de_var 5) (do_some (de_op o_add (dv_own 6) (DE.dv de_int))) do_none))) (da_cons (de_op o_add (dv_own 5) (dv_own 7)) (da_cons (de_op o_add (dv_own 7) (dv_own 5)) da_nil))))))) (dss_one (ds_for PassesOwn.never rfl (di_seq (de_op o_add (DE.dv (de_op o_add (dv_own 8) (DE.dv (DF.de (df_lc rfl (N':=["_law_turn", "_law_pen", "_law_rows_here"]) (capt:=["_law_pen", "_law_rows_here"]) (k:=1) (js:=[2,4]) ⟨rfl,by decide,rfl,by decide,(.cons rfl (.cons rfl .nil)),rfl,(.cons rfl (Or.inl rfl) rfl (Or.inl rfl) (.cons rfl (Or.inl rfl) rfl (Or.inl rfl) .nil)),rfl,by decide⟩ (DI.w (di_range1 rfl B.range (da_cons de_int da_nil sE_C))) (fun _ _ _ _=>(dg_name (i:=0) (show List.Nodup (["_law_turn", "_law_pen", "_law_rows_here"]:List Str) by decide +kernel) rfl (Or.inl rfl) (Or.inr rfl))) (fun _ _ _ _=>dts_nil) (fun _ _ _ _=>(de_call C__law_bent hr rfl (dp_vw 1 (dp_vw 2 dp_nil))))))))) (DE.dv (DF.de (df_lst (da_cons (de_call C__law_odd hr rfl (dp_vw 2 dp_nil)) (da_cons (de_var 5) da_nil))))))) (dg_name (i:=9) sc_law.nd rfl (Or.inl rfl)) (dss_cons (ds_set (i:=10) sc_law.nd rfl (Or.inl rfl) (de_call C__law_due hr rfl (dp_vw 9 dp_nil))) (dss_one (ds_if (dt_cmp (o_ne hr) (DE.dv (de_reprA hr rfl B.repr boot_repr (dan_cons (dn_lst (dan_cons (DE.dn (de_call C__law_told hr rfl (dp_vw 9 dp_nil))) (dan_cons (DE.dn (de_call C__law_told hr rfl (dp_vw 9 dp_nil))) dan_nil))) dan_nil sE_L))) (DE.dv (de_reprA hr rfl B.repr boot_repr (dan_cons (dn_lst (dan_cons (dn_var 10) (dan_cons (dn_var 10) dan_nil))) dan_nil sE_L))) (nomark _)) (dss_one (ds_ret de_bl)) dss_nil)))))))))))) (dss_one (ds_ret de_bl))),?_⟩
 walk_at "ds"
 refine⟨ns,0,rfl,by decide,fun v=>?_⟩
 obtain⟨ys,ey,_,hy⟩:=sliceD_map PyData.int ns (some 1) (some 4)
 rw [ey,List.length_map]
 refine⟨by omega,?_⟩
 walk_at "ds"
 refine forD_all (ds:=(v::ys).map PyData.int) (fun σ=>∃(u1 u2 u3 u4 u5 u6 u7 u8 u9 u10:Option W),σ = [some (.scr ns),u1,u2,u3,u4,u5,u6,u7,u8,u9,u10]) ⟨none,none,none,none,none,none,none,none,none,none,rfl⟩ ?_ ?_
 ·rintro d hd σ N ⟨u1,u2,u3,u4,u5,u6,u7,u8,u9,u10,rfl⟩ k
  obtain⟨v,_,rfl⟩:=List.mem_map.mp hd
  refine dseq_by (fun σ=>σ = [some (.scr ns),some (.val (.int v)),some .pen,u3,u4,u5,u6,u7,u8,u9,u10]) (fun N hN=>?_) ?_
  ·walk_at "ds"
   refine⟨_,rfl,fun a b c=>?_⟩
   walk_at "ds"
   exact⟨⟨a,b,c,rfl⟩,hN _ rfl⟩
  rintro σ rfl
  refine dseq_by (fun σ=>∃ n:Cn,n.Ok/\σ = [some (.scr ns),some (.val (.int v)),some .pen,some (.val n.D),u4,u5,u6,u7,u8,u9,u10]) (fun N hN=>?_) ?_
  ·walk_at "ds"
   exact⟨rfl,fun n o=>hN _ ⟨n,o,rfl⟩⟩
  rintro σ ⟨n,o,rfl⟩
  refine dseq_by (fun σ=>∃ rows:List Str,rows.length=4/\(∀ x∈rows,RwT x)/\σ = [some (.scr ns),some (.val (.int v)),some .pen,some (.val n.D),some (.val (.list (rows.map PyData.str))),u5,u6,u7,u8,u9,u10]) (fun N hN=>?_) ?_
  ·walk_at "ds"
   exact⟨n,rfl,o,fun rows h1 h2=>hN _ ⟨rows,h1,h2,rfl⟩⟩
  rintro σ ⟨rows,l4,hrw,rfl⟩
  have hj:=tx_join (xs:=rows) (B:=200) tx_nl fun x hx=>(hrw x hx).1
  rw [l4] at hj
  refine dseq_by (fun σ=>∃ x:Str,Tx 804 x/\σ = [some (.scr ns),some (.val (.int v)),some .pen,some (.val n.D),some (.val (.list (rows.map PyData.str))),some (.val (.str x)),u6,u7,u8,u9,u10]) (fun N hN=>?_) ?_
  ·walk_at "ds"
   exact⟨rows,rfl,join_ok (B:=200) tx_nl (fun x hx=>(hrw x hx).1) (by rw [l4];decide),hN _ ⟨_,hj.mono (by decide),rfl⟩⟩
  rintro σ ⟨x,tx,rfl⟩
  have lt:=tx.1
  refine dseq_by (fun σ=>∃(a:Int) (g:Str),Tx 1 g/\σ = [some (.scr ns),some (.val (.int v)),some .pen,some (.val n.D),some (.val (.list (rows.map PyData.str))),some (.val (.str x)),some (.val (.int a)),some (.val (.str g)),u8,u9,u10]) (fun N hN=>?_) ?_
  ·walk_at "ds"
   refine⟨by omega,?_⟩
   refine drawI (by first | decide | omega) (by first | decide | omega) fun a la ha=>?_
   walk_at "ds"
   exact⟨rfl,fun g hg=>hN _ ⟨a,g,hg,rfl⟩⟩
  rintro σ ⟨a,g,hg,rfl⟩
  refine dseq_by (fun σ=>∃ xs:List Str,xs.length=4/\(∀ y∈xs,Tx 9000 y)/\σ = [some (.scr ns),some (.val (.int v)),some .pen,some (.val n.D),some (.val (.list (rows.map PyData.str))),some (.val (.str x)),some (.val (.int a)),some (.val (.str g)),some (.val (.list (xs.map PyData.str))),u9,u10]) (fun N hN=>?_) ?_
  ·walk_at "ds"
   have t1:=tx_slice tx none (some a)
   have t2:=tx_slice tx (some a) none
   have t3:=tx_slice tx (some (a+1)) none
   have l1:=t1.1
   have l2:=t2.1
   have l3:=t3.1
   have l4:=hg.1
   simp only [strLen_append]
   refine⟨by omega,by omega,by omega,by omega,by omega,by omega,by omega,by omega,by omega,by omega,hN _ ⟨[_,_,_,_],rfl,?_,rfl⟩⟩
   exact mem_two (((t1.app hg).app t2).mono (by decide)) (mem_two (((t1.app hg).app t3).mono (by decide)) (mem_two ((tx.app hg).mono (by decide)) (mem_two ((hg.app tx).mono (by decide)) mem_no)))
  rintro σ ⟨xs,lxs,hxs,rfl⟩
  walk_at "ds"
  refine⟨by decide,by decide,lcD_all (fun _ y=>∃ t,y=.str t/\Tx 9000 t) (fun d hd k hk=>?_) fun zs hzs=>?_⟩
  ·walk_at "ds"
   exact⟨rows,rfl,l4,hrw,fun t ht=>hk _ ⟨t,rfl,ht⟩⟩
  have lz:=Paired.length hzs
  have az:=pr_all hzs
  rw [show(rangeD 0 (Int.toNat 6)).length=6 by decide] at lz
  rw [List.length_append,List.length_map,lxs,<-lz]
  refine⟨by decide,rfl,fun od ho=>⟨by decide,?_⟩⟩
  refine forD_all (fun σ=>∃ u9 u10,σ = [some (.scr ns),some (.val (.int v)),some .pen,some (.val n.D),some (.val (.list (rows.map PyData.str))),some (.val (.str x)),some (.val (.int a)),some (.val (.str g)),some (.val (.list (xs.map PyData.str))),u9,u10]) ⟨_,_,rfl⟩ ?_ (by rintro σ ⟨u9,u10,rfl⟩;exact k _ ⟨_,_,_,_,_,_,_,_,_,_,rfl⟩)
  rintro d2 hd2 σ N2 ⟨u9,u10,rfl⟩ k2
  have hx:∀ x,d2=.str x->Tx 10000 x:=fun y e=>by
   subst e
   rcases List.mem_append.mp hd2 with hd2 | hd2
   ·rcases List.mem_append.mp hd2 with hd2 | hd2
    ·obtain⟨t,ht,e⟩:=List.mem_map.mp hd2
     cases e
     exact(hxs _ ht).mono (by decide)
    ·obtain⟨t,e,ht⟩:=az _ hd2
     cases e
     exact ht.mono (by decide)
   ·rcases List.mem_cons.mp hd2 with e | hd2
    ·exact(ho y e.symm).mono (by decide)
    ·cases List.mem_singleton.mp hd2
     exact tx.mono (by decide)
  have shd:=sh_due d2
  have shl:Sh (.list [dueD d2,dueD d2]) 50000 4:=(Sh.lst (n:=20000) (k:=3) (m:=2) (mem_two shd (mem_two shd mem_no)) (Nat.le_refl 2)).mono (by decide) (by decide)
  have sha:=shl.all (by decide) (by decide)
  refine dseq_by (fun σ=>σ = [some (.scr ns),some (.val (.int v)),some .pen,some (.val n.D),some (.val (.list (rows.map PyData.str))),some (.val (.str x)),some (.val (.int a)),some (.val (.str g)),some (.val (.list (xs.map PyData.str))),some (.val d2),some (.val (dueD d2))]) (fun N hN=>?_) ?_
  ·walk_at "ds"
   exact⟨d2,rfl,hx,hN _ rfl⟩
  rintro σ rfl
  walk_at "ds"
  refine⟨d2,rfl,hx,shd.can,d2,rfl,hx,shd.can,gReprA_lst sha ⟨shd.can,shd.can,gReprA_lst sha ?_⟩⟩
  simp only [onB,decide_true,Bool.not_true]
  rw [if_neg (by simp)]
  exact k2 _ ⟨_,_,rfl⟩
 ·rintro σ ⟨u1,u2,u3,u4,u5,u6,u7,u8,u9,u10,rfl⟩
  walk_at "ds"
  exact q
end
section
variable {P:Program}{w:World}{K:PySem.W.Frag}{mg:Str->Option Value}{base:Heap}{f:Addr}{fd:FuncData}
theorem ok__law_refusal(B:Blt mg)(F:Fun K "_law_refusal" "_law_refusal" s__law_refusal f fd)(XF:Xf K mg):FnH P w K mg base 1 f fd ["_law_e"] (cnSp K sp__law_refusal):=by
 refine F.dokH sc__law_refusal (fun ws Q h=>?_) (fun cdv A outer s H ws Q hr h=>?_)
 ·obtain⟨a,rfl,_⟩:=h
  rfl
 obtain⟨a,rfl,q⟩:=h
 have n1:¬ ((Str.ofString "text")=(Str.ofString "great")):=by decide +kernel
 have n2:¬ ((Str.ofString "text")=(Str.ofString "story")):=by decide +kernel
 obtain⟨cx_NoBeat,mx_NoBeat,kx_NoBeat⟩:=XF.i_NoBeat;obtain⟨cx_NoStep,mx_NoStep,kx_NoStep⟩:=XF.i_NoStep;obtain⟨cx_NoNumber,mx_NoNumber,kx_NoNumber⟩:=XF.i_NoNumber;obtain⟨cx_NoLine,mx_NoLine,kx_NoLine⟩:=XF.i_NoLine;obtain⟨cx_NoStory,mx_NoStory,kx_NoStory⟩:=XF.i_NoStory;obtain⟨cx_NoText,mx_NoText,kx_NoText⟩:=XF.i_NoText;obtain⟨cx_TooGreat,mx_TooGreat,kx_TooGreat⟩:=XF.i_TooGreat;have kt_0:=XF.t_0;refine⟨_,(dss_cons (ds_set (i:=1) sc__law_refusal.nd rfl (Or.inl rfl) (DF.de (df_lst (da_cons (de_isX 0 (c:=.ref cx_NoBeat) (cv:=.ref cx_NoBeat) (fun _ h=>h) kx_NoBeat rfl B.isinstance boot_isinstance (pe_glob (u:=.ref cx_NoBeat) rfl mx_NoBeat rfl)) (da_cons (de_isX 0 (c:=.ref cx_NoStep) (cv:=.ref cx_NoStep) (fun _ h=>h) kx_NoStep rfl B.isinstance boot_isinstance (pe_glob (u:=.ref cx_NoStep) rfl mx_NoStep rfl)) (da_cons (de_isX 0 (c:=.ref cx_NoNumber) (cv:=.ref cx_NoNumber) (fun _ h=>h) kx_NoNumber rfl B.isinstance boot_isinstance (pe_glob (u:=.ref cx_NoNumber) rfl mx_NoNumber rfl)) (da_cons (de_isX 0 (c:=.ref cx_NoLine) (cv:=.ref cx_NoLine) (fun _ h=>h) kx_NoLine rfl B.isinstance boot_isinstance (pe_glob (u:=.ref cx_NoLine) rfl mx_NoLine rfl)) da_nil))))))) (dss_cons (ds_set (i:=1) sc__law_refusal.nd rfl (Or.inl rfl) (de_op o_add (dv_own 1) (DE.dv (DF.de (df_lst (da_cons (de_isX 0 (c:=.ref cx_NoStory) (cv:=.ref cx_NoStory) (fun _ h=>h) kx_NoStory rfl B.isinstance boot_isinstance (pe_glob (u:=.ref cx_NoStory) rfl mx_NoStory rfl)) (da_cons (de_isX 0 (c:=.ref cx_NoText) (cv:=.ref cx_NoText) (fun _ h=>h) kx_NoText rfl B.isinstance boot_isinstance (pe_glob (u:=.ref cx_NoText) rfl mx_NoText rfl)) (da_cons (de_isX 0 (c:=.ref cx_TooGreat) (cv:=.ref cx_TooGreat) (fun _ h=>h) kx_TooGreat rfl B.isinstance boot_isinstance (pe_glob (u:=.ref cx_TooGreat) rfl mx_TooGreat rfl)) da_nil)))))))) (dss_cons (ds_if (DWt.dt (dw_or (dt_not (dt_tru (DE.dv (de_isX 0 (c:=.type "ValueError") (cv:=.ty "ValueError") (fun _ h=>h) XF.b_ValueError rfl B.isinstance boot_isinstance (pe_bltn (u:=.type "ValueError") rfl B.ValueError (by decide +kernel) rfl))))) (dw_or1 (dt_tru (DE.dv (de_isXT 0 (cs:=[.type "LookupError",.type "TypeError",.type "ArithmeticError",.type "RuntimeError"]) (cvs:=[.ty "LookupError",.ty "TypeError",.ty "ArithmeticError",.ty "RuntimeError"]) (vals_cls [(.ty "LookupError",.type "LookupError"),(.ty "TypeError",.type "TypeError"),(.ty "ArithmeticError",.type "ArithmeticError"),(.ty "RuntimeError",.type "RuntimeError")] (by intro p hp u hu;simp only [List.mem_cons,List.not_mem_nil,or_false] at hp;rcases hp with rfl | rfl | rfl | rfl <;> exact hu)) kt_0 rfl B.isinstance boot_isinstance (pa_tyCons (pe_bltn (u:=.type "LookupError") rfl B.LookupError (by decide +kernel) rfl) (pa_tyCons (pe_bltn (u:=.type "TypeError") rfl B.TypeError (by decide +kernel) rfl) (pa_tyCons (pe_bltn (u:=.type "ArithmeticError") rfl B.ArithmeticError (by decide +kernel) rfl) (pa_tyCons (pe_bltn (u:=.type "RuntimeError") rfl B.RuntimeError (by decide +kernel) rfl) pa_tyNil)))) (Nat.le_of_ble_eq_true rfl))))))) (dss_one (ds_ret (de_tup (da_cons de_str da_nil sE_C)))) dss_nil) (dss_cons (ds_if (dt_cmp (o_ne0 hr) (DE.dv (de_countX (dv_own 1) de_bl)) (DE.dv de_int) (nomark _)) (dss_one (ds_ret (de_tup (da_cons de_str da_nil sE_C)))) dss_nil) (dss_cons (ds_set (i:=2) sc__law_refusal.nd rfl (Or.inl rfl) (de_ix (DE.dv (DF.de (df_lst (da_cons de_str (da_cons de_str (da_cons de_str (da_cons de_str (da_cons de_str (da_cons de_str (da_cons de_str da_nil sE_C) sE_C) sE_C) sE_C) sE_C) sE_C) sE_C)))) (de_indexX (dv_own 1) de_bl) (fun _ _=>rfl))) (dss_cons (ds_if (dt_cmp (o_eq0 hr) (dv_own 2) (DE.dv de_str) (nomark _)) (dss_one (ds_ret (de_tup (da_cons (de_var 2) (da_cons de_neverE (da_cons de_neverE da_nil)))))) dss_nil) (dss_cons (ds_if (dt_cmp (o_eq0 hr) (dv_own 2) (DE.dv de_str) (nomark _)) (dss_one (ds_ret (de_tup (da_cons (de_var 2) (da_cons de_neverE da_nil))))) dss_nil) (dss_one (ds_ret (de_ifExp (dt_cmp (o_eq0 hr) (dv_own 2) (DE.dv de_str) (nomark _)) (de_tup (da_cons (de_var 2) (da_cons (de_fldX 0 XF.f_row) da_nil))) (de_tup (da_cons (de_var 2) da_nil)))))))))))),?_⟩
 walk_at "ds"
 simp only [show tabX (["NoText"]:List Str) "NoBeat" "NoText" = some false by decide +kernel,show tabX (["NoText"]:List Str) "NoStep" "NoText" = some false by decide +kernel,show tabX (["NoText"]:List Str) "NoNumber" "NoText" = some false by decide +kernel,show tabX (["NoText"]:List Str) "NoLine" "NoText" = some false by decide +kernel,show tabX (["NoText"]:List Str) "NoStory" "NoText" = some false by decide +kernel,show tabX (["NoText"]:List Str) "NoText" "NoText" = some true by decide +kernel,show tabX (["NoText"]:List Str) "TooGreat" "NoText" = some false by decide +kernel,show tabB (["NoText"]:List Str) true "NoText" = some true by decide +kernel,show tabB (["NoText"]:List Str) false "NoText" = some false by decide +kernel]
 walk_at "ds"
 simp only [show boolsD [.bool false,.bool false,.bool false,.bool false,.bool false,.bool true,.bool false]=some [false,false,false,false,false,true,false] by rfl,show List.count true [false,false,false,false,false,true,false]=1 by decide,show List.findIdx? (fun x=>x == true) [false,false,false,false,false,true,false]=some 5 by decide]
 walk_at "ds"
 refine⟨_,atI_nat (j:=5) rfl,?_⟩
 have e1:List.lookup ("row" : Str) [(("row" : Str),a)]=some a:=by rw [List.lookup_cons,show(("row" : Str) == "row")=true by decide +kernel]
 walk_at "ds"
 rw [if_neg n1,if_neg n2]
 refine⟨fun y e=>by cases e;exact List.mem_cons_self,?_⟩
 rw [e1]
 exact q
end
section
variable {P:Program}{w:World}{K:PySem.W.Frag}{mg:Str->Option Value}{base:Heap}{f:Addr}{fd:FuncData}
theorem as_repl{x y z:Str}(h:As x)(hz:As z):As (repl1 x y z):=by
 rcases repl1_is x y z with e | ⟨i,e⟩ <;> rw [e]
 ·exact h
 ·intro c hc
  have hc:c∈(x.cps.extract 0 i++z.cps++x.cps.extract (i+y.length) x.length).toList:=hc
  rw [Array.toList_append,Array.toList_append,List.mem_append,List.mem_append] at hc
  rcases hc with(hc | hc) | hc
  ·rw [Array.toList_extract] at hc
   exact h c (List.mem_of_mem_drop (List.mem_of_mem_take hc))
  ·exact hz c hc
  ·rw [Array.toList_extract] at hc
   exact h c (List.mem_of_mem_drop (List.mem_of_mem_take hc))
theorem tx_repl{n m:Nat}{x y z:Str}(h:Tx n x)(hz:Tx m z):Tx (2 * n+m) (repl1 x y z):=⟨by have:=repl1_len x y z;have:=h.1;have:=hz.1;omega,as_repl h.2 hz.2⟩
theorem tx_upper{n:Nat}{x:Str}(h:Tx n x):Tx n (Txt.upper x):=by
 rw [upper_ascii h.2]
 refine⟨by show(x.cps.map _).size<=n;rw [Array.size_map];exact h.1,fun c hc=>?_⟩
 have hc:c∈(x.cps.map up1).toList:=hc
 rw [Array.toList_map] at hc
 obtain⟨b,hb,rfl⟩:=List.mem_map.mp hc
 have:=h.2 b hb
 unfold up1
 split <;> omega
theorem txs_set{n:Nat}{xs:List Str}{j:Nat}{y:Str}(h:∀ x∈xs,Tx n x)(hy:Tx n y):(xs.map PyData.str).set j (.str y)=(xs.set j y).map PyData.str/\(xs.set j y).length=xs.length/\∀ x∈xs.set j y,Tx n x :=
 ⟨List.map_set.symm,List.length_set,fun x hx=>by
  rcases List.mem_or_eq_of_mem_set hx with e | e
  ·exact h x e
  ·rw [e];exact hy⟩
theorem txs_app{n:Nat}{xs ys:List Str}(h:∀ x∈xs,Tx n x)(h2:∀ x∈ys,Tx n x):∀ x∈xs++ys,Tx n x:=fun x hx=>(List.mem_append.mp hx).elim (h x) (h2 x)
theorem ok__law_bent(B:Blt mg)(F:Fun K "_law_bent" "_law_bent" s__law_bent f fd)(C__law_draw:Cal P w K mg base 2 "_law_draw" ["_law_pen", "_law_many"] (cnSp K sp__law_draw)):FnOk P w K mg base CX0 3 f fd ["_law_pen", "_law_rows_here"] (cnSp K sp__law_bent):=by
 refine F.dok sc__law_bent (fun ws Q h=>?_) (fun cdv A outer s H ws Q E hr h=>?_)
 ·obtain⟨rows,rfl,_⟩:=h
  rfl
 obtain⟨rows,rfl,l4,hrw,q⟩:=h
 refine⟨_,(dss_cons (ds_par3O (i:=1) (j:=2) (l:=3) rfl sc__law_bent.nd rfl rfl rfl (by decide) (by decide) (by decide) rfl rfl rfl (df_callTy c_list rfl B.listT boot_list (dav_cons (dv_own 1) dav_nil)) (de_call C__law_draw hr rfl (dp_vw 0 (dp_val de_int dp_nil sE_C))) (de_call C__law_draw hr rfl (dp_vw 0 (dp_val de_int dp_nil sE_C))) rfl) (dss_cons (ds_par (i:=4) (j:=5) rfl sc__law_bent.nd rfl rfl (by decide) rfl rfl (da_cons (DF.de (df_tsplit (de_ix (dv_own 1) (de_var 2) (fun _ _=>rfl)) de_str)) (da_cons (de_call C__law_draw hr rfl (dp_vw 0 (dp_val de_int dp_nil sE_C))) da_nil)) rfl) (dss_mint (ds_set (i:=6) sc__law_bent.nd rfl (Or.inl rfl) (de_op o_add (DE.dv de_int) (DE.dv (de_op o_mod (dv_own 5) (DE.dv (de_op o_sub (DE.dv (de_callB c_len rfl B.len PySem.boot_len (dav_cons (dv_own 4) dav_nil))) (DE.dv de_int))))))) (dssk_cons (DS.k (ds_set (i:=7) sc__law_bent.nd rfl (Or.inl rfl) (DF.de (df_lst (da_cons de_str (da_cons de_str (da_cons de_str (da_cons de_str (da_cons de_str (da_cons de_str (da_cons de_str (da_cons de_str (da_cons de_str (da_cons de_str (da_cons de_str (da_cons de_str (da_cons (de_op o_mulX (DE.dv de_str) (DE.dv de_int)) (da_cons de_str da_nil sE_C)) sE_C) sE_C) sE_C) sE_C) sE_C) sE_C) sE_C) sE_C) sE_C) sE_C) sE_C) sE_C))))) (dssk_cons (DS.k (ds_setO (i:=8) sc__law_bent.nd rfl (Or.inl rfl) (df_callTy c_list rfl B.listT boot_list (dav_cons (dv_own 4) dav_nil)))) (dssk_cons (DS.k (ds_putI 8 (de_ix (dv_own 7) (de_call C__law_draw hr rfl (dp_vw 0 (dp_val (de_callB c_len rfl B.len PySem.boot_len (dav_cons (dv_own 7) dav_nil)) dp_nil))) (fun _ _=>rfl)) (de_var 6))) (dssk_cons (DS.k (ds_set (i:=9) sc__law_bent.nd rfl (Or.inl rfl) (DF.de (df_lst (da_cons (de_tjoin de_str (dv_own 8)) (da_cons (de_op o_add (DE.dv (de_upper (de_ix (dv_own 4) de_int (fun _ _=>rfl)))) (DE.dv (de_sliceT (de_ix (dv_own 1) (de_var 2) (fun _ _=>rfl)) (do_some (de_callB c_len rfl B.len PySem.boot_len (dav_cons (DE.dv (de_ix (dv_own 4) de_int (fun _ _=>rfl))) dav_nil))) do_none))) (da_cons (de_op o_add (DE.dv (de_ix (dv_own 1) (de_var 2) (fun _ _=>rfl))) (DE.dv de_str)) (da_cons (de_tjoin de_str (DE.dv (de_slice (dv_own 4) do_none (do_some (de_neg de_int))))) da_nil)))))))) (dssk_cons (dsk_set (i:=9) sc__law_bent.nd rfl (Or.inl rfl) (dek_op o_add (dv_own 9) (DEk.dv (DFk.de (dfk_lst (dak_cons (dek_repl1 (de_ix (dv_own 1) (de_var 2) (fun _ _=>rfl))) (da_cons (de_op o_add (DE.dv de_str) (DE.dv (de_ix (dv_own 1) (de_var 2) (fun _ _=>rfl)))) (da_cons (de_op o_add (DE.dv (de_ix (dv_own 1) (de_var 2) (fun _ _=>rfl))) (DE.dv de_str)) (da_cons (de_op o_add (DE.dv de_str) (DE.dv (de_ix (dv_own 1) (de_var 2) (fun _ _=>rfl)))) (da_cons de_str (da_cons (de_op o_add (DE.dv (de_ix (dv_own 1) (de_var 2) (fun _ _=>rfl))) (DE.dv de_str)) da_nil) sE_C)))))))))) (DSs.k (dss_cons (ds_set (i:=9) sc__law_bent.nd rfl (Or.inl rfl) (de_op o_add (dv_own 9) (DE.dv (DF.de (df_lst (da_cons (de_tjoin de_str (DE.dv (de_slice (dv_own 4) (do_some de_int) do_none))) (da_cons (de_op o_add (DE.dv de_str) (DE.dv (de_ix (dv_own 1) (de_var 2) (fun _ _=>rfl)))) da_nil))))))) (dss_cons (ds_if (dt_cmp o_lt (dv_own 3) (DE.dv (de_callB c_len rfl B.len PySem.boot_len (dav_cons (dv_own 9) dav_nil))) (nomark _)) (dss_cons (ds_putI 1 (de_ix (dv_own 9) (de_var 3) (fun _ _=>rfl)) (de_var 2)) (dss_one (ds_ret (de_tjoin de_str (dv_own 1))))) dss_nil) (dss_cons (ds_set (i:=10) sc__law_bent.nd rfl (Or.inl rfl) (de_op o_add (DE.dv (de_slice (dv_own 1) (do_some (de_var 2)) do_none)) (DE.dv (de_slice (dv_own 1) do_none (do_some (de_var 2)))))) (dss_cons (ds_set (i:=11) sc__law_bent.nd rfl (Or.inl rfl) (DF.de (df_lst (da_cons (de_op o_add (DE.dv (de_slice (dv_own 1) do_none (do_some (de_var 2)))) (DE.dv (de_slice (dv_own 1) (do_some (de_op o_add (dv_own 2) (DE.dv de_int))) do_none))) (da_cons (de_op o_add (dv_own 1) (DE.dv (de_slice (dv_own 1) (do_some (de_var 2)) (do_some (de_op o_add (dv_own 2) (DE.dv de_int)))))) (da_cons (de_var 10) (da_cons (de_op o_add (DE.dv (de_slice (dv_own 1) do_none (do_some (de_op o_add (dv_own 2) (DE.dv de_int))))) (DE.dv (de_slice (dv_own 1) (do_some (de_var 2)) do_none))) (da_cons (de_op o_add (dv_own 1) (DE.dv (DF.de (df_lst (da_cons de_str da_nil sE_C))))) da_nil)))))))) (dss_one (ds_ret (de_tjoin de_str (DE.dv (de_ix (DE.dv (de_op o_add (dv_own 11) (DE.dv (DF.de (df_lst (da_cons (de_slice (dv_own 1) do_none (do_some (de_var 2))) da_nil)))))) (de_op o_sub (dv_own 3) (DE.dv (de_callB c_len rfl B.len PySem.boot_len (dav_cons (dv_own 9) dav_nil)))) (fun _ _=>rfl))))))))))))))))))),?_⟩
 refine dseq_by (fun σ=>∃ a w:Int,0<=a/\a<4/\0<=w/\w<18/\σ = [some .pen,some (.own (.lst (rows.map PyData.str))),some (.val (.int a)),some (.val (.int w)),none,none,none,none,none,none,none,none]) (fun N hN=>?_) ?_
 ·walk_at "ds"
  refine drawI (by first | decide | omega) (by first | decide | omega) fun a la ha=>?_
  walk_at "ds"
  refine drawI (by first | decide | omega) (by first | decide | omega) fun w lw hw=>?_
  walk_at "ds"
  exact hN _ ⟨a,w,la,ha,lw,hw,rfl⟩
 rintro σ ⟨a,w,a0,a1,w0,w1,rfl⟩
 obtain⟨x,ex,hx⟩:∃ x,atI (rows.map PyData.str) a=some (.str x)/\RwT x:=by
  obtain⟨d,e,md⟩:=atI_ex (xs:=rows.map PyData.str) a0 (by rw [List.length_map];omega)
  obtain⟨y,hy,rfl⟩:=List.mem_map.mp md
  exact⟨y,e,hrw y hy⟩
 have tx:=hx.1
 have lx:=tx.1
 obtain⟨ws,ew⟩:∃ ws,ws=Txt.split x (Str.ofString " "):=⟨_,rfl⟩
 have lw2:2<=ws.length/\ws.length<=11:=by rw [ew];exact hx.2
 have tw:∀ y∈ws,Tx 200 y:=fun y hy=>by
  have st:=(split_pt x 32).1 y (by rw [ew,sp_is] at hy;exact hy)
  exact⟨Nat.le_trans st.2 lx,st.1 tx.2⟩
 refine dseq_by (fun σ=>∃ t:Int,0<=t/\t<6/\σ = [some .pen,some (.own (.lst (rows.map PyData.str))),some (.val (.int a)),some (.val (.int w)),some (.val (.list (ws.map PyData.str))),some (.val (.int t)),none,none,none,none,none,none]) (fun N hN=>?_) ?_
 ·walk_at "ds"
  refine⟨_,ex,?_⟩
  walk_at "ds"
  have pt:=parts_le x (Str.ofString " ")
  rw [<-ew]
  refine⟨by decide +kernel,by omega,by omega,by omega,?_⟩
  refine drawI (by first | decide | omega) (by first | decide | omega) fun t lt ht=>?_
  walk_at "ds"
  exact hN _ ⟨t,lt,ht,rfl⟩
 rintro σ ⟨t,t0,t1,rfl⟩
 refine dseq_by (fun σ=>∃ sp:Int,1<=sp/\sp<ws.length/\σ = [some .pen,some (.own (.lst (rows.map PyData.str))),some (.val (.int a)),some (.val (.int w)),some (.val (.list (ws.map PyData.str))),some (.val (.int t)),some (.val (.int sp)),none,none,none,none,none]) (fun N hN=>?_) ?_
 ·walk_at "ds"
  rw [List.length_map]
  have m1:=Int.emod_nonneg t (b:=(ws.length:Int)-1) (by omega)
  have m2:=Int.emod_lt_of_pos t (b:=(ws.length:Int)-1) (by omega)
  exact⟨by omega,hN _ ⟨_,by omega,by omega,rfl⟩⟩
 rintro σ ⟨sp,s0,s1,rfl⟩
 refine dseq_by (fun σ=>∃ os:List Str,os.length=14/\(∀ y∈os,Tx 31 y)/\σ = [some .pen,some (.own (.lst (rows.map PyData.str))),some (.val (.int a)),some (.val (.int w)),some (.val (.list (ws.map PyData.str))),some (.val (.int t)),some (.val (.int sp)),some (.val (.list (os.map PyData.str))),none,none,none,none]) (fun N hN=>?_) ?_
 ·walk_at "ds"
  have hm:Txt.mul (Str.ofString "9") 31=txL (List.replicate 31 57):=mul_tx (c:=57) (n:=31) (by decide)
  refine⟨mul_ok1 (by decide) (by decide) (by decide +kernel),hN _ ⟨[Str.ofString "0",Str.ofString "00",Str.ofString "-1",Str.ofString "+1",Str.ofString "1001",Str.ofString "10001",Str.ofString "201",Str.ofString "21",Str.ofString "11",Str.ofString "01",Str.ofString "1.0",Str.ofString "",Txt.mul (Str.ofString "9") 31,Str.ofString "x"],rfl,?_,rfl⟩⟩
  rw [hm]
  refine mem_two ?_ (mem_two ?_ (mem_two ?_ (mem_two ?_ (mem_two ?_ (mem_two ?_ (mem_two ?_ (mem_two ?_ (mem_two ?_ (mem_two ?_ (mem_two ?_ (mem_two ?_ (mem_two ?_ (mem_two ?_ mem_no))))))))))))) <;> exact⟨by decide +kernel,by unfold As;decide +kernel⟩
 rintro σ ⟨os,lo,to,rfl⟩
 refine dseq_by (fun σ=>σ = [some .pen,some (.own (.lst (rows.map PyData.str))),some (.val (.int a)),some (.val (.int w)),some (.val (.list (ws.map PyData.str))),some (.val (.int t)),some (.val (.int sp)),some (.val (.list (os.map PyData.str))),some (.own (.lst (ws.map PyData.str))),none,none,none]) (fun N hN=>?_) ?_
 ·walk_at "ds"
  exact hN _ rfl
 rintro σ rfl
 refine dseq_by (fun σ=>∃ ns:List Str,ns.length=ws.length/\(∀ y∈ns,Tx 200 y)/\σ = [some .pen,some (.own (.lst (rows.map PyData.str))),some (.val (.int a)),some (.val (.int w)),some (.val (.list (ws.map PyData.str))),some (.val (.int t)),some (.val (.int sp)),some (.val (.list (os.map PyData.str))),some (.own (.lst (ns.map PyData.str))),none,none,none]) (fun N hN=>?_) ?_
 ·walk_at "ds"
  rw [List.length_map]
  refine drawI (by first | decide | omega) (by first | decide | omega) fun i li hi=>?_
  walk_at "ds"
  obtain⟨d,ed,md⟩:=atI_ex (xs:=os.map PyData.str) li (by rw [List.length_map];omega)
  obtain⟨y,hy,rfl⟩:=List.mem_map.mp md
  have zz:=txs_set (j:=sp.toNat) tw ((to y hy).mono (by decide))
  refine⟨_,ed,sp.toNat,?_,hN _ ⟨_,zz.2.1,zz.2.2,by rw [zz.1]⟩⟩
  rw [List.length_map]
  unfold ixN
  rw [if_pos (by omega),if_pos (by omega)]
 rintro σ ⟨ns,ln,tn,rfl⟩
 refine dseq_by (fun σ=>∃ ss:List Str,ss.length=4/\(∀ y∈ss,Tx 2211 y)/\σ = [some .pen,some (.own (.lst (rows.map PyData.str))),some (.val (.int a)),some (.val (.int w)),some (.val (.list (ws.map PyData.str))),some (.val (.int t)),some (.val (.int sp)),some (.val (.list (os.map PyData.str))),some (.own (.lst (ns.map PyData.str))),some (.val (.list (ss.map PyData.str))),none,none]) (fun N hN=>?_) ?_
 ·walk_at "ds"
  obtain⟨w0,e0,h0⟩:∃ w0,atI (ws.map PyData.str) 0=some (.str w0)/\Tx 200 w0:=by
   obtain⟨d,e,md⟩:=atI_ex (xs:=ws.map PyData.str) (k:=0) (by decide) (by rw [List.length_map];omega)
   obtain⟨y,hy,rfl⟩:=List.mem_map.mp md
   exact⟨y,e,tw y hy⟩
  obtain⟨ys,ey,my,ly⟩:=sliceD_map PyData.str ws none (some (-1))
  have ty:∀ y∈ys,Tx 200 y:=fun y hy=>tw y (my y hy)
  have l0:=h0.1
  have up:=tx_upper h0
  have lu:=up.1
  refine⟨ns,rfl,join_ok tx_sp tn (by rw [ln];omega),_,e0,?_⟩
  walk_at "ds"
  refine⟨by omega,_,ex,_,e0,?_⟩
  walk_at "ds"
  refine⟨by omega,?_⟩
  have sl:=fun i=>tx_slice tx (some i) none
  have s1:=(sl (w0.length:Int)).1
  have t1:Tx 2 (Str.ofString " 1"):=⟨by decide +kernel,by unfold As;decide +kernel⟩
  have c1:=t1.1
  refine⟨by omega,by omega,_,ex,?_⟩
  walk_at "ds"
  refine⟨by omega,ys,ey,join_ok tx_sp ty (by omega),hN _ ⟨[_,_,_,_],rfl,?_,rfl⟩⟩
  refine mem_two ((tx_join tx_sp tn).mono (by rw [ln];omega)) (mem_two ((up.app (sl _)).mono (by decide)) (mem_two ((tx.app t1).mono (by decide)) (mem_two ((tx_join tx_sp ty).mono (by omega)) mem_no)))
 rintro σ ⟨ss,ls,ts,rfl⟩
 refine dseq_by (fun σ=>∃ ss:List Str,ss.length=10/\(∀ y∈ss,Tx 2211 y)/\σ = [some .pen,some (.own (.lst (rows.map PyData.str))),some (.val (.int a)),some (.val (.int w)),some (.val (.list (ws.map PyData.str))),some (.val (.int t)),some (.val (.int sp)),some (.val (.list (os.map PyData.str))),some (.own (.lst (ns.map PyData.str))),some (.val (.list (ss.map PyData.str))),none,none]) (fun N hN=>?_) ?_
 ·walk_at "ds"
  have t2:Tx 2 (Str.ofString "  "):=⟨by decide +kernel,by unfold As;decide +kernel⟩
  have t3:Tx 1 (Str.ofString "\t"):=⟨by decide +kernel,by unfold As;decide +kernel⟩
  have c1:=tx_sp.1
  have c3:=t3.1
  have c4:=tx_nl.1
  refine⟨_,ex,?_⟩
  walk_at "ds"
  refine⟨by omega,_,ex,?_⟩
  walk_at "ds"
  refine⟨by omega,_,ex,?_⟩
  walk_at "ds"
  refine⟨by omega,_,ex,?_⟩
  walk_at "ds"
  refine⟨by omega,_,ex,?_⟩
  walk_at "ds"
  rw [List.length_map]
  refine⟨by omega,by omega,hN _ ⟨ss ++ [_,_,_,_,_,_],by rw [List.length_append,ls];rfl,?_,by rw [List.map_append];rfl⟩⟩
  exact txs_app ts (mem_two ((tx_repl tx t2).mono (by decide)) (mem_two ((tx_sp.app tx).mono (by decide)) (mem_two ((tx.app tx_sp).mono (by decide)) (mem_two ((t3.app tx).mono (by decide)) (mem_two (tx_no.mono (by decide)) (mem_two ((tx.app tx_nl).mono (by decide)) mem_no))))))
 clear ls ts ss
 rintro σ ⟨ss,ls,ts,rfl⟩
 refine dseq_by (fun σ=>∃ ss:List Str,ss.length=12/\(∀ y∈ss,Tx 2211 y)/\σ = [some .pen,some (.own (.lst (rows.map PyData.str))),some (.val (.int a)),some (.val (.int w)),some (.val (.list (ws.map PyData.str))),some (.val (.int t)),some (.val (.int sp)),some (.val (.list (os.map PyData.str))),some (.own (.lst (ns.map PyData.str))),some (.val (.list (ss.map PyData.str))),none,none]) (fun N hN=>?_) ?_
 ·walk_at "ds"
  obtain⟨ys,ey,my,ly⟩:=sliceD_map PyData.str ws (some 1) none
  have ty:∀ y∈ys,Tx 200 y:=fun y hy=>tw y (my y hy)
  have t3:Tx 4 (Str.ofString "gaps"):=⟨by decide +kernel,by unfold As;decide +kernel⟩
  have c3:=t3.1
  refine⟨ys,ey,join_ok tx_sp ty (by omega),_,ex,?_⟩
  walk_at "ds"
  rw [List.length_map]
  refine⟨by omega,by omega,hN _ ⟨ss ++ [_,_],by rw [List.length_append,ls];rfl,?_,by rw [List.map_append];rfl⟩⟩
  exact txs_app ts (mem_two ((tx_join tx_sp ty).mono (by omega)) (mem_two ((t3.app tx).mono (by decide)) mem_no))
 clear ls ts ss
 rintro σ ⟨ss,ls,ts,rfl⟩
 refine dseq_by (fun σ=>12<=w/\σ = [some .pen,some (.own (.lst (rows.map PyData.str))),some (.val (.int a)),some (.val (.int w)),some (.val (.list (ws.map PyData.str))),some (.val (.int t)),some (.val (.int sp)),some (.val (.list (os.map PyData.str))),some (.own (.lst (ns.map PyData.str))),some (.val (.list (ss.map PyData.str))),none,none]) (fun N hN=>?_) ?_
 ·walk_at "ds"
  rw [List.length_map,ls]
  split
  ·next hw =>
   obtain⟨d,ed,md⟩:=atI_ex (xs:=ss.map PyData.str) w0 (by rw [List.length_map,ls];exact hw)
   obtain⟨y,hy,rfl⟩:=List.mem_map.mp md
   have zz:=txs_set (n:=2211) (j:=a.toNat) (fun x hx=>(hrw x hx).1.mono (by decide)) (ts y hy)
   refine⟨_,ed,a.toNat,?_,_,zz.1,join_ok tx_nl zz.2.2 (by rw [zz.2.1,l4];decide),q _ ((tx_join tx_nl zz.2.2).mono (by rw [zz.2.1,l4];decide))⟩
   rw [List.length_map]
   unfold ixN
   rw [if_pos (by omega),if_pos (by omega)]
  ·exact hN _ ⟨by omega,rfl⟩
 rintro σ ⟨w2,rfl⟩
 walk_at "ds"
 have sl:∀ lo hi,∃ ys:List Str,sliceD (rows.map PyData.str) lo hi=ys.map PyData.str/\ys.length<=4/\∀ y∈ys,Tx 200 y:=fun lo hi=>by
  obtain⟨ys,ey,my,ly⟩:=sliceD_map PyData.str rows lo hi
  exact⟨ys,ey,by omega,fun y hy=>(hrw y (my y hy)).1⟩
 obtain⟨y1,e1,l1,h1⟩:=sl (some a) none
 obtain⟨y2,e2,l2,h2⟩:=sl none (some a)
 obtain⟨y3,e3,l3,h3⟩:=sl (some (a+1)) none
 obtain⟨y4,e4,l5,h4⟩:=sl (some a) (some (a+1))
 obtain⟨y5,e5,l6,h5⟩:=sl none (some (a+1))
 have hr0:∀ y∈rows,Tx 200 y:=fun y hy=>(hrw y hy).1
 rw [e1,e2,e3,e4,e5]
 simp only [List.length_map,ls]
 refine⟨by omega,by omega,by omega,by omega,by omega,?_⟩
 obtain⟨d,ed,md⟩:=atI_ex (xs:=[PyData.list (y2.map PyData.str++y3.map PyData.str),.list (rows.map PyData.str++y4.map PyData.str),.list (y1.map PyData.str++y2.map PyData.str),.list (y5.map PyData.str++y1.map PyData.str),.list (rows.map PyData.str ++ [.str (Str.ofString "")]),.list (y2.map PyData.str)]) (k:=w-12) (by omega) (by simp only [List.length_cons,List.length_nil];omega)
 have all:∀ d ∈ [PyData.list (y2.map PyData.str++y3.map PyData.str),.list (rows.map PyData.str++y4.map PyData.str),.list (y1.map PyData.str++y2.map PyData.str),.list (y5.map PyData.str++y1.map PyData.str),.list (rows.map PyData.str ++ [.str (Str.ofString "")]),.list (y2.map PyData.str)],∃ xs:List Str,d=.list (xs.map PyData.str)/\xs.length<=8/\∀ y∈xs,Tx 200 y:=by
  refine mem_two ⟨_,by rw [<-List.map_append],?_,txs_app h2 h3⟩ (mem_two ⟨_,by rw [<-List.map_append],?_,txs_app hr0 h4⟩ (mem_two ⟨_,by rw [<-List.map_append],?_,txs_app h1 h2⟩ (mem_two ⟨_,by rw [<-List.map_append],?_,txs_app h5 h1⟩ (mem_two ⟨rows ++ [Str.ofString ""],by rw [List.map_append];rfl,?_,txs_app hr0 (mem_two (tx_no.mono (by decide)) mem_no)⟩ (mem_two ⟨y2,rfl,by omega,h2⟩ mem_no)))))
  all_goals (simp only [List.length_append,List.length_cons,List.length_nil];omega)
 obtain⟨xs,rfl,lxs,hxs⟩:=all d md
 refine⟨_,ed,?_⟩
 walk_at "ds"
 exact⟨xs,rfl,join_ok tx_nl hxs (by omega),q _ ((tx_join tx_nl hxs).mono (by omega))⟩
end
theorem us_0{us:List Value}(h:us.length=0):us = []:=List.eq_nil_of_length_eq_zero h
theorem us_1{us:List Value}(h:us.length=1):∃ a0,us = [a0]:=by
 cases us with
 | nil=>cases h
 | cons a t =>
  obtain rfl:=us_0 (Nat.succ.inj h)
  exact⟨a,rfl⟩
theorem us_2{us:List Value}(h:us.length=2):∃ a0 a1,us = [a0,a1]:=by
 cases us with
 | nil=>cases h
 | cons a t =>
  obtain⟨a1,rfl⟩:=us_1 (Nat.succ.inj h)
  exact⟨a,a1,rfl⟩
theorem us_3{us:List Value}(h:us.length=3):∃ a0 a1 a2,us = [a0,a1,a2]:=by
 cases us with
 | nil=>cases h
 | cons a t =>
  obtain⟨a1,a2,rfl⟩:=us_2 (Nat.succ.inj h)
  exact⟨a,a1,a2,rfl⟩
theorem cal(P:Program)(w:World)(base:Heap){K:PySem.W.Frag}{h:Heap}{mg:Str->Option Value}{x:Str}{st:Stmt}{k:Nat}{ps:List Str}{sp:Sp}(X:K.In h)(G:h.Ns mainGlobals mg)(p:FnAt K x st)(ok:∀(f:Addr) (fd:FuncData),Fun K x x st f fd->FnOk P w K mg base CX0 k f fd ps sp)(hb:∀ us:List Value,us.length=ps.length->∀(kV doc pm:Value) (an:Option Addr) (cdv ct:Value),bindArgs (PySem.W.fnOf x x (defArgs st) (defBody st) (defScope st) .none kV doc pm an cdv ct) ⟨us,[]⟩=pure (ps.zip us)):Callee P w K mg base k x ps sp :=
 let ⟨f,fd,a,F⟩:=p;⟨f,fd,ok f fd F,F.binds fun a b c d e g us hl=>hb us hl a b c d e g,F.kp,PySem.W.mg_of X G a⟩
theorem calX(P:Program)(w:World)(base:Heap){K:PySem.W.Frag}{h:Heap}{mg:Str->Option Value}{x:Str}{st:Stmt}{k:Nat}{ps:List Str}{sp:Sp}(X:K.In h)(G:h.Ns mainGlobals mg)(p:FnAt K x st)(ok:∀(f:Addr) (fd:FuncData),Fun K x x st f fd->FnOk P w K mg base (CXk P w) k f fd ps sp)(hb:∀ us:List Value,us.length=ps.length->∀(kV doc pm:Value) (an:Option Addr) (cdv ct:Value),bindArgs (PySem.W.fnOf x x (defArgs st) (defBody st) (defScope st) .none kV doc pm an cdv ct) ⟨us,[]⟩=pure (ps.zip us)):CalleeX P w K mg base k x ps sp :=
 let ⟨f,fd,a,F⟩:=p;⟨f,fd,ok f fd F,F.binds fun a b c d e g us hl=>hb us hl a b c d e g,F.kp,PySem.W.mg_of X G a⟩
theorem calH(P:Program)(w:World)(base:Heap){K:PySem.W.Frag}{h:Heap}{mg:Str->Option Value}{x:Str}{st:Stmt}{k:Nat}{ps:List Str}{sp:Sp}(X:K.In h)(G:h.Ns mainGlobals mg)(p:FnAt K x st)(ok:∀(f:Addr) (fd:FuncData),Fun K x x st f fd->FnH P w K mg base k f fd ps sp)(hb:∀ us:List Value,us.length=ps.length->∀(kV doc pm:Value) (an:Option Addr) (cdv ct:Value),bindArgs (PySem.W.fnOf x x (defArgs st) (defBody st) (defScope st) .none kV doc pm an cdv ct) ⟨us,[]⟩=pure (ps.zip us)):CalleeH P w K mg base k x ps sp :=
 let ⟨f,fd,a,F⟩:=p;⟨f,fd,ok f fd F,F.binds fun a b c d e g us hl=>hb us hl a b c d e g,F.kp,PySem.W.mg_of X G a⟩
theorem uq_1{p:List Value->Prop}(h:∀ a0,p [a0])(us:List Value)(hl:us.length=1):p us:=by
 obtain⟨a0,rfl⟩:=us_1 hl
 exact h a0
theorem uq_2{p:List Value->Prop}(h:∀ a0 a1,p [a0,a1])(us:List Value)(hl:us.length=2):p us:=by
 obtain⟨a0,a1,rfl⟩:=us_2 hl
 exact h a0 a1
theorem uq_3{p:List Value->Prop}(h:∀ a0 a1 a2,p [a0,a1,a2])(us:List Value)(hl:us.length=3):p us:=by
 obtain⟨a0,a1,a2,rfl⟩:=us_3 hl
 exact h a0 a1 a2
theorem all_mk{l:PySem.W.OpenLaw}{w:World}{K:PySem.W.Frag}{h:Heap}{mg:Str->Option Value}{fa  : Addr}(X:K.In h)(G:h.Ns mainGlobals mg)(hfa:mg "law" = some (.ref fa))
  (p0:FnAt K "is_whole" s_is_whole)
  (p1:FnAt K "whole_in" s_whole_in)
  (p2:FnAt K "wholes_in" s_wholes_in)
  (p3:FnAt K "gaps_good" s_gaps_good)
  (p4:FnAt K "plan_good" s_plan_good)
  (p5:FnAt K "gate_good" s_gate_good)
  (p6:FnAt K "purse_good" s_purse_good)
  (p7:FnAt K "caller_plan_good" s_caller_plan_good)
  (p8:FnAt K "number_good" s_number_good)
  (p9:FnAt K "numbers_of" s_numbers_of)
  (p10:FnAt K "row_read" s_row_read)
  (p11:FnAt K "caller_read" s_caller_read)
  (p12:FnAt K "_law_cell_at" s__law_cell_at)
  (p13:FnAt K "_law_next" s__law_next)
  (p14:FnAt K "_law_pen_of" s__law_pen_of)
  (p15:FnAt K "_law_draw" s__law_draw)
  (p16:FnAt K "_law_caller" s__law_caller)
  (p17:FnAt K "_law_great" s__law_great)
  (p18:FnAt K "_law_rows" s__law_rows)
  (p19:FnAt K "_law_sign" s__law_sign)
  (p20:FnAt K "_law_number" s__law_number)
  (p21:FnAt K "_law_odd" s__law_odd)
  (p22:FnAt K "_law_refusal" s__law_refusal)
  (p23:FnAt K "_law_within" s__law_within)
  (p24:FnAt K "_law_row_good" s__law_row_good)
  (p25:FnAt K "_law_due" s__law_due)
  (p26:FnAt K "_law_told" s__law_told)
  (p27:FnAt K "_law_bent" s__law_bent)
  (p28:FnAt K "law" s_law)
  (z_len:PySem.W.nsIn K mainGlobals "len" = some none)
  (z_range:PySem.W.nsIn K mainGlobals "range" = some none)
  (z_enumerate:PySem.W.nsIn K mainGlobals "enumerate" = some none)
  (z_max:PySem.W.nsIn K mainGlobals "max" = some none)
  (z_repr:PySem.W.nsIn K mainGlobals "repr" = some none)
  (z_isinstance:PySem.W.nsIn K mainGlobals "isinstance" = some none)
  (z_all:PySem.W.nsIn K mainGlobals "all" = some none)
  (z_zip:PySem.W.nsIn K mainGlobals "zip" = some none)
  (z_tupleT:PySem.W.nsIn K mainGlobals "tuple" = some none)
  (z_intT:PySem.W.nsIn K mainGlobals "int" = some none)
  (z_listT:PySem.W.nsIn K mainGlobals "list" = some none)
  (z_strT:PySem.W.nsIn K mainGlobals "str" = some none)
  (z_boolT:PySem.W.nsIn K mainGlobals "bool" = some none)
  (z_ValueError:PySem.W.nsIn K mainGlobals "ValueError" = some none)
  (z_LookupError:PySem.W.nsIn K mainGlobals "LookupError" = some none)
  (z_TypeError:PySem.W.nsIn K mainGlobals "TypeError" = some none)
  (z_ArithmeticError:PySem.W.nsIn K mainGlobals "ArithmeticError" = some none)
  (z_RuntimeError:PySem.W.nsIn K mainGlobals "RuntimeError" = some none)
  {gt_GAPS_BOUNDS_0_0:Tok} {gt_GAPS_BOUNDS_0_1:Tok} {ga_GAPS_BOUNDS_0:Addr} {gn_GAPS_BOUNDS_0:Nat} {gs_GAPS_BOUNDS_0:Array (Option Value)} (yl_GAPS_BOUNDS_0:K.lookup ga_GAPS_BOUNDS_0=some ⟨.type "tuple",none,.seq #[.int 1 gt_GAPS_BOUNDS_0_0,.int 1000 gt_GAPS_BOUNDS_0_1] gn_GAPS_BOUNDS_0,gs_GAPS_BOUNDS_0⟩) {gt_GAPS_BOUNDS_1_0:Tok} {gt_GAPS_BOUNDS_1_1:Tok} {ga_GAPS_BOUNDS_1:Addr} {gn_GAPS_BOUNDS_1:Nat} {gs_GAPS_BOUNDS_1:Array (Option Value)} (yl_GAPS_BOUNDS_1:K.lookup ga_GAPS_BOUNDS_1=some ⟨.type "tuple",none,.seq #[.int 1 gt_GAPS_BOUNDS_1_0,.int 10 gt_GAPS_BOUNDS_1_1] gn_GAPS_BOUNDS_1,gs_GAPS_BOUNDS_1⟩) {gt_GAPS_BOUNDS_2_0:Tok} {gt_GAPS_BOUNDS_2_1:Tok} {ga_GAPS_BOUNDS_2:Addr} {gn_GAPS_BOUNDS_2:Nat} {gs_GAPS_BOUNDS_2:Array (Option Value)} (yl_GAPS_BOUNDS_2:K.lookup ga_GAPS_BOUNDS_2=some ⟨.type "tuple",none,.seq #[.int 0 gt_GAPS_BOUNDS_2_0,.int 1000 gt_GAPS_BOUNDS_2_1] gn_GAPS_BOUNDS_2,gs_GAPS_BOUNDS_2⟩) {gt_GAPS_BOUNDS_3_0:Tok} {gt_GAPS_BOUNDS_3_1:Tok} {ga_GAPS_BOUNDS_3:Addr} {gn_GAPS_BOUNDS_3:Nat} {gs_GAPS_BOUNDS_3:Array (Option Value)} (yl_GAPS_BOUNDS_3:K.lookup ga_GAPS_BOUNDS_3=some ⟨.type "tuple",none,.seq #[.int 1 gt_GAPS_BOUNDS_3_0,.int 1000 gt_GAPS_BOUNDS_3_1] gn_GAPS_BOUNDS_3,gs_GAPS_BOUNDS_3⟩) {ga_GAPS_BOUNDS:Addr} {gn_GAPS_BOUNDS:Nat} {gs_GAPS_BOUNDS:Array (Option Value)} (yl_GAPS_BOUNDS:K.lookup ga_GAPS_BOUNDS=some ⟨.type "tuple",none,.seq #[.ref ga_GAPS_BOUNDS_0,.ref ga_GAPS_BOUNDS_1,.ref ga_GAPS_BOUNDS_2,.ref ga_GAPS_BOUNDS_3] gn_GAPS_BOUNDS,gs_GAPS_BOUNDS⟩)
  (y_GAPS_BOUNDS:PySem.W.nsIn K mainGlobals "GAPS_BOUNDS" = some (some (.ref ga_GAPS_BOUNDS)))
  {t_MOST_KNOCKS:Tok} (y_MOST_KNOCKS:PySem.W.nsIn K mainGlobals "MOST_KNOCKS" = some (some (.int 200 t_MOST_KNOCKS)))
  {t_MOST_TIME_asking:Tok} (y_MOST_TIME_asking:PySem.W.nsIn K mainGlobals "MOST_TIME_asking" = some (some (.int 400000 t_MOST_TIME_asking)))
  {gt_GATE_BOUNDS_0_0:Tok} {gt_GATE_BOUNDS_0_1:Tok} {ga_GATE_BOUNDS_0:Addr} {gn_GATE_BOUNDS_0:Nat} {gs_GATE_BOUNDS_0:Array (Option Value)} (yl_GATE_BOUNDS_0:K.lookup ga_GATE_BOUNDS_0=some ⟨.type "tuple",none,.seq #[.int 1 gt_GATE_BOUNDS_0_0,.int 20 gt_GATE_BOUNDS_0_1] gn_GATE_BOUNDS_0,gs_GATE_BOUNDS_0⟩) {gt_GATE_BOUNDS_1_0:Tok} {gt_GATE_BOUNDS_1_1:Tok} {ga_GATE_BOUNDS_1:Addr} {gn_GATE_BOUNDS_1:Nat} {gs_GATE_BOUNDS_1:Array (Option Value)} (yl_GATE_BOUNDS_1:K.lookup ga_GATE_BOUNDS_1=some ⟨.type "tuple",none,.seq #[.int 1 gt_GATE_BOUNDS_1_0,.int 1000 gt_GATE_BOUNDS_1_1] gn_GATE_BOUNDS_1,gs_GATE_BOUNDS_1⟩) {gt_GATE_BOUNDS_2_0:Tok} {gt_GATE_BOUNDS_2_1:Tok} {ga_GATE_BOUNDS_2:Addr} {gn_GATE_BOUNDS_2:Nat} {gs_GATE_BOUNDS_2:Array (Option Value)} (yl_GATE_BOUNDS_2:K.lookup ga_GATE_BOUNDS_2=some ⟨.type "tuple",none,.seq #[.int 1 gt_GATE_BOUNDS_2_0,.int 10 gt_GATE_BOUNDS_2_1] gn_GATE_BOUNDS_2,gs_GATE_BOUNDS_2⟩) {gt_GATE_BOUNDS_3_0:Tok} {gt_GATE_BOUNDS_3_1:Tok} {ga_GATE_BOUNDS_3:Addr} {gn_GATE_BOUNDS_3:Nat} {gs_GATE_BOUNDS_3:Array (Option Value)} (yl_GATE_BOUNDS_3:K.lookup ga_GATE_BOUNDS_3=some ⟨.type "tuple",none,.seq #[.int 1 gt_GATE_BOUNDS_3_0,.int 1000 gt_GATE_BOUNDS_3_1] gn_GATE_BOUNDS_3,gs_GATE_BOUNDS_3⟩) {gt_GATE_BOUNDS_4_0:Tok} {gt_GATE_BOUNDS_4_1:Tok} {ga_GATE_BOUNDS_4:Addr} {gn_GATE_BOUNDS_4:Nat} {gs_GATE_BOUNDS_4:Array (Option Value)} (yl_GATE_BOUNDS_4:K.lookup ga_GATE_BOUNDS_4=some ⟨.type "tuple",none,.seq #[.int 1 gt_GATE_BOUNDS_4_0,.int 10 gt_GATE_BOUNDS_4_1] gn_GATE_BOUNDS_4,gs_GATE_BOUNDS_4⟩) {ga_GATE_BOUNDS:Addr} {gn_GATE_BOUNDS:Nat} {gs_GATE_BOUNDS:Array (Option Value)} (yl_GATE_BOUNDS:K.lookup ga_GATE_BOUNDS=some ⟨.type "tuple",none,.seq #[.ref ga_GATE_BOUNDS_0,.ref ga_GATE_BOUNDS_1,.ref ga_GATE_BOUNDS_2,.ref ga_GATE_BOUNDS_3,.ref ga_GATE_BOUNDS_4] gn_GATE_BOUNDS,gs_GATE_BOUNDS⟩)
  (y_GATE_BOUNDS:PySem.W.nsIn K mainGlobals "GATE_BOUNDS" = some (some (.ref ga_GATE_BOUNDS)))
  {gt_PURSE_BOUNDS_0_0:Tok} {gt_PURSE_BOUNDS_0_1:Tok} {ga_PURSE_BOUNDS_0:Addr} {gn_PURSE_BOUNDS_0:Nat} {gs_PURSE_BOUNDS_0:Array (Option Value)} (yl_PURSE_BOUNDS_0:K.lookup ga_PURSE_BOUNDS_0=some ⟨.type "tuple",none,.seq #[.int 0 gt_PURSE_BOUNDS_0_0,.int 1000 gt_PURSE_BOUNDS_0_1] gn_PURSE_BOUNDS_0,gs_PURSE_BOUNDS_0⟩) {gt_PURSE_BOUNDS_1_0:Tok} {gt_PURSE_BOUNDS_1_1:Tok} {ga_PURSE_BOUNDS_1:Addr} {gn_PURSE_BOUNDS_1:Nat} {gs_PURSE_BOUNDS_1:Array (Option Value)} (yl_PURSE_BOUNDS_1:K.lookup ga_PURSE_BOUNDS_1=some ⟨.type "tuple",none,.seq #[.int 1 gt_PURSE_BOUNDS_1_0,.int 1000 gt_PURSE_BOUNDS_1_1] gn_PURSE_BOUNDS_1,gs_PURSE_BOUNDS_1⟩) {gt_PURSE_BOUNDS_2_0:Tok} {gt_PURSE_BOUNDS_2_1:Tok} {ga_PURSE_BOUNDS_2:Addr} {gn_PURSE_BOUNDS_2:Nat} {gs_PURSE_BOUNDS_2:Array (Option Value)} (yl_PURSE_BOUNDS_2:K.lookup ga_PURSE_BOUNDS_2=some ⟨.type "tuple",none,.seq #[.int 0 gt_PURSE_BOUNDS_2_0,.int 10000 gt_PURSE_BOUNDS_2_1] gn_PURSE_BOUNDS_2,gs_PURSE_BOUNDS_2⟩) {gt_PURSE_BOUNDS_3_0:Tok} {gt_PURSE_BOUNDS_3_1:Tok} {ga_PURSE_BOUNDS_3:Addr} {gn_PURSE_BOUNDS_3:Nat} {gs_PURSE_BOUNDS_3:Array (Option Value)} (yl_PURSE_BOUNDS_3:K.lookup ga_PURSE_BOUNDS_3=some ⟨.type "tuple",none,.seq #[.int 0 gt_PURSE_BOUNDS_3_0,.int 10000 gt_PURSE_BOUNDS_3_1] gn_PURSE_BOUNDS_3,gs_PURSE_BOUNDS_3⟩) {ga_PURSE_BOUNDS:Addr} {gn_PURSE_BOUNDS:Nat} {gs_PURSE_BOUNDS:Array (Option Value)} (yl_PURSE_BOUNDS:K.lookup ga_PURSE_BOUNDS=some ⟨.type "tuple",none,.seq #[.ref ga_PURSE_BOUNDS_0,.ref ga_PURSE_BOUNDS_1,.ref ga_PURSE_BOUNDS_2,.ref ga_PURSE_BOUNDS_3] gn_PURSE_BOUNDS,gs_PURSE_BOUNDS⟩)
  (y_PURSE_BOUNDS:PySem.W.nsIn K mainGlobals "PURSE_BOUNDS" = some (some (.ref ga_PURSE_BOUNDS)))
  {t_MOST_TIME_callers:Tok} (y_MOST_TIME_callers:PySem.W.nsIn K mainGlobals "MOST_TIME_callers" = some (some (.int 1000 t_MOST_TIME_callers)))
  {t_FIGURES:Tok} (y_FIGURES:PySem.W.nsIn K mainGlobals "FIGURES" = some (some (.str "0123456789" t_FIGURES)))
  {t_MOST_FIGURES:Tok} (y_MOST_FIGURES:PySem.W.nsIn K mainGlobals "MOST_FIGURES" = some (some (.int 30 t_MOST_FIGURES)))
  {t_MOST_ROWS:Tok} (y_MOST_ROWS:PySem.W.nsIn K mainGlobals "MOST_ROWS" = some (some (.int 4 t_MOST_ROWS)))
  {t_GAPS:Tok} (y_GAPS:PySem.W.nsIn K mainGlobals "GAPS" = some (some (.str "gaps" t_GAPS)))
  {t_PLAN:Tok} (y_PLAN:PySem.W.nsIn K mainGlobals "PLAN" = some (some (.str "plan" t_PLAN)))
  {t_PURSE:Tok} (y_PURSE:PySem.W.nsIn K mainGlobals "PURSE" = some (some (.str "purse" t_PURSE)))
  {t_GATE:Tok} (y_GATE:PySem.W.nsIn K mainGlobals "GATE" = some (some (.str "gate" t_GATE)))
  {c_NoText:Addr} (xa_NoText:PySem.W.nsIn K mainGlobals "NoText" = some (some (.ref c_NoText)))
  {c_KnockError:Addr} (xa_KnockError:PySem.W.nsIn K mainGlobals "KnockError" = some (some (.ref c_KnockError)))
  {c_NoBeat:Addr} (xa_NoBeat:PySem.W.nsIn K mainGlobals "NoBeat" = some (some (.ref c_NoBeat)))
  {c_NoStep:Addr} (xa_NoStep:PySem.W.nsIn K mainGlobals "NoStep" = some (some (.ref c_NoStep)))
  {c_NoNumber:Addr} (xa_NoNumber:PySem.W.nsIn K mainGlobals "NoNumber" = some (some (.ref c_NoNumber)))
  {c_NoLine:Addr} (xa_NoLine:PySem.W.nsIn K mainGlobals "NoLine" = some (some (.ref c_NoLine)))
  {c_NoStory:Addr} (xa_NoStory:PySem.W.nsIn K mainGlobals "NoStory" = some (some (.ref c_NoStory)))
  {c_TooGreat:Addr} (xa_TooGreat:PySem.W.nsIn K mainGlobals "TooGreat" = some (some (.ref c_TooGreat)))
  (xd_NoText:PySem.W.hasDictIn K c_NoText=true)
  (xt_NoText:PySem.W.typeIn K (.ref c_NoText)=some (.type "type"))
  (xd_KnockError:PySem.W.hasDictIn K c_KnockError=true)
  (xt_KnockError:PySem.W.typeIn K (.ref c_KnockError)=some (.type "type"))
  (xd_NoBeat:PySem.W.hasDictIn K c_NoBeat=true)
  (xt_NoBeat:PySem.W.typeIn K (.ref c_NoBeat)=some (.type "type"))
  (xd_NoStep:PySem.W.hasDictIn K c_NoStep=true)
  (xt_NoStep:PySem.W.typeIn K (.ref c_NoStep)=some (.type "type"))
  (xd_NoNumber:PySem.W.hasDictIn K c_NoNumber=true)
  (xt_NoNumber:PySem.W.typeIn K (.ref c_NoNumber)=some (.type "type"))
  (xd_NoLine:PySem.W.hasDictIn K c_NoLine=true)
  (xt_NoLine:PySem.W.typeIn K (.ref c_NoLine)=some (.type "type"))
  (xd_NoStory:PySem.W.hasDictIn K c_NoStory=true)
  (xt_NoStory:PySem.W.typeIn K (.ref c_NoStory)=some (.type "type"))
  (xd_TooGreat:PySem.W.hasDictIn K c_TooGreat=true)
  (xt_TooGreat:PySem.W.typeIn K (.ref c_TooGreat)=some (.type "type"))
  (xsp:PySem.W.specialIn K (.builtin "object.__class__") "__get__" = some (some (.builtin "getset_descriptor.__get__")))
  (xtk:PySem.W.takesIn K (.builtin "object.__class__")=some true)
  (xkb:PySem.W.subIn K (.ref c_KnockError) (.type "BaseException")=some true)
  {i_NoText:Addr} (xj_NoText:PySem.W.findIn K (.ref c_NoText) "__init__" = some (some (.ref i_NoText)))
  (xe_NoText:excInI K c_NoText [.type "ValueError",.type "Exception",.type "BaseException",.type "object"] "ValueError.__new__" i_NoText=true)
  (xu_NoText:PySem.W.findIn K (.ref c_NoText) "__setattr__" = some (some (.builtin "object.__setattr__")))
  (xv_NoText_row:PySem.W.findIn K (.ref c_NoText) "row" = some none)
  {xod_NoText xan_NoText:Option Addr} {xsl_NoText:Array (Option Value)} {xkV_NoText xdc_NoText xpm_NoText xcd_NoText xct_NoText:Value} (xl_NoText:K.lookup i_NoText=some ⟨.type "function",xod_NoText,.func (PySem.W.fnOf "__init__" "NoText.__init__" (defArgs (inClass cl_NoText 0)) (defBody (inClass cl_NoText 0)) (defScope (inClass cl_NoText 0)) .none xkV_NoText xdc_NoText xpm_NoText xan_NoText xcd_NoText xct_NoText),xsl_NoText⟩)
  (xw_NoText:PySem.W.codeIn K xcd_NoText "NoText.__init__" = true)
  (xy_NoText:PySem.W.keepIn K (.ref i_NoText)=true)
  (xg_NoText:PySem.W.findIn K (.ref c_NoText) "__getattribute__" = some (some (.builtin "BaseException.__getattribute__")))
  (xh_NoText:PySem.W.findIn K (.ref c_NoText) "__getattr__" = some none)
  (xo_NoText:PySem.W.mroIn K c_NoText (.type "BaseException")=some true)
  (xf_NoText:PySem.W.findIn K (.ref c_NoText) "__class__" = some (some (.builtin "object.__class__")))
  (xm_NoText:PySem.W.mroIn K c_NoText (.type "object")=some true)
  (xs_NoText_KnockError:PySem.W.subIn K (.ref c_NoText) (.ref c_KnockError)=some true)
  (xs_NoText_NoBeat:PySem.W.subIn K (.ref c_NoText) (.ref c_NoBeat)=some false)
  (xn_NoText_NoBeat:c_NoText≠c_NoBeat)
  (xs_NoText_NoStep:PySem.W.subIn K (.ref c_NoText) (.ref c_NoStep)=some false)
  (xn_NoText_NoStep:c_NoText≠c_NoStep)
  (xs_NoText_NoNumber:PySem.W.subIn K (.ref c_NoText) (.ref c_NoNumber)=some false)
  (xn_NoText_NoNumber:c_NoText≠c_NoNumber)
  (xs_NoText_NoLine:PySem.W.subIn K (.ref c_NoText) (.ref c_NoLine)=some false)
  (xn_NoText_NoLine:c_NoText≠c_NoLine)
  (xs_NoText_NoStory:PySem.W.subIn K (.ref c_NoText) (.ref c_NoStory)=some false)
  (xn_NoText_NoStory:c_NoText≠c_NoStory)
  (xs_NoText_TooGreat:PySem.W.subIn K (.ref c_NoText) (.ref c_TooGreat)=some false)
  (xn_NoText_TooGreat:c_NoText≠c_TooGreat)
  (xb_NoText_ValueError:PySem.W.subIn K (.ref c_NoText) (.type "ValueError")=some true)
  (xb_NoText_LookupError:PySem.W.subIn K (.ref c_NoText) (.type "LookupError")=some false)
  (xb_NoText_TypeError:PySem.W.subIn K (.ref c_NoText) (.type "TypeError")=some false)
  (xb_NoText_ArithmeticError:PySem.W.subIn K (.ref c_NoText) (.type "ArithmeticError")=some false)
  (xb_NoText_RuntimeError:PySem.W.subIn K (.ref c_NoText) (.type "RuntimeError")=some false)
  : ∃ fd:FuncData,(∀(s:Shared) (v:Value),BindsTo s fd ⟨[v],[]⟩ [("_law_script",v)])/\∀ base:Heap,K.In base->base.Ns mainGlobals mg->FnOk l.prog w K mg base CX0 11 fa fd ["_law_script"] (cnSp K sp_law):=by
 obtain⟨f28,fd28,a28,F28⟩:=p28
 have e:=hfa.symm.trans (PySem.W.mg_of X G a28)
 cases e
 have B:Blt mg:=⟨PySem.W.mg_none_of X G z_len,PySem.W.mg_none_of X G z_range,PySem.W.mg_none_of X G z_enumerate,PySem.W.mg_none_of X G z_max,PySem.W.mg_none_of X G z_repr,PySem.W.mg_none_of X G z_isinstance,PySem.W.mg_none_of X G z_all,PySem.W.mg_none_of X G z_zip,PySem.W.mg_none_of X G z_tupleT,PySem.W.mg_none_of X G z_intT,PySem.W.mg_none_of X G z_listT,PySem.W.mg_none_of X G z_strT,PySem.W.mg_none_of X G z_boolT,PySem.W.mg_none_of X G z_ValueError,PySem.W.mg_none_of X G z_LookupError,PySem.W.mg_none_of X G z_TypeError,PySem.W.mg_none_of X G z_ArithmeticError,PySem.W.mg_none_of X G z_RuntimeError⟩
 have G_GAPS_BOUNDS:=PySem.W.mg_of X G y_GAPS_BOUNDS
 have N_GAPS_BOUNDS:∀ H,Rep K H (.tuple [(.tuple [(.int 1),(.int 1000)]),(.tuple [(.int 1),(.int 10)]),(.tuple [(.int 0),(.int 1000)]),(.tuple [(.int 1),(.int 1000)])]) (.ref ga_GAPS_BOUNDS):=fun H=>(.tup (sqT_K (xs:=[.ref ga_GAPS_BOUNDS_0,.ref ga_GAPS_BOUNDS_1,.ref ga_GAPS_BOUNDS_2,.ref ga_GAPS_BOUNDS_3]) yl_GAPS_BOUNDS (Nat.le_of_ble_eq_true rfl) (.cons rfl (.cons rfl (.cons rfl (.cons rfl .nil))))) (.cons (.tup (sqT_K (xs:=[.int 1,.int 1000]) yl_GAPS_BOUNDS_0 (Nat.le_of_ble_eq_true rfl) (.cons ⟨_,rfl⟩ (.cons ⟨_,rfl⟩ .nil))) (.cons .int (.cons .int .nil))) (.cons (.tup (sqT_K (xs:=[.int 1,.int 10]) yl_GAPS_BOUNDS_1 (Nat.le_of_ble_eq_true rfl) (.cons ⟨_,rfl⟩ (.cons ⟨_,rfl⟩ .nil))) (.cons .int (.cons .int .nil))) (.cons (.tup (sqT_K (xs:=[.int 0,.int 1000]) yl_GAPS_BOUNDS_2 (Nat.le_of_ble_eq_true rfl) (.cons ⟨_,rfl⟩ (.cons ⟨_,rfl⟩ .nil))) (.cons .int (.cons .int .nil))) (.cons (.tup (sqT_K (xs:=[.int 1,.int 1000]) yl_GAPS_BOUNDS_3 (Nat.le_of_ble_eq_true rfl) (.cons ⟨_,rfl⟩ (.cons ⟨_,rfl⟩ .nil))) (.cons .int (.cons .int .nil))) .nil)))))
 have G_MOST_KNOCKS:=PySem.W.mg_of X G y_MOST_KNOCKS
 have G_MOST_TIME_asking:=PySem.W.mg_of X G y_MOST_TIME_asking
 have G_GATE_BOUNDS:=PySem.W.mg_of X G y_GATE_BOUNDS
 have N_GATE_BOUNDS:∀ H,Rep K H (.tuple [(.tuple [(.int 1),(.int 20)]),(.tuple [(.int 1),(.int 1000)]),(.tuple [(.int 1),(.int 10)]),(.tuple [(.int 1),(.int 1000)]),(.tuple [(.int 1),(.int 10)])]) (.ref ga_GATE_BOUNDS):=fun H=>(.tup (sqT_K (xs:=[.ref ga_GATE_BOUNDS_0,.ref ga_GATE_BOUNDS_1,.ref ga_GATE_BOUNDS_2,.ref ga_GATE_BOUNDS_3,.ref ga_GATE_BOUNDS_4]) yl_GATE_BOUNDS (Nat.le_of_ble_eq_true rfl) (.cons rfl (.cons rfl (.cons rfl (.cons rfl (.cons rfl .nil)))))) (.cons (.tup (sqT_K (xs:=[.int 1,.int 20]) yl_GATE_BOUNDS_0 (Nat.le_of_ble_eq_true rfl) (.cons ⟨_,rfl⟩ (.cons ⟨_,rfl⟩ .nil))) (.cons .int (.cons .int .nil))) (.cons (.tup (sqT_K (xs:=[.int 1,.int 1000]) yl_GATE_BOUNDS_1 (Nat.le_of_ble_eq_true rfl) (.cons ⟨_,rfl⟩ (.cons ⟨_,rfl⟩ .nil))) (.cons .int (.cons .int .nil))) (.cons (.tup (sqT_K (xs:=[.int 1,.int 10]) yl_GATE_BOUNDS_2 (Nat.le_of_ble_eq_true rfl) (.cons ⟨_,rfl⟩ (.cons ⟨_,rfl⟩ .nil))) (.cons .int (.cons .int .nil))) (.cons (.tup (sqT_K (xs:=[.int 1,.int 1000]) yl_GATE_BOUNDS_3 (Nat.le_of_ble_eq_true rfl) (.cons ⟨_,rfl⟩ (.cons ⟨_,rfl⟩ .nil))) (.cons .int (.cons .int .nil))) (.cons (.tup (sqT_K (xs:=[.int 1,.int 10]) yl_GATE_BOUNDS_4 (Nat.le_of_ble_eq_true rfl) (.cons ⟨_,rfl⟩ (.cons ⟨_,rfl⟩ .nil))) (.cons .int (.cons .int .nil))) .nil))))))
 have G_PURSE_BOUNDS:=PySem.W.mg_of X G y_PURSE_BOUNDS
 have N_PURSE_BOUNDS:∀ H,Rep K H (.tuple [(.tuple [(.int 0),(.int 1000)]),(.tuple [(.int 1),(.int 1000)]),(.tuple [(.int 0),(.int 10000)]),(.tuple [(.int 0),(.int 10000)])]) (.ref ga_PURSE_BOUNDS):=fun H=>(.tup (sqT_K (xs:=[.ref ga_PURSE_BOUNDS_0,.ref ga_PURSE_BOUNDS_1,.ref ga_PURSE_BOUNDS_2,.ref ga_PURSE_BOUNDS_3]) yl_PURSE_BOUNDS (Nat.le_of_ble_eq_true rfl) (.cons rfl (.cons rfl (.cons rfl (.cons rfl .nil))))) (.cons (.tup (sqT_K (xs:=[.int 0,.int 1000]) yl_PURSE_BOUNDS_0 (Nat.le_of_ble_eq_true rfl) (.cons ⟨_,rfl⟩ (.cons ⟨_,rfl⟩ .nil))) (.cons .int (.cons .int .nil))) (.cons (.tup (sqT_K (xs:=[.int 1,.int 1000]) yl_PURSE_BOUNDS_1 (Nat.le_of_ble_eq_true rfl) (.cons ⟨_,rfl⟩ (.cons ⟨_,rfl⟩ .nil))) (.cons .int (.cons .int .nil))) (.cons (.tup (sqT_K (xs:=[.int 0,.int 10000]) yl_PURSE_BOUNDS_2 (Nat.le_of_ble_eq_true rfl) (.cons ⟨_,rfl⟩ (.cons ⟨_,rfl⟩ .nil))) (.cons .int (.cons .int .nil))) (.cons (.tup (sqT_K (xs:=[.int 0,.int 10000]) yl_PURSE_BOUNDS_3 (Nat.le_of_ble_eq_true rfl) (.cons ⟨_,rfl⟩ (.cons ⟨_,rfl⟩ .nil))) (.cons .int (.cons .int .nil))) .nil)))))
 have G_MOST_TIME_callers:=PySem.W.mg_of X G y_MOST_TIME_callers
 have G_FIGURES:=PySem.W.mg_of X G y_FIGURES
 have G_MOST_FIGURES:=PySem.W.mg_of X G y_MOST_FIGURES
 have G_MOST_ROWS:=PySem.W.mg_of X G y_MOST_ROWS
 have G_GAPS:=PySem.W.mg_of X G y_GAPS
 have G_PLAN:=PySem.W.mg_of X G y_PLAN
 have G_PURSE:=PySem.W.mg_of X G y_PURSE
 have G_GATE:=PySem.W.mg_of X G y_GATE
 have xi_NoText:XIs K c_NoText:=⟨xg_NoText,xh_NoText,xo_NoText,xd_NoText,xf_NoText,xsp,xtk,xm_NoText⟩
 have XF:Xf K mg:=⟨⟨_,PySem.W.mg_of X G xa_KnockError,(fa_cons (ns_at xa_NoText ⟨kitCls_of xd_KnockError xt_KnockError xs_NoText_KnockError,xkb⟩) fa_nil)⟩,((fa_cons (ns_at xa_NoText ⟨xi_NoText,xv_NoText_row⟩) fa_nil)),⟨_,PySem.W.mg_of X G xa_NoBeat,tab_of (c:=fun _=>True) tabX_in (fa_cons (tab_at (v:=false) xa_NoText (by decide +kernel) ⟨xi_NoText,(kitOne_ne xn_NoText_NoBeat (kitCls_of xd_NoBeat xt_NoBeat xs_NoText_NoBeat))⟩) fa_nil)⟩,⟨_,PySem.W.mg_of X G xa_NoStep,tab_of (c:=fun _=>True) tabX_in (fa_cons (tab_at (v:=false) xa_NoText (by decide +kernel) ⟨xi_NoText,(kitOne_ne xn_NoText_NoStep (kitCls_of xd_NoStep xt_NoStep xs_NoText_NoStep))⟩) fa_nil)⟩,⟨_,PySem.W.mg_of X G xa_NoNumber,tab_of (c:=fun _=>True) tabX_in (fa_cons (tab_at (v:=false) xa_NoText (by decide +kernel) ⟨xi_NoText,(kitOne_ne xn_NoText_NoNumber (kitCls_of xd_NoNumber xt_NoNumber xs_NoText_NoNumber))⟩) fa_nil)⟩,⟨_,PySem.W.mg_of X G xa_NoLine,tab_of (c:=fun _=>True) tabX_in (fa_cons (tab_at (v:=false) xa_NoText (by decide +kernel) ⟨xi_NoText,(kitOne_ne xn_NoText_NoLine (kitCls_of xd_NoLine xt_NoLine xs_NoText_NoLine))⟩) fa_nil)⟩,⟨_,PySem.W.mg_of X G xa_NoStory,tab_of (c:=fun _=>True) tabX_in (fa_cons (tab_at (v:=false) xa_NoText (by decide +kernel) ⟨xi_NoText,(kitOne_ne xn_NoText_NoStory (kitCls_of xd_NoStory xt_NoStory xs_NoText_NoStory))⟩) fa_nil)⟩,⟨_,PySem.W.mg_of X G xa_NoText,tab_of (c:=fun _=>True) tabX_in (fa_cons (tab_at (v:=true) xa_NoText (by decide +kernel) ⟨xi_NoText,kitOne_self⟩) fa_nil)⟩,⟨_,PySem.W.mg_of X G xa_TooGreat,tab_of (c:=fun _=>True) tabX_in (fa_cons (tab_at (v:=false) xa_NoText (by decide +kernel) ⟨xi_NoText,(kitOne_ne xn_NoText_TooGreat (kitCls_of xd_TooGreat xt_TooGreat xs_NoText_TooGreat))⟩) fa_nil)⟩,(tab_of (c:=fun _=>True) tabB_in (fa_cons (tab_at (v:=true) xa_NoText (by decide +kernel) ⟨xi_NoText,(kitOne_ty (by decide +kernel) xb_NoText_ValueError)⟩) fa_nil)),(tab_of (c:=fun _=>True) tabB_in (fa_cons (tab_at (v:=false) xa_NoText (by decide +kernel) ⟨xi_NoText,(kitAny_no (kitOne_ty (by decide +kernel) xb_NoText_LookupError) (kitAny_no (kitOne_ty (by decide +kernel) xb_NoText_TypeError) (kitAny_no (kitOne_ty (by decide +kernel) xb_NoText_ArithmeticError) (kitAny_no (kitOne_ty (by decide +kernel) xb_NoText_RuntimeError) kitAny_nil))))⟩) fa_nil))⟩
 refine⟨fd28,fun s v=>law_binds F28 (fun _ _ _ _ _ _=>rfl),fun base _ _=>?_⟩
 have FI_NoText:=fun_mk (st:=inClass cl_NoText 0) xl_NoText xw_NoText xy_NoText
 have XC_NoText:XFld K c_NoText i_NoText ["row"]:=⟨xe_NoText,xu_NoText,(fa_cons xv_NoText_row fa_nil)⟩
 have R_NoText:FldCls l.prog w K mg base "NoText" ["row"]:=⟨_,_,_,_,_,PySem.W.mg_of X G xa_NoText,xa_NoText,XC_NoText,init_one FI_NoText sci_NoText (FI_NoText.binds (ps:=["self", "row"]) fun _ _ _ _ _ _ us hl=>by obtain⟨_,_,rfl⟩:=us_2 hl;rfl) XC_NoText rfl,xl_NoText⟩
 have C_is_whole:=cal l.prog w base X G p0 (fun _ _ F=>ok_is_whole B F  ) (uq_1 fun _ _ _ _ _ _ _=>rfl)
 have C_number_good:=cal l.prog w base X G p8 (fun _ _ F=>ok_number_good B F G_MOST_FIGURES G_FIGURES ) (uq_1 fun _ _ _ _ _ _ _=>rfl)
 have C__law_cell_at:=cal l.prog w base X G p12 (fun _ _ F=>ok__law_cell_at B F  ) (uq_2 fun _ _ _ _ _ _ _ _=>rfl)
 have C__law_next:=cal l.prog w base X G p13 (fun _ _ F=>ok__law_next B F  ) (uq_1 fun _ _ _ _ _ _ _=>rfl)
 have C__law_pen_of:=cal l.prog w base X G p14 (fun _ _ F=>ok__law_pen_of B F  ) (uq_1 fun _ _ _ _ _ _ _=>rfl)
 have C__law_rows:=cal l.prog w base X G p18 (fun _ _ F=>ok__law_rows B F  ) (uq_1 fun _ _ _ _ _ _ _=>rfl)
 have C__law_number:=cal l.prog w base X G p20 (fun _ _ F=>ok__law_number B F  ) (uq_1 fun _ _ _ _ _ _ _=>rfl)
 have C__law_refusal:=calH l.prog w base X G p22 (fun _ _ F=>ok__law_refusal B F  XF ) (uq_1 fun _ _ _ _ _ _ _=>rfl)
 have C__law_within:=cal l.prog w base X G p23 (fun _ _ F=>ok__law_within B F  ) (uq_2 fun _ _ _ _ _ _ _ _=>rfl)
 have C_whole_in:=cal l.prog w base X G p1 (fun _ _ F=>ok_whole_in B F  C_is_whole) (uq_3 fun _ _ _ _ _ _ _ _ _=>rfl)
 have C_numbers_of:=cal l.prog w base X G p9 (fun _ _ F=>ok_numbers_of B F  C_number_good) (uq_1 fun _ _ _ _ _ _ _=>rfl)
 have C__law_draw:=cal l.prog w base X G p15 (fun _ _ F=>ok__law_draw B F  C__law_next) (uq_2 fun _ _ _ _ _ _ _ _=>rfl)
 have C__law_row_good:=cal l.prog w base X G p24 (fun _ _ F=>ok__law_row_good B F  C__law_number C__law_within) (uq_2 fun _ _ _ _ _ _ _ _=>rfl)
 have C_wholes_in:=cal l.prog w base X G p2 (fun _ _ F=>ok_wholes_in B F  C_whole_in) (uq_2 fun _ _ _ _ _ _ _ _=>rfl)
 have C_row_read:=cal l.prog w base X G p10 (fun _ _ F=>ok_row_read B F  C_numbers_of) (uq_3 fun _ _ _ _ _ _ _ _ _=>rfl)
 have C__law_caller:=cal l.prog w base X G p16 (fun _ _ F=>ok__law_caller B F  C__law_draw) (uq_1 fun _ _ _ _ _ _ _=>rfl)
 have C__law_sign:=cal l.prog w base X G p19 (fun _ _ F=>ok__law_sign B F  C__law_draw) (uq_1 fun _ _ _ _ _ _ _=>rfl)
 have C__law_odd:=cal l.prog w base X G p21 (fun _ _ F=>ok__law_odd B F  C__law_draw) (uq_1 fun _ _ _ _ _ _ _=>rfl)
 have C__law_due:=cal l.prog w base X G p25 (fun _ _ F=>ok__law_due B F  C__law_number C__law_row_good) (uq_1 fun _ _ _ _ _ _ _=>rfl)
 have C__law_bent:=cal l.prog w base X G p27 (fun _ _ F=>ok__law_bent B F  C__law_draw) (uq_2 fun _ _ _ _ _ _ _ _=>rfl)
 have C_gaps_good:=cal l.prog w base X G p3 (fun _ _ F=>ok_gaps_good B F G_GAPS_BOUNDS N_GAPS_BOUNDS C_wholes_in) (uq_1 fun _ _ _ _ _ _ _=>rfl)
 have C_gate_good:=cal l.prog w base X G p5 (fun _ _ F=>ok_gate_good B F G_GATE_BOUNDS N_GATE_BOUNDS C_wholes_in) (uq_1 fun _ _ _ _ _ _ _=>rfl)
 have C_purse_good:=cal l.prog w base X G p6 (fun _ _ F=>ok_purse_good B F G_PURSE_BOUNDS N_PURSE_BOUNDS C_wholes_in) (uq_1 fun _ _ _ _ _ _ _=>rfl)
 have C__law_great:=cal l.prog w base X G p17 (fun _ _ F=>ok__law_great B F  C__law_draw C__law_caller) (uq_1 fun _ _ _ _ _ _ _=>rfl)
 have C_plan_good:=cal l.prog w base X G p4 (fun _ _ F=>ok_plan_good B F G_MOST_KNOCKS G_MOST_TIME_asking C_whole_in C_gaps_good) (uq_1 fun _ _ _ _ _ _ _=>rfl)
 have C_caller_plan_good:=cal l.prog w base X G p7 (fun _ _ F=>ok_caller_plan_good B F G_MOST_TIME_callers C_plan_good) (uq_1 fun _ _ _ _ _ _ _=>rfl)
 have C_caller_read:=calX l.prog w base X G p11 (fun _ _ F=>ok_caller_read B F G_GAPS G_PURSE G_GATE G_PLAN G_MOST_ROWS XF R_NoText C_gaps_good C_gate_good C_purse_good C_caller_plan_good C_row_read) (uq_1 fun _ _ _ _ _ _ _=>rfl)
 have C__law_told:=cal l.prog w base X G p26 (fun _ _ F=>ok__law_told B F  XF C_caller_read C__law_refusal) (uq_1 fun _ _ _ _ _ _ _=>rfl)
 exact ok_law B F28  C__law_cell_at C__law_pen_of C__law_draw C__law_great C__law_rows C__law_sign C__law_odd C__law_due C__law_told C__law_bent
theorem walk{l:PySem.W.OpenLaw}{q:Program}{loose:List Str}{XP:(Str->Option Value)->Heap->Prop}{YP:World->Heap->Prop}{d:DefRec}{K:Params->PySem.W.Frag}(hn:l.most=some 63)(hdf:d.params.defaults = [])
  (hY:∀(w:World) (h:Heap),YP w h->(K w.params).In h)
  (F:∀(w:World) (mg:Str->Option Value) (fa:Addr) (h:Heap),(K w.params).In h->h.Ns mainGlobals mg->mg d.name=some (.ref fa) ->
   ∃ fd:FuncData,(∀(s:Shared) (u:Value),BindsTo s fd ⟨[u],[]⟩ [("_law_script",u)])/\∀ base:Heap,(K w.params).In base->base.Ns mainGlobals mg->FnOk l.prog w (K w.params) mg base CX0 11 fa fd ["_law_script"] (cnSp (K w.params) sp_law)) :
  PySem.W.WalkO q loose XP YP l.row.toRowW d [] (fun f vs=>PySem.call f vs) :=
 L2.walk_of (n:=63) (k:=11) (x := "_law_script") (CX:=fun _=>CX0) (sp:=fun w=>cnSp (K w.params) sp_law) hn (by decide) hdf ⟨rfl,by decide,by decide,rfl⟩ hY F (fun _ _ a ns hl _ hS=>⟨[.scr ns],fun r=>r=.val (.bool true),.cons ⟨a,rfl,hS⟩ .nil,⟨ns,rfl,hl,rfl⟩,fun v H' r _ rp e=>by subst e;cases rp;rfl⟩) fun _ _ _ _ _ z=>z
end My
namespace PySem.W.Fast
def tw4558238278154436813:=()
def tw1632638823500932864:=()
def tw929311835244244595:=()
def tw18376678689324217195:=()
def tw13865239260641293543:=()
def tw1595989948469195705:=()
def tw10931944849072268774:=()
def tw1414695270562237619:=()
def tw13749089214025028017:=()
def tw17126594287372835589:=()
def tw4976645099172121745:=()
def tw8243510175335745036:=()
def tw655276218839568291:=()
def tw14988724766973245364:=()
def tw13467240112360681570:=()
def tw9853206940080446093:=()
def tw14301596580711716917:=()
def tw17251096107690409598:=()
def tw8424803076137798324:=()
def tw15866471522564834786:=()
def tw14087934967202702093:=()
def tw13749917496112814850:=()
def tw13759180400878790171:=()
def tw7698319385790030570:=()
def tw16722018229628519585:=()
def tw4042612163654274630:=()
def tw8161575195162273406:=()
def tw18293440357181119396:=()
def tw6629069563889099244:=()
def tw15254933482050473727:=()
def tw12731091535943106028:=()
def tw9211863639111215889:=()
def tw5789931278662957925:=()
def tw16254976095928657034:=()
def tw14438362087205353381:=()
def tw10854833400685494850:=()
def tw11482369062586518213:=()
def tw8739666947639479720:=()
def tw7795141823378887830:=()
def tw4063944158343671788:=()
def tw9869860574528045910:=()
def tw16565297676831548977:=()
def tw2932578058952957769:=()
def tw6318529625049197116:=()
def tw5468088926970335739:=()
def tw205561739149420572:=()
def tw7127235382741661187:=()
def tw6498289620073166824:=()
def tw9252672143188950457:=()
def tw3801953217124891723:=()
def tw14072534486174807802:=()
def tw5721247595985781510:=()
def tw6935182976750892849:=()
def tw11488762142979216720:=()
def tw1656882477385919625:=()
def tw15588526424595200957:=()
def tw16168417794139615700:=()
def tw13954743349400391430:=()
def tw14189158834895824208:=()
def tw14333560564598831237:=()
def tw4744446085881088296:=()
def tw3769052049170123792:=()
def tw4531900462897663335:=()
def tw8736761930106944793:=()
def tw7696566964103420154:=()
def tw5177110338824032814:=()
def tw4867055841020393102:=()
def tw14620682992564286100:=()
def tw3723532108789857508:=()
def tw4192737646282138745:=()
def tw7769067749379188359:=()
def tw16338966042821956797:=()
def tw15620765808269791521:=()
def tw1854846313718728104:=()
def tw12261583582819639572:=()
def tw6288140650999832950:=()
def tw11660581385043119107:=()
def tw14739351063952965637:=()
def tw15902613210587397380:=()
def tw7656919019698486799:=()
def tw1127400193965161560:=()
def tw10388966370738756110:=()
def tw4365858473260832890:=()
def tw7095821198484903517:=()
def tw4747864893708417345:=()
def tw4489276897139898133:=()
def tw13743025940744713049:=()
def tw2263250557040048242:=()
def tw12529748297864288932:=()
def tw6023299874347270439:=()
def tw13863708370971735502:=()
def tw9324754954167371878:=()
def tw13808435327280002614:=()
def tw12218915238916645084:=()
def tw1395182612923295493:=()
def tw2896406873484119935:=()
def tw10376766097826619490:=()
def tw9488767505273327241:=()
def tw5389626779669182498:=()
def tw6774428648336020914:=()
def tw8450986969044266383:=()
def tw13467747955619495282:=()
def tw8778810248040210619:=()
def tw10075754495768727370:=()
def tw16805191014850941211:=()
def tw16058491525723222868:=()
def tw2331164098369665466:=()
end PySem.W.Fast
open PySem PySem.W PyProof.Rows
local macro_rules | `(tactic| walk_at "fn")=>`(tactic| (refine' My.fn_at ?a ?l ?c ?k;(case a=>k_is);(case l=>k_is);(case c=>k_is);(case k=>k_is)))
set_option maxRecDepth 100000 in
set_option maxHeartbeats 0 in
theorem PySem.Challenge.cw_knockpurse_k92_texts_that_write_no_calle_holds : PySem.Challenge.rw_knockpurse_k92_texts_that_write_no_calle.Holds := by
 w_on;o_law;k_head;(case hw=>w_witness2)
 k_fill
 refine My.walk (l:=PySem.Challenge.rw_knockpurse_k92_texts_that_write_no_calle) rfl rfl (fun w h Y=>PySem.W.kIn_of Y) ?F
 case F =>
  intro w mg fa h KX G hmg
  refine' My.all_mk KX G hmg ?p0 ?p1 ?p2 ?p3 ?p4 ?p5 ?p6 ?p7 ?p8 ?p9 ?p10 ?p11 ?p12 ?p13 ?p14 ?p15 ?p16 ?p17 ?p18 ?p19 ?p20 ?p21 ?p22 ?p23 ?p24 ?p25 ?p26 ?p27 ?p28 ?z_len ?z_range ?z_enumerate ?z_max ?z_repr ?z_isinstance ?z_all ?z_zip ?z_tupleT ?z_intT ?z_listT ?z_strT ?z_boolT ?z_ValueError ?z_LookupError ?z_TypeError ?z_ArithmeticError ?z_RuntimeError ?yl_GAPS_BOUNDS_0 ?yl_GAPS_BOUNDS_1 ?yl_GAPS_BOUNDS_2 ?yl_GAPS_BOUNDS_3 ?yl_GAPS_BOUNDS ?y_GAPS_BOUNDS ?y_MOST_KNOCKS ?y_MOST_TIME_asking ?yl_GATE_BOUNDS_0 ?yl_GATE_BOUNDS_1 ?yl_GATE_BOUNDS_2 ?yl_GATE_BOUNDS_3 ?yl_GATE_BOUNDS_4 ?yl_GATE_BOUNDS ?y_GATE_BOUNDS ?yl_PURSE_BOUNDS_0 ?yl_PURSE_BOUNDS_1 ?yl_PURSE_BOUNDS_2 ?yl_PURSE_BOUNDS_3 ?yl_PURSE_BOUNDS ?y_PURSE_BOUNDS ?y_MOST_TIME_callers ?y_FIGURES ?y_MOST_FIGURES ?y_MOST_ROWS ?y_GAPS ?y_PLAN ?y_PURSE ?y_GATE ?xa_NoText ?xa_KnockError ?xa_NoBeat ?xa_NoStep ?xa_NoNumber ?xa_NoLine ?xa_NoStory ?xa_TooGreat ?xd_NoText ?xt_NoText ?xd_KnockError ?xt_KnockError ?xd_NoBeat ?xt_NoBeat ?xd_NoStep ?xt_NoStep ?xd_NoNumber ?xt_NoNumber ?xd_NoLine ?xt_NoLine ?xd_NoStory ?xt_NoStory ?xd_TooGreat ?xt_TooGreat ?xsp ?xtk ?xkb ?xj_NoText ?xe_NoText ?xu_NoText ?xv_NoText_row ?xl_NoText ?xw_NoText ?xy_NoText ?xg_NoText ?xh_NoText ?xo_NoText ?xf_NoText ?xm_NoText ?xs_NoText_KnockError ?xs_NoText_NoBeat ?xn_NoText_NoBeat ?xs_NoText_NoStep ?xn_NoText_NoStep ?xs_NoText_NoNumber ?xn_NoText_NoNumber ?xs_NoText_NoLine ?xn_NoText_NoLine ?xs_NoText_NoStory ?xn_NoText_NoStory ?xs_NoText_TooGreat ?xn_NoText_TooGreat ?xb_NoText_ValueError ?xb_NoText_LookupError ?xb_NoText_TypeError ?xb_NoText_ArithmeticError ?xb_NoText_RuntimeError
  (case p0=>walk_at "fn")
  (case p1=>walk_at "fn")
  (case p2=>walk_at "fn")
  (case p3=>walk_at "fn")
  (case p4=>walk_at "fn")
  (case p5=>walk_at "fn")
  (case p6=>walk_at "fn")
  (case p7=>walk_at "fn")
  (case p8=>walk_at "fn")
  (case p9=>walk_at "fn")
  (case p10=>walk_at "fn")
  (case p11=>walk_at "fn")
  (case p12=>walk_at "fn")
  (case p13=>walk_at "fn")
  (case p14=>walk_at "fn")
  (case p15=>walk_at "fn")
  (case p16=>walk_at "fn")
  (case p17=>walk_at "fn")
  (case p18=>walk_at "fn")
  (case p19=>walk_at "fn")
  (case p20=>walk_at "fn")
  (case p21=>walk_at "fn")
  (case p22=>walk_at "fn")
  (case p23=>walk_at "fn")
  (case p24=>walk_at "fn")
  (case p25=>walk_at "fn")
  (case p26=>walk_at "fn")
  (case p27=>walk_at "fn")
  (case p28=>walk_at "fn")
  (case z_len=>k_is)
  (case z_range=>k_is)
  (case z_enumerate=>k_is)
  (case z_max=>k_is)
  (case z_repr=>k_is)
  (case z_isinstance=>k_is)
  (case z_all=>k_is)
  (case z_zip=>k_is)
  (case z_tupleT=>k_is)
  (case z_intT=>k_is)
  (case z_listT=>k_is)
  (case z_strT=>k_is)
  (case z_boolT=>k_is)
  (case z_ValueError=>k_is)
  (case z_LookupError=>k_is)
  (case z_TypeError=>k_is)
  (case z_ArithmeticError=>k_is)
  (case z_RuntimeError=>k_is)
  (case y_GAPS_BOUNDS=>k_is)
  (case yl_GAPS_BOUNDS=>k_is)
  (case yl_GAPS_BOUNDS_3=>k_is)
  (case yl_GAPS_BOUNDS_2=>k_is)
  (case yl_GAPS_BOUNDS_1=>k_is)
  (case yl_GAPS_BOUNDS_0=>k_is)
  (case y_MOST_KNOCKS=>k_is)
  (case y_MOST_TIME_asking=>k_is)
  (case y_GATE_BOUNDS=>k_is)
  (case yl_GATE_BOUNDS=>k_is)
  (case yl_GATE_BOUNDS_4=>k_is)
  (case yl_GATE_BOUNDS_3=>k_is)
  (case yl_GATE_BOUNDS_2=>k_is)
  (case yl_GATE_BOUNDS_1=>k_is)
  (case yl_GATE_BOUNDS_0=>k_is)
  (case y_PURSE_BOUNDS=>k_is)
  (case yl_PURSE_BOUNDS=>k_is)
  (case yl_PURSE_BOUNDS_3=>k_is)
  (case yl_PURSE_BOUNDS_2=>k_is)
  (case yl_PURSE_BOUNDS_1=>k_is)
  (case yl_PURSE_BOUNDS_0=>k_is)
  (case y_MOST_TIME_callers=>k_is)
  (case y_FIGURES=>k_is)
  (case y_MOST_FIGURES=>k_is)
  (case y_MOST_ROWS=>k_is)
  (case y_GAPS=>k_is)
  (case y_PLAN=>k_is)
  (case y_PURSE=>k_is)
  (case y_GATE=>k_is)
  (case xa_NoText=>k_is)
  (case xa_KnockError=>k_is)
  (case xa_NoBeat=>k_is)
  (case xa_NoStep=>k_is)
  (case xa_NoNumber=>k_is)
  (case xa_NoLine=>k_is)
  (case xa_NoStory=>k_is)
  (case xa_TooGreat=>k_is)
  (case xd_NoText=>k_is)
  (case xt_NoText=>k_is)
  (case xd_KnockError=>k_is)
  (case xt_KnockError=>k_is)
  (case xd_NoBeat=>k_is)
  (case xt_NoBeat=>k_is)
  (case xd_NoStep=>k_is)
  (case xt_NoStep=>k_is)
  (case xd_NoNumber=>k_is)
  (case xt_NoNumber=>k_is)
  (case xd_NoLine=>k_is)
  (case xt_NoLine=>k_is)
  (case xd_NoStory=>k_is)
  (case xt_NoStory=>k_is)
  (case xd_TooGreat=>k_is)
  (case xt_TooGreat=>k_is)
  (case xsp=>k_is)
  (case xtk=>k_is)
  (case xkb=>k_is)
  (case xj_NoText=>k_is)
  (case xe_NoText=>kernel_rfl)
  (case xu_NoText=>k_is)
  (case xv_NoText_row=>k_is)
  (case xl_NoText=>k_is)
  (case xw_NoText=>k_is)
  (case xy_NoText=>k_is)
  (case xg_NoText=>k_is)
  (case xh_NoText=>k_is)
  (case xo_NoText=>k_is)
  (case xf_NoText=>k_is)
  (case xm_NoText=>k_is)
  (case xs_NoText_KnockError=>k_is)
  (case xs_NoText_NoBeat=>k_is)
  (case xn_NoText_NoBeat=>decide)
  (case xs_NoText_NoStep=>k_is)
  (case xn_NoText_NoStep=>decide)
  (case xs_NoText_NoNumber=>k_is)
  (case xn_NoText_NoNumber=>decide)
  (case xs_NoText_NoLine=>k_is)
  (case xn_NoText_NoLine=>decide)
  (case xs_NoText_NoStory=>k_is)
  (case xn_NoText_NoStory=>decide)
  (case xs_NoText_TooGreat=>k_is)
  (case xn_NoText_TooGreat=>decide)
  (case xb_NoText_ValueError=>k_is)
  (case xb_NoText_LookupError=>k_is)
  (case xb_NoText_TypeError=>k_is)
  (case xb_NoText_ArithmeticError=>k_is)
  (case xb_NoText_RuntimeError=>k_is)
