import PyProof.Rows.All
import Wide.All
import OpenK.AllK
import Wide.FinOn
import Lean
import PyProof.EqAt
import PyProof.EqKinds
import PyProof.TupleCall
import PyProof.ZipIter
import PyProof.ExcAttrAll.ValueError
import PyProof.FactsAll.tuple_2
import PyProof.ListMulRoad
import PyProof.StrOps2
import KE.IntBitsLaws
import PySem.Challenge.RW_slotbook_k64_whole_strict_walks
set_option Elab.async false
set_option maxRecDepth 100000
set_option linter.all false
set_option maxHeartbeats 4000000
namespace L2
open PySem PySem.Spec PyProof.Rows
abbrev Key:=Sum Int Str
def zK7:Key->Value->Bool
 | .inl k,v=>Value.isInt k v
 | .inr x,v=>Value.isStrOf x v
def zNO (w:World):Key->Int
 | .inl k=>hashInt k
 | .inr x=>hashStr w x
theorem Q6:∀ {k:Key} {v:Value},zK7 k v=true->(∃ i t,k=Sum.inl i/\v=Value.int i t)\/(∃ x t,k=Sum.inr x/\v=Value.str x t)
 | .inl i,v,h=>by
  obtain⟨t,e⟩:=Value.isInt_shape (k:=i) (v:=v) h
  exact .inl ⟨i,t,rfl,e⟩
 | .inr x,v,h=>by
  obtain⟨t,e⟩:=Value.isStrOf_shape (x:=x) (v:=v) h
  exact .inr ⟨x,t,rfl,e⟩
theorem zLs (a b:Int):decide ((Sum.inl a:Key)=Sum.inl b)=(a == b):=by
 by_cases e:a=b
 ·subst e;simp
 ·have h:¬ (Sum.inl a:Key)=Sum.inl b:=fun q=>e (Sum.inl.inj q)
  rw[decide_eq_false h]
  exact (beq_eq_false_iff_ne.mpr e).symm
theorem zLQ (a b:Str):decide ((Sum.inr a:Key)=Sum.inr b)=decide (a=b):=by
 by_cases e:a=b
 ·subst e;simp
 ·have h:¬ (Sum.inr a:Key)=Sum.inr b:=fun q=>e (Sum.inr.inj q)
  rw[decide_eq_false h,decide_eq_false e]
theorem zLV (a:Int) (b:Str):decide ((Sum.inl a:Key)=Sum.inr b)=false:=decide_eq_false (fun q=>nomatch q)
theorem zLi (a:Str) (b:Int):decide ((Sum.inr a:Key)=Sum.inl b)=false:=decide_eq_false (fun q=>nomatch q)
def zDP (prog:Program) (w:World):PySem.KeyKind prog w Key where
 is:=zK7
 hash:=zNO w
 inj:=fun v a b ha hb=>by
  rcases Q6 ha with ⟨i,t,rfl,rfl⟩ | ⟨x,t,rfl,rfl⟩
  ·rcases Q6 hb with ⟨j,u,rfl,e⟩ | ⟨y,u,rfl,e⟩
   ·injection e with e1 _;rw[e1]
   ·exact nomatch e
  ·rcases Q6 hb with ⟨j,u,rfl,e⟩ | ⟨y,u,rfl,e⟩
   ·exact nomatch e
   ·injection e with e1 _;rw[e1]
 byValue:=fun k v h=>by
  rcases Q6 h with ⟨i,t,rfl,rfl⟩ | ⟨x,t,rfl,rfl⟩ <;> rfl
 pyHash:=fun hv h=>by
  rcases Q6 hv with ⟨i,t,rfl,rfl⟩ | ⟨x,t,rfl,rfl⟩
  ·exact wpAny_pyHash_int h
  ·exact wpAny_pyHash_str h
 eqBool:=fun hu hv h=>by
  rcases Q6 hu with ⟨i,t,rfl,rfl⟩ | ⟨x,t,rfl,rfl⟩
  ·rcases Q6 hv with ⟨j,u,rfl,rfl⟩ | ⟨y,u,rfl,rfl⟩
   ·rw[zLs] at h;exact wpAny_eqBool_int h
   ·rw[zLV] at h;exact SeqAt.EqAt.int_str i t y u _ _ _ _ h
  ·rcases Q6 hv with ⟨j,u,rfl,rfl⟩ | ⟨y,u,rfl,rfl⟩
   ·rw[zLi] at h;exact SeqAt.EqAt.str_int x t j u _ _ _ _ h
   ·rw[zLQ] at h;exact wpAny_eqBool_str h
 «strs»:=fun k x t v h=>by
  rcases Q6 h with ⟨i,u,rfl,e⟩ | ⟨y,u,rfl,e⟩
  ·exact nomatch e
  ·injection e with e1 _
   subst e1
   cases v <;> rfl
end L2
namespace L2
open PySem PySem.Spec PyProof.Rows
inductive V where
 | non | bl (b:Bool) | int (i:Int) | str (x:Str) | byt (b:Array UInt8) | flt (b:UInt64) | ref (a:Addr) | ty (n:String)
 deriving DecidableEq
def RelV:V->Value->Prop
 | .non,u=>u=Value.none
 | .bl b,u=>u=Value.bool b
 | .int i,u=>∃ t,u=Value.int i t
 | .str x,u=>∃ t,u=Value.str x t
 | .byt b,u=>∃ t,u=Value.bytes b t
 | .flt b,u=>∃ t,u=Value.float b t
 | .ref a,u=>u=Value.ref a
 | .ty n,u=>u=Value.type n
abbrev Vals:List V->List Value->Prop:=Paired RelV
theorem Vals.length {xs:List V} {us:List Value} (r:Vals xs us):xs.length=us.length:=Paired.length r
theorem Vals.get:∀ {xs:List V} {us:List Value} {i:Nat} {x:V},Vals xs us->xs[i]? = some x->∃ u,us[i]? = some u/\RelV x u
 | _,_,_,_,.nil,e=>by simp at e
 | _,_,0,_,.cons r _,e=>by simp at e;subst e;exact⟨_,rfl,r⟩
 | _,_,i+1,x,.cons _ t,e=>by
  obtain⟨u,h1,h2⟩:=Vals.get (i:=i) (x:=x) t (by simpa using e)
  exact⟨u,by simpa using h1,h2⟩
theorem Vals.set {x:V} {u:Value} (r:RelV x u):∀ {xs:List V} {us:List Value} (i:Nat),Vals xs us->Vals (xs.set i x) (us.set i u)
 | _,_,_,.nil=>.nil
 | _,_,0,.cons _ t=>.cons r t
 | _,_,i+1,.cons q t=>.cons q (Vals.set r i t)
theorem Vals.append:∀ {xs ys:List V} {us ws:List Value},Vals xs us->Vals ys ws->Vals (xs++ys) (us++ws)
 | _,_,_,_,.nil,s=>s
 | _,_,_,_,.cons r t,s=>.cons r (Vals.append t s)
theorem Vals.take:∀ {xs:List V} {us:List Value} (n:Nat),Vals xs us->Vals (xs.take n) (us.take n)
 | _,_,0,_=>.nil
 | _,_,_+1,.nil=>.nil
 | _,_,n+1,.cons r t=>.cons r (Vals.take n t)
theorem Vals.drop:∀ {xs:List V} {us:List Value} (n:Nat),Vals xs us->Vals (xs.drop n) (us.drop n)
 | _,_,0,r=>r
 | _,_,_+1,.nil=>.nil
 | _,_,n+1,.cons _ t=>Vals.drop n t
def RelO:Option V->Option Value->Prop
 | some v,some u=>RelV v u
 | none,none=>True
 | _,_=>False
def KV {κ:Type}:List (κ × V)->List (κ × Value)->Prop:=Paired fun (p:κ × V) (q:κ × Value)=>p.1=q.1/\RelV p.2 q.2
def kV:Key->V
 | .inl i=>.int i
 | .inr x=>.str x
inductive HO where
 | lst (xs:List V)
 | tup (xs:List V)
 | dK (kvs:List (Key × V)) | dT (kvs:List (List Key × V))
 | set (S:Int->Bool) (n:Nat)
 | ins (C dx:Addr) (fs:List (Str × V))
 | own (x:Addr)
 | xd (fs:List (Str × V))
 | met (f x:Addr)
 | rng (lo hi:Int)
 | frz (o:Obj) (u:HO)
 | tbl (ps:Array Value)
 | ext (φ:Heap->Prop)
abbrev Hp:=Addr->Option HO
def upd (H:Hp) (a:Addr) (o:HO):Hp:=fun b=>if b=a then some o else H b
theorem QF {H:Hp} {a:Addr} {o:HO}:upd H a o a=some o:=by unfold upd;rw[if_pos rfl]
theorem QG {H:Hp} {a b:Addr} {o:HO} (h:b ≠ a):upd H a o b=H b:=by unfold upd;rw[if_neg h]
theorem Q3 {H:Hp} {a:Addr} {o u:HO}:upd (upd H a o) a u=upd H a u:=by
 funext b;unfold upd;split <;> rfl
theorem YN {H:Hp} {a b:Addr} {o u:HO} (h:H a=some o) (h':H b=some u) (d:o ≠ u):a ≠ b:=by
 intro e;subst e;rw[h] at h';exact d (Option.some.inj h')
theorem QI {H:Hp} {a b:Addr} {o:HO} (h:H a=some o) (h':H b=none):a ≠ b:=by
 intro e;subst e;rw[h] at h';cases h'
section
variable (P:Program) (w:World)
def ObjOk (H:Hp) (h:Heap) (a:Addr):HO->Prop
 | .lst xs=>xs.length<=sizeLine/\∃ (its:List Value) (n:Nat),Vals xs its/\h.get? a=some { cls:=.type "list",data:=.seq its.toArray n }
 | .tup xs=>xs.length<=sizeLine/\∃ its:List Value,Vals xs its/\IsTup h a its.toArray
 | .dK kvs=>kvs.length<=sizeLine/\(a == sysModules)=false/\∃ vs,KV kvs vs/\h.DictOf (zDP P w) a vs
 | .dT kvs => kvs.length <= sizeLine /\ (a == sysModules) = false /\ ∃ xs : List (List Key × Addr × Value),
   Paired (fun (p:List Key × V) (q:List Key × Addr × Value)=>p.1=q.1/\H q.2.1=some (.tup (p.1.map kV))/\RelV p.2 q.2.2) kvs xs /\
   ∃ o es ep,h.get? a=some o/\o.ExactDict/\o.data=.dict es ep/\es.toList=xs.map (entryOfKey (tupleKind (zDP P w)))/\(xs.map (·.1)).Nodup
 | .set S n=>h.SetOf (intKind P w) a S n
 | .ins C dx fs => H dx = some (.own a) /\ fs.length <= 1000 /\ dx ≠ a /\ h.get? a = some (W.instObj C dx) /\
   ∃ mA,h.Ns1 dx mA/\(∀ f,RelO (fs.lookup f) (mA f))/\PySem.Within mA (fs.map (·.1))
 | .own _=>∃ o,h.get? a=some o
 | .xd fs=>∃ mA,h.Ns1 a mA/\∀ f,RelO (fs.lookup f) (mA f)
 | .rng lo hi=>∃ t u v,h.get? a=some { cls:=.type "range",data:=.fields #[.int lo t,.int hi u,.int 1 v] }
 | .frz o u=>h.get? a=some o/\ObjOk H h a u
 | .tbl ps=>h.get? a=some { cls:=.none,data:=.fields ps }
 | .met f x=>h.get? a=some (PySem.W.methodObj (.ref f) (.ref x))
 | .ext φ=>φ h/\(∃ o,h.get? a=some o)/\∀ h1 h2:Heap,φ h1->(∀ o,h1.get? a=some o->h2.get? a=some o)->φ h2
def HOk (H:Hp) (h:Heap):Prop:=∀ a o,H a=some o->ObjOk P w H h a o
end
section
variable {P:Program} {w:World} {H H':Hp} {h h':Heap} {a:Addr} {o:HO}
theorem ObjOk.lt (x:ObjOk P w H h a o):a < h.objs.size:=by
 cases o with
 | lst xs=>obtain⟨_,_,_,_,e⟩:=x;exact Heap.lt_size e
 | tup xs=>obtain⟨_,_,_,p⟩:=x;exact p.lt
 | dK kvs=>obtain⟨_,_,_,_,o,_,_,e,_⟩:=x;exact Heap.lt_size e
 | dT kvs=>obtain⟨_,_,_,_,o,_,_,e,_⟩:=x;exact Heap.lt_size e
 | set S n=>obtain⟨o,_,_,_,e,_⟩:=x;exact Heap.lt_size e
 | ins C dx fs=>obtain⟨_,_,_,e,_⟩:=x;exact Heap.lt_size e
 | own y=>obtain⟨_,e⟩:=x;exact Heap.lt_size e
 | xd fs=>obtain⟨_,⟨_,_,_,e,_⟩,_⟩:=x;exact Heap.lt_size e
 | rng lo hi=>obtain⟨_,_,_,e⟩:=x;exact Heap.lt_size e
 | frz ob u=>obtain⟨e,_⟩:=x;exact Heap.lt_size e
 | tbl ps=>exact Heap.lt_size (show h.get? a=some _ from x)
 | met f y=>exact Heap.lt_size (show h.get? a=some _ from x)
 | ext φ=>obtain⟨_,⟨_,e⟩,_⟩:=x;exact Heap.lt_size e
theorem Paired.mapP {α β:Type} {F G:α->β->Prop}:∀ {l₁:List α} {l₂:List β},Paired F l₁ l₂->(∀ a b,F a b->G a b)->Paired G l₁ l₂
 | _,_,.nil,_=>.nil
 | _,_,.cons r t,f=>.cons (f _ _ r) (Paired.mapP t f)
theorem ObjOk.stay (x:ObjOk P w H h a o) (k:∀ b u,(b=a\/H b=some (.own a))->h.get? b=some u->h'.get? b=some u)
  (ho:∀ b,H b=some (.own a)->H' b=some (.own a)) (ht:∀ b xs,H b=some (.tup xs)->H' b=some (.tup xs)):ObjOk P w H' h' a o:=by
 induction o with
 | lst xs=>obtain⟨z,its,n,r,e⟩:=x;exact⟨z,its,n,r,k _ _ (.inl rfl) e⟩
 | tup xs=>obtain⟨z,its,r,ob,e,c⟩:=x;exact⟨z,its,r,ob,k _ _ (.inl rfl) e,c⟩
 | dK kvs=>obtain⟨z,y,vs,r,ob,es,ep,e,c⟩:=x;exact⟨z,y,vs,r,ob,es,ep,k _ _ (.inl rfl) e,c⟩
 | dT kvs =>
  obtain⟨z,y,xs,r,ob,es,ep,e,c⟩:=x
  exact⟨z,y,xs,Paired.mapP r fun p q z=>⟨z.1,ht _ _ z.2.1,z.2.2⟩,ob,es,ep,k _ _ (.inl rfl) e,c⟩
 | set S n=>obtain⟨ob,es,ep,t,e,c⟩:=x;exact⟨ob,es,ep,t,k _ _ (.inl rfl) e,c⟩
 | ins C dx fs =>
  obtain⟨d,z,ne,e,mA,⟨od,es,ep,e2,c⟩,r⟩:=x
  exact⟨ho _ d,z,ne,k _ _ (.inl rfl) e,mA,⟨od,es,ep,k _ _ (.inr d) e2,c⟩,r⟩
 | own y=>obtain⟨ob,e⟩:=x;exact⟨ob,k _ _ (.inl rfl) e⟩
 | xd fs=>obtain⟨mA,⟨od,es,ep,e,c⟩,r⟩:=x;exact⟨mA,⟨od,es,ep,k _ _ (.inl rfl) e,c⟩,r⟩
 | rng lo hi=>obtain⟨t,u,v,e⟩:=x;exact⟨t,u,v,k _ _ (.inl rfl) e⟩
 | frz ob u ih=>obtain⟨e,q⟩:=x;exact⟨k _ _ (.inl rfl) e,ih q⟩
 | tbl ps =>
  have e:h.get? a=some { cls:=.none,data:=.fields ps }:=x
  show h'.get? a=some { cls:=.none,data:=.fields ps }
  exact k a _ (.inl rfl) e
 | met f y =>
  have e:h.get? a=some (PySem.W.methodObj (.ref f) (.ref y)):=x
  show h'.get? a=some (PySem.W.methodObj (.ref f) (.ref y))
  exact k a _ (.inl rfl) e
 | ext φ=>obtain⟨p,⟨o,e⟩,st⟩:=x;exact⟨st _ _ p fun o q=>k _ _ (.inl rfl) q,⟨o,k _ _ (.inl rfl) e⟩,st⟩
theorem HOk.lt (x:HOk P w H h) (e:H a=some o):a < h.objs.size:=(x a o e).lt
theorem HOk.fresh (x:HOk P w H h) (e:h.objs.size<=a):H a=none:=by
 cases q:H a with
 | none=>rfl
 | some u=>exact absurd (Nat.lt_of_lt_of_le (x.lt q) e) (Nat.lt_irrefl _)
theorem HOk.kept (x:HOk P w H h) (k:∀ b u,h.get? b=some u->h'.get? b=some u):HOk P w H h':=fun a o e =>
 (x a o e).stay (fun b u _ q=>k b u q) (fun _ q=>q) fun _ _ q=>q
theorem HOk.laid (x:HOk P w H h) (k:∀ b u,h.get? b=some u->h'.get? b=some u) (hp:h.objs.size<=a) (new:ObjOk P w (upd H a o) h' a o):HOk P w (upd H a o) h':=fun b u e=>by
 have hn:=x.fresh hp
 by_cases hb:b=a
 ·subst hb;rw[QF] at e;cases e;exact new
 ·rw[QG hb] at e
  exact (x b u e).stay (fun c v _ q=>k c v q) (fun c q=>by rw[QG (QI q hn)];exact q) fun c xs q=>by rw[QG (QI q hn)];exact q
end
def Rd (H:Hp) (a:Addr) (u:HO):Prop:=H a=some u\/∃ o,H a=some (.frz o u)
theorem Rd.ok {P:Program} {w:World} {H:Hp} {h:Heap} {a:Addr} {u:HO} (r:Rd H a u) (x:HOk P w H h):ObjOk P w H h a u:=by
 rcases r with r | ⟨o,r⟩
 ·exact x a u r
 ·obtain⟨_,q⟩:=x a _ r
  exact q
def Mut:Option HO->Prop
 | some (.lst _)=>True
 | some (.dK _)=>True
 | some (.dT _)=>True
 | some (.set _ _)=>True
 | some (.ins _ _ _)=>True
 | some (.ext _)=>True
 | _=>False
section
variable {P:Program} {w:World} {H:Hp} {h h':Heap} {x e:Addr} {o':HO}
theorem HOk.write (ok:HOk P w H h) (mu:Mut (H x)) (he:e=x\/H e=some (.own x)) (k:∀ b u,b ≠ e->h.get? b=some u->h'.get? b=some u) (heo:∃ u,h'.get? e=some u)
  (new:ObjOk P w (upd H x o') h' x o'):HOk P w (upd H x o') h':=fun b u q=>by
 have nown:∀ c y,H c=some (.own y)->c ≠ x:=fun c y r z=>by subst z;rw[r] at mu;exact mu
 have ntup:∀ c xs,H c=some (.tup xs)->c ≠ x:=fun c xs r z=>by subst z;rw[r] at mu;exact mu
 by_cases hb:b=x
 ·subst hb;rw[QF] at q;cases q;exact new
 ·rw[QG hb] at q
  by_cases hbe:b=e
  ·have q':H b=some (.own x):=by
    rcases he with z | z
    ·exact absurd (hbe.trans z) hb
    ·rw[hbe];exact z
   rw[q] at q';cases q'
   obtain⟨v,hv⟩:=heo
   exact⟨v,by rw[hbe];exact hv⟩
  ·refine (ok b u q).stay (fun c v hc r=>k c v ?_ r) (fun c r=>by rw[QG (nown c b r)];exact r) fun c xs r=>by rw[QG (ntup c xs r)];exact r
   rcases hc with rfl | hc
   ·exact hbe
   ·rintro rfl
    rcases he with z | z
    ·exact nown c b hc z
    ·rw[hc] at z;cases z;exact hb rfl
end
structure Un (fs ex:List Addr) (H H':Hp) (h h':Heap):Prop where
 keep:∀ b o,h.get? b=some o->H b=none->b ∉ fs->b ∉ ex->h'.get? b=some o
 slot:∀ b o,h.get? b=some o->H b=none->b∈fs->b ∉ ex->∃ sl,h'.get? b=some { o with slots:=sl }
 free:∀ b o,h.get? b=some o->H b=none->b ∉ ex->H' b=none
 there:∀ b o,h.get? b=some o->b ∉ ex->∃ o',h'.get? b=some o'
 tups:∀ b xs,H b=some (.tup xs)->H' b=some (.tup xs)
 frzs:∀ b o u,H b=some (.frz o u)->H' b=some (.frz o u)
 tbls:∀ b ps,H b=some (.tbl ps)->∃ more,H' b=some (.tbl (ps++more))
section
variable {fs fs' ex ex':List Addr} {H H1 H2:Hp} {h h1 h2 h':Heap} {a x e:Addr} {o:HO}
theorem Un.any (u:Un fs ex H H1 h h1) {b:Addr} {ob:Obj} (q:h.get? b=some ob) (n:H b=none) (hx:b ∉ ex):∃ sl,h1.get? b=some { ob with slots:=sl }:=by
 by_cases hb:b∈fs
 ·exact u.slot b ob q n hb hx
 ·exact⟨ob.slots,u.keep b ob q n hb hx⟩
theorem Un.kept (k:∀ b u,h.get? b=some u->h'.get? b=some u):Un fs ex H H h h' :=
 ⟨fun b ob q _ _ _=>k b ob q,fun b ob q _ _ _=>⟨ob.slots,k b ob q⟩,fun _ _ _ n _=>n,fun b ob q _=>⟨ob,k b ob q⟩,fun _ _ q=>q,fun _ _ _ q=>q,fun _ ps q=>⟨#[],by rw[q];simp⟩⟩
theorem Un.refl:Un fs ex H H h h:=Un.kept fun _ _ q=>q
theorem Un.laid (k:∀ b u,h.get? b=some u->h'.get? b=some u) (hp:h.objs.size<=a) (hn:H a=none):Un fs ex H (upd H a o) h h' where
 keep:=fun b u q _ _ _=>k b u q
 slot:=fun b u q _ _ _=>⟨u.slots,k b u q⟩
 free:=fun b u q n _=>by rw[QG (Nat.ne_of_lt (Nat.lt_of_lt_of_le (Heap.lt_size q) hp))];exact n
 there:=fun b u q _=>⟨u,k b u q⟩
 tups:=fun b xs q=>by rw[QG (QI q hn)];exact q
 frzs:=fun b u xs q=>by rw[QG (QI q hn)];exact q
 tbls:=fun b ps q=>⟨#[],by rw[QG (QI q hn),q];simp⟩
theorem Un.write (mu:Mut (H x)) (he:e=x\/H e=some (.own x)) (k:∀ b u,b ≠ e->h.get? b=some u->h'.get? b=some u) (heo:∃ u,h'.get? e=some u):Un fs ex H (upd H x o) h h':=by
 have hx:∀ b,H b=none->b ≠ x:=fun b n z=>by subst z;rw[n] at mu;exact mu
 have hb:∀ b,H b=none->b ≠ e:=fun b n z=>by
  subst z
  rcases he with r | r
  ·exact hx b n r
  ·rw[n] at r;cases r
 have hm:∀ b u,H b=some u->¬ Mut (some u)->b ≠ x:=fun b u q nm z=>by subst z;rw[q] at mu;exact nm mu
 refine⟨fun b u q n _ _=>k b u (hb b n) q,fun b u q n _ _=>⟨u.slots,k b u (hb b n) q⟩,fun b u q n _=>by rw[QG (hx b n)];exact n,fun b u q _=>?_,
  fun b xs q=>by rw[QG (hm b _ q fun z=>z)];exact q,fun b u xs q=>by rw[QG (hm b _ q fun z=>z)];exact q,fun b ps q=>⟨#[],by rw[QG (hm b _ q fun z=>z),q];simp⟩⟩
 by_cases hbe:b=e
 ·subst hbe;exact heo
 ·exact⟨u,k b u hbe q⟩
end
def trk (h:Heap) (H:Hp):List Addr:=(List.range h.objs.size).filter fun a=>(H a).isSome
def zC6 (h:Heap) (H:Hp):Heap:=W.hideAll h (trk h H)
theorem zG4 (h:Heap) (H:Hp):(zC6 h H).objs.size=h.objs.size:=PySem.W.hideAll_size _ _
theorem zIF {h:Heap} {H:Hp} {b:Addr} {o:Obj} (e:h.get? b=some o) (n:H b=none):(zC6 h H).get? b=some o :=
 PySem.W.hideAll_get _ e fun hm=>by
  have q:(H b).isSome=true:=(List.mem_filter.mp hm).2
  rw[n] at q;simp at q
theorem zJq {h:Heap} {H:Hp} {b:Addr} {o:Obj} (e:(zC6 h H).get? b=some o):h.get? b=some o/\H b=none:=by
 have e':h.get? b=some o:=PySem.W.of_hideAll (trk h H) e
 refine⟨e',?_⟩
 cases q:H b with
 | none=>rfl
 | some x =>
  have hm:b∈trk h H:=List.mem_filter.mpr ⟨List.mem_range.mpr (Heap.lt_size e'),by simp[q]⟩
  have z:(zC6 h H).get? b=none:=PySem.W.hideAll_none (trk h H) hm
  rw[z] at e;cases e
def zKB (g h:Heap) (L:Addr):List (Addr × Obj):=(List.range h.objs.size).filterMap fun a=>if a=L\/(g.get? a).isSome=true then none else (h.get? a).map fun o=>(a,o)
def YS (g h:Heap) (L d:Addr):List (Addr × Obj):=(zKB g h L).filter fun p=>decide (p.1 ≠ d)
end L2
namespace L2
open PySem PySem.Spec PyProof.Rows
structure Mod (K:W.Frag) (mg:Str->Option Value) (base:Heap):Prop where
 kin:K.In base
 glob:base.Ns mainGlobals mg
 blt:∃ mb,base.Ns builtinsNs mb/\∀ x:Str,x ≠ "__name__" -> mb x=bootBuiltins x
 nolimit:base.NoLimit
structure Cx where
 prog:Program
 w:World
 K:W.Frag
 mg:Str->Option Value
 base:Heap
 A:Around
 N:List Str
 s₀:Shared
 H₀:Hp
 env:Env
 outer:List Env
 stack:List Env
 ex:List Addr
 fn:Str->Bool
 calm:Bool
 pn:List (Addr × Obj)
 xe:Value->Shared->Prop
def frs (l:List Env):List Addr:=l.filterMap (·.frame)
abbrev Cx.fs (X:Cx):List Addr:=frs X.outer
def Vis (sc:Scope) (x:Str):Prop:=sc.names.lookup x=some .local\/sc.names.lookup x=some .cell\/sc.names.lookup x=some .free
def Loc (sc:Scope) (x:Str):Prop:=sc.names.lookup x=some .local\/sc.names.lookup x=some .cell
def zM9 (env:Env) (h:Heap) (m:Str->Option Value) (x:Str) (u:Value):Prop :=
 (env.kindOf x=some .local/\m x=some u)\/((env.kindOf x=some .cell\/env.kindOf x=some .free)/\∃ c,env.cells.lookup x=some c/\h.IsCell c (some u))
structure Cx.Ok (X:Cx):Prop where
 mod:Mod X.K X.mg X.base
 kind:X.env.scope.kind=.function
 glob:X.env.globals=mainGlobals
 blt:X.env.builtins=builtinsNs
 above:X.s₀.heap.objs.size<=X.env.locals
 inj:∀ x y c,X.env.cells.lookup x=some c->X.env.cells.lookup y=some c->x=y
 has:∀ x,(X.env.kindOf x=some .cell\/X.env.kindOf x=some .free)->∃ c,X.env.cells.lookup x=some c
 cab:∀ x c,X.fn x=true->X.env.cells.lookup x=some c->X.s₀.heap.objs.size<=c
 hd:X.calm=true->X.A.handled=none
 frames:X.A.frames=some X.stack
 stk:X.stack=X.outer\/(X.stack=X.env::X.outer/\X.env.frame=some X.env.locals)
 exf:∀ b∈X.ex,b ≠ X.env.locals/\∀ x c,X.env.cells.lookup x=some c->c ≠ b
 bs:∀ b o,X.base.get? b=some o->X.s₀.heap.get? b=some o/\X.H₀ b=none
 bsz:X.base.objs.size<=X.s₀.heap.objs.size
 noex:∀ b o,X.base.get? b=some o->b ∉ X.ex
 exfs:∀ b∈X.ex,b ∉ X.fs
 funs:X.s₀.heap.FunFrames X.base X.outer
 frf:∀ b∈X.fs,X.H₀ b=none
structure Inv (X:Cx) (pins:List (Addr × Obj)) (σ:List (Option V)) (H:Hp) (s:Shared):Prop where
 ok:X.Ok
 os:s.os=X.s₀.os
 bare:AllBare s.gens
 base:Un X.fs X.ex X.H₀ H X.s₀.heap s.heap
 loc:∃ m,s.heap.Ns X.env.locals m/\∀ (i:Nat) (x:Str) (v:V),X.N[i]? = some x->σ[i]? = some (some v)->Vis X.env.scope x->∃ u,RelV v u/\zM9 X.env s.heap m x u
 cell:∀ x c,X.env.cells.lookup x=some c->∃ v,s.heap.IsCell c v
 free:H X.env.locals=none
 freeC:∀ x c,X.env.cells.lookup x=some c->H c=none
 pin:∀ p∈X.pn++pins,s.heap.get? p.1=some p.2/\H p.1=none/\p.1 ≠ X.env.locals/\p.1 ∉ X.fs/\∀ v,p.2.data ≠ .cell v
 hok:HOk X.prog X.w H s.heap
 len:σ.length=X.N.length
section
variable {X:Cx} {pins:List (Addr × Obj)} {σ:List (Option V)} {H H':Hp} {s:Shared} {h':Heap}
theorem Cx.Ok.nofr (ok:X.Ok) {b:Addr} {o:Obj} (e:X.base.get? b=some o):b ∉ X.fs:=fun hb=>by
 have:=(ok.funs.mem hb).1
 rw[e] at this;cases this
theorem Inv.bs (I:Inv X pins σ H s):∀ b o,X.base.get? b=some o->s.heap.get? b=some o/\H b=none:=fun b o e =>
 ⟨I.base.keep b o (I.ok.bs b o e).1 (I.ok.bs b o e).2 (I.ok.nofr e) (I.ok.noex b o e),I.base.free b o (I.ok.bs b o e).1 (I.ok.bs b o e).2 (I.ok.noex b o e)⟩
theorem Inv.bk (I:Inv X pins σ H s):∀ b o,X.base.get? b=some o->s.heap.get? b=some o:=fun b o e=>(I.bs b o e).1
theorem Inv.mod (I:Inv X pins σ H s):Mod X.K X.mg X.base:=I.ok.mod
theorem Inv.kIn (I:Inv X pins σ H s):X.K.In s.heap:=I.ok.mod.kin.keeps I.bk
theorem Inv.lt (I:Inv X pins σ H s):X.env.locals < s.heap.objs.size:=let ⟨_,hn,_⟩:=I.loc;hn.lt
theorem Inv.sz (I:Inv X pins σ H s):X.s₀.heap.objs.size<=s.heap.objs.size:=Nat.le_trans I.ok.above (Nat.le_of_lt I.lt)
theorem Inv.nofs (I:Inv X pins σ H s) {a:Addr} (h:s.heap.objs.size<=a):a ∉ X.fs:=fun hb=>by
 obtain⟨_,o,ho,_⟩:=I.ok.funs.mem hb
 exact absurd (Nat.lt_of_lt_of_le (Heap.lt_size ho) (Nat.le_trans I.sz h)) (Nat.lt_irrefl _)
theorem Inv.cne (I:Inv X pins σ H s):∀ x c,X.env.cells.lookup x=some c->c ≠ X.env.locals:=fun x c e z=>by
 obtain⟨v,o,ho,hd⟩:=I.cell x c e
 obtain⟨m,⟨o',es,ep,ho',hd',_⟩,_⟩:=I.loc
 rw[z,ho'] at ho;cases ho;rw[hd'] at hd;cases hd
theorem Inv.funs (I:Inv X pins σ H s):s.heap.FunFrames X.base X.outer:=by
 have all:∀ (l:List Env),(∀ b∈frs l,b∈X.fs)->X.s₀.heap.FunFrames X.base l->s.heap.FunFrames X.base l:=by
  intro l
  induction l with
  | nil=>intro _ _;trivial
  | cons env r ih =>
   intro hs hl
   obtain⟨hk,⟨L,o,hf,hn,ho,hd⟩,hr⟩:=hl
   have hL:L∈X.fs:=hs L (by unfold frs;rw[List.filterMap_cons,hf];exact List.mem_cons_self)
   obtain⟨sl,e⟩:=I.base.slot L o ho (I.ok.frf L hL) hL fun z=>I.ok.exfs L z hL
   exact⟨hk,⟨L,_,hf,hn,e,hd⟩,ih (fun b hb=>hs b (by unfold frs;rw[List.filterMap_cons,hf];exact List.mem_cons_of_mem _ hb)) hr⟩
 exact all X.outer (fun _ hb=>hb) I.ok.funs
theorem Inv.stack (I:Inv X pins σ H s):s.heap.FunFrames X.base X.stack:=by
 rcases I.ok.stk with e | ⟨e,hf⟩
 ·rw[e];exact I.funs
 ·rw[e]
  obtain⟨m,hn,_⟩:=I.loc
  refine .cons (by rw[I.ok.kind];decide) hf hn ?_ I.funs
  exact Heap.get?_none_of_le (Nat.le_trans I.ok.bsz I.ok.above)
theorem Inv.stkSub (I:Inv X pins σ H s):∀ b∈frs X.stack,b∈X.env.locals::X.fs:=fun b hb=>by
 rcases I.ok.stk with e | ⟨e,hf⟩
 ·rw[e] at hb;exact List.mem_cons_of_mem _ hb
 ·rw[e] at hb
  unfold frs at hb
  rw[List.filterMap_cons,hf] at hb
  exact hb
theorem Inv.stkFree (I:Inv X pins σ H s):∀ b∈frs X.stack,H b=none:=fun b hb=>by
 rcases List.mem_cons.mp (I.stkSub b hb) with e | hb
 ·rw[e];exact I.free
 ·obtain⟨_,o,ho,_⟩:=I.ok.funs.mem hb
  exact I.base.free b o ho (I.ok.frf b hb) fun z=>I.ok.exfs b z hb
theorem Inv.step {g':Array GenState} {t':Nat} {d':Drawn} {ch:List Addr} (I:Inv X pins σ H s)
  (hch:∀ b∈ch,(b∈X.ex\/X.s₀.heap.objs.size<=b)/\b ≠ X.env.locals/\(∀ x c,X.env.cells.lookup x=some c->c ≠ b)/\∀ p∈X.pn++pins,p.1 ≠ b)
  (keep:∀ b o,b ≠ X.env.locals->b ∉ X.fs->b ∉ ch->s.heap.get? b=some o->H b=none->h'.get? b=some o)
  (slot:∀ b o,b ≠ X.env.locals->b∈X.fs->b ∉ ch->s.heap.get? b=some o->H b=none->∃ sl,h'.get? b=some { o with slots:=sl }) (free:∀ b o,b ∉ ch->s.heap.get? b=some o->H b=none->H' b=none)
  (there:∀ b o,b ∉ ch->s.heap.get? b=some o->∃ o',h'.get? b=some o')
  (tups:∀ b xs,H b=some (.tup xs)->H' b=some (.tup xs)) (frzs:∀ b o u,H b=some (.frz o u)->H' b=some (.frz o u)) (tbls:∀ b ps,H b=some (.tbl ps)->∃ more,H' b=some (.tbl (ps++more)))
  (ns:∀ m,s.heap.Ns X.env.locals m->h'.Ns X.env.locals m) (hok:HOk X.prog X.w H' h') (hg:AllBare g') :
  Inv X pins σ H' { s with heap:=h',gens:=g',drawn:=d',toks:=t' }:=by
 have neL:∀ b o,X.s₀.heap.get? b=some o->b ≠ X.env.locals:=fun b o e=>Nat.ne_of_lt (Nat.lt_of_lt_of_le (Heap.lt_size e) I.ok.above)
 have neC:∀ b o,X.s₀.heap.get? b=some o->b ∉ X.ex->b ∉ ch:=fun b o e hx hb=>by
  rcases (hch b hb).1 with z | z
  ·exact hx z
  ·exact absurd (Nat.lt_of_lt_of_le (Heap.lt_size e) z) (Nat.lt_irrefl _)
 have cellK:∀ x c,X.env.cells.lookup x=some c->∀ v,s.heap.IsCell c v->h'.IsCell c v:=fun x c e v ⟨o,ho,hd⟩=>by
  have nch:c ∉ ch:=fun z=>(hch c z).2.2.1 x c e rfl
  by_cases hc:c∈X.fs
  ·obtain⟨sl,q⟩:=slot c o (I.cne x c e) hc nch ho (I.freeC x c e)
   exact⟨_,q,hd⟩
  ·exact⟨o,keep c o (I.cne x c e) hc nch ho (I.freeC x c e),hd⟩
 refine⟨I.ok,I.os,hg,⟨fun b o e n hb hx=>?_,fun b o e n hb hx=>?_,fun b o e n hx=>?_,fun b o e hx=>?_,fun b xs e=>tups b xs (I.base.tups b xs e),fun b o xs e=>frzs b o xs (I.base.frzs b o xs e),fun b ps e=>?_⟩,?_,fun x c e=>?_,?_,fun x c e=>?_,fun p hp=>?_,hok,I.len⟩
 ·exact keep b o (neL b o e) hb (neC b o e hx) (I.base.keep b o e n hb hx) (I.base.free b o e n hx)
 ·obtain⟨sl,e1⟩:=I.base.slot b o e n hb hx
  obtain⟨sl',e2⟩:=slot b _ (neL b o e) hb (neC b o e hx) e1 (I.base.free b o e n hx)
  exact⟨sl',e2⟩
 ·obtain⟨o',e1⟩:=I.base.there b o e hx
  exact free b o' (neC b o e hx) e1 (I.base.free b o e n hx)
 ·obtain⟨o',e1⟩:=I.base.there b o e hx
  exact there b o' (neC b o e hx) e1
 ·obtain⟨m1,e1⟩:=I.base.tbls b ps e
  obtain⟨m2,e2⟩:=tbls b _ e1
  exact⟨m1++m2,by rw[e2,Array.append_assoc]⟩
 ·obtain⟨m,hn,hl⟩:=I.loc
  refine⟨m,ns m hn,fun i x v e1 e2 e3=>?_⟩
  obtain⟨u,r,l⟩:=hl i x v e1 e2 e3
  refine⟨u,r,?_⟩
  rcases l with l | ⟨k,c,e,z⟩
  ·exact .inl l
  ·exact .inr ⟨k,c,e,cellK x c e _ z⟩
 ·obtain⟨v,z⟩:=I.cell x c e
  exact⟨v,cellK x c e v z⟩
 ·obtain⟨m,⟨o,_,_,ho,_⟩,_⟩:=I.loc
  exact free _ o (fun z=>(hch _ z).2.1 rfl) ho I.free
 ·obtain⟨v,o,ho,hd⟩:=I.cell x c e
  exact free c o (fun z=>(hch c z).2.2.1 x c e rfl) ho (I.freeC x c e)
 ·obtain⟨e,n,ne,nf,d⟩:=I.pin p hp
  have nch:p.1 ∉ ch:=fun z=>(hch p.1 z).2.2.2 p hp rfl
  exact⟨keep p.1 p.2 ne nf nch e n,free p.1 p.2 nch e n,ne,nf,d⟩
theorem Inv.un {t':Nat} (I:Inv X pins σ H s) (u:Un X.fs [] H H' s.heap h') (hok:HOk X.prog X.w H' h'):Inv X pins σ H' { s with heap:=h',toks:=t' }:=by
 obtain⟨m,⟨o,es,ep,ho,r⟩,_⟩:=id I.loc
 obtain⟨sl,hL⟩:=u.any ho I.free (by simp)
 exact I.step (g':=s.gens) (d':=s.drawn) (ch:=[]) (fun _ z=>nomatch z) (fun b o _ hb _ e n=>u.keep b o e n hb (by simp)) (fun b o _ hb _ e n=>u.slot b o e n hb (by simp)) (fun b o _ e n=>u.free b o e n (by simp)) (fun b o _ e=>u.there b o e (by simp)) u.tups u.frzs u.tbls (fun m' hm=>by
  obtain⟨o',es',ep',ho',r'⟩:=hm
  rw[ho] at ho';cases ho'
  exact⟨_,es',ep',hL,r'⟩) hok I.bare
theorem Inv.call {g':Array GenState} {t':Nat} {d':Drawn} {ch:List Addr} (I:Inv X pins σ H s) (u:Un (frs X.stack) ch H H' s.heap h') (hok:HOk X.prog X.w H' h') (hg:AllBare g')
  (hch:∀ b∈ch,(b∈X.ex\/X.s₀.heap.objs.size<=b)/\b ≠ X.env.locals/\(∀ x c,X.env.cells.lookup x=some c->c ≠ b)/\∀ p∈X.pn++pins,p.1 ≠ b) :
  Inv X pins σ H' { s with heap:=h',gens:=g',drawn:=d',toks:=t' }:=by
 obtain⟨m,⟨o,es,ep,ho,r⟩,_⟩:=id I.loc
 obtain⟨sl,hL⟩:=u.any ho I.free fun z=>(hch _ z).2.1 rfl
 exact I.step (ch:=ch) hch (fun b o hL hb hc e n=>u.keep b o e n (fun z=>(List.mem_cons.mp (I.stkSub b z)).elim hL hb) hc) (fun b o _ _ hc e n=>u.any e n hc) (fun b o hc e n=>u.free b o e n hc) (fun b o hc e=>u.there b o e hc) u.tups u.frzs u.tbls (fun m' hm=>by
  obtain⟨o',es',ep',ho',r'⟩:=hm
  rw[ho] at ho';cases ho'
  exact⟨_,es',ep',hL,r'⟩) hok hg
theorem Inv.turned {t':Nat} {it:Addr} (I:Inv X pins σ H s) (k:∀ b o,b ≠ it->s.heap.get? b=some o->h'.get? b=some o) (hn:H it=none) (hL:it ≠ X.env.locals)
  (h1:it∈X.ex\/X.s₀.heap.objs.size<=it) (h2:∀ x c,X.env.cells.lookup x=some c->c ≠ it) (h3:∀ p∈X.pn++pins,p.1 ≠ it):Inv X pins σ H { s with heap:=h',toks:=t' }:=by
 have nit:∀ b u,H b=some u->b ≠ it:=fun b u e z=>by rw[z,hn] at e;cases e
 refine I.step (g':=s.gens) (d':=s.drawn) (ch:=[it]) (fun b hb=>?_) (fun b o _ _ hc e _=>k b o (fun z=>hc (by simp[z])) e) (fun b o _ _ hc e _=>⟨o.slots,k b o (fun z=>hc (by simp[z])) e⟩) (fun _ _ _ _ n=>n)
  (fun b o hc e=>⟨o,k b o (fun z=>hc (by simp[z])) e⟩) (fun _ _ e=>e) (fun _ _ _ e=>e) (fun b ps e=>⟨#[],by rw[e];simp⟩) (fun m hm=>?_) (fun b u e=>?_) I.bare
 ·have e:b=it:=by simpa using hb
  subst e
  exact⟨h1,hL,h2,h3⟩
 ·obtain⟨o,es,ep,ho,r⟩:=hm
  exact⟨o,es,ep,k _ o (Ne.symm hL) ho,r⟩
 ·refine (I.hok b u e).stay (fun c v hc q=>k c v ?_ q) (fun _ q=>q) fun _ _ q=>q
  rcases hc with z | z
  ·rw[z];exact nit b u e
  ·exact nit c _ z
theorem Inv.tok (I:Inv X pins σ H s) (t:Nat):Inv X pins σ H { s with toks:=t }:=I.un (h':=s.heap) (t':=t) Un.refl I.hok
theorem Inv.kept {t':Nat} (I:Inv X pins σ H s) (k:∀ b u,s.heap.get? b=some u->h'.get? b=some u):Inv X pins σ H { s with heap:=h',toks:=t' }:=I.un (Un.kept k) (I.hok.kept k)
theorem Inv.laid {a:Addr} {o:HO} {t':Nat} (I:Inv X pins σ H s) (k:∀ b u,s.heap.get? b=some u->h'.get? b=some u) (hp:s.heap.objs.size<=a) (new:ObjOk X.prog X.w (upd H a o) h' a o) :
  Inv X pins σ (upd H a o) { s with heap:=h',toks:=t' }:=I.un (Un.laid k hp (I.hok.fresh hp)) (I.hok.laid k hp new)
theorem Inv.write {x e:Addr} {o:HO} {t':Nat} (I:Inv X pins σ H s) (mu:Mut (H x)) (he:e=x\/H e=some (.own x)) (k:∀ b u,b ≠ e->s.heap.get? b=some u->h'.get? b=some u) (heo:∃ u,h'.get? e=some u)
  (new:ObjOk X.prog X.w (upd H x o) h' x o):Inv X pins σ (upd H x o) { s with heap:=h',toks:=t' }:=I.un (Un.write mu he k heo) (I.hok.write mu he k heo new)
theorem Inv.pins_of {pins':List (Addr × Obj)} (I:Inv X pins σ H s) (h:∀ p∈pins',s.heap.get? p.1=some p.2/\H p.1=none/\p.1 ≠ X.env.locals/\p.1 ∉ X.fs/\∀ v,p.2.data ≠ .cell v):Inv X pins' σ H s :=
 ⟨I.ok,I.os,I.bare,I.base,I.loc,I.cell,I.free,I.freeC,fun p hp=>(List.mem_append.mp hp).elim (fun z=>I.pin p (List.mem_append_left _ z)) (h p),I.hok,I.len⟩
theorem zBL {N:List Str} (hN:N.Nodup) {i j:Nat} {x:Str} (a:N[i]? = some x) (b:N[j]? = some x):i=j:=by
 obtain⟨h1,e1⟩:=List.getElem?_eq_some_iff.mp a
 obtain⟨h2,e2⟩:=List.getElem?_eq_some_iff.mp b
 exact (List.getElem_inj hN).mp (e1.trans e2.symm)
theorem J2 {M:Model} {A:Around} {E:Value->Shared->Prop} {i:Nat} {x:Str} {v:V} {u:Value} {Q:Unit->Shared->Prop} (I:Inv X pins σ H s) (hN:X.N.Nodup) (hi:X.N[i]? = some x) (hx:Loc X.env.scope x) (r:RelV v u)
  (h:∀ s',Inv X pins (σ.set i (some v)) H s'->(∃ a,Heap.SameBut a s.heap s'.heap/\(a=X.env.locals\/X.env.cells.lookup x=some a))->Q () s') (hf:X.fn x=true\/X.env.scope.names.lookup x=some .local:=by first | exact .inl rfl | exact .inr rfl | assumption):wpAny M A (storeName X.env x u) Q E s:=by
 obtain⟨m,hn,hl⟩:=id I.loc
 have hcls:(X.env.scope.kind == .class || (X.env.scope.kind == .module && X.env.locals != X.env.globals))=false:=by rw[I.ok.kind];rfl
 have hiσ:i < σ.length:=by rw[I.len];exact (List.getElem?_eq_some_iff.mp hi).1
 have cne:=I.cne
 have tracked:∀ {a:Addr} {h':Heap},(∃ o,s.heap.get? a=some o/\H a=none)->Heap.SameBut a s.heap h'->HOk X.prog X.w H h':=fun {a h'} ha hs b ob e=>by
  obtain⟨_,_,hfree⟩:=ha
  refine (I.hok b ob e).stay (fun c w' hc q=>(hs.2 c ?_).trans q) (fun _ q=>q) fun _ _ q=>q
  rintro rfl
  rcases hc with rfl | hc
  ·rw[hfree] at e;cases e
  ·rw[hfree] at hc;cases hc
 rcases hx with hk | hk
 ·refine wpAny_storeName_local hk hn (fun h' hn' hs=>?_) hcls
  obtain⟨oL,_,_,hoL,_⟩:=id hn
  refine h _ ⟨I.ok,I.os,I.bare,⟨fun b o e n hb hx=>?_,fun b o e n hb hx=>?_,I.base.free,fun b o e hx=>?_,I.base.tups,I.base.frzs,I.base.tbls⟩,⟨_,hn',fun j y v' e1 e2 e3=>?_⟩,fun y c e=>?_,I.free,I.freeC,fun p hp=>?_,tracked ⟨oL,hoL,I.free⟩ hs,by simpa using I.len⟩ ⟨_,hs,.inl rfl⟩
  ·exact (hs.2 b (Nat.ne_of_lt (Nat.lt_of_lt_of_le (Heap.lt_size e) I.ok.above))).trans (I.base.keep b o e n hb hx)
  ·obtain⟨sl,e1⟩:=I.base.slot b o e n hb hx
   exact⟨sl,(hs.2 b (Nat.ne_of_lt (Nat.lt_of_lt_of_le (Heap.lt_size e) I.ok.above))).trans e1⟩
  ·obtain⟨o',e1⟩:=I.base.there b o e hx
   exact⟨o',(hs.2 b (Nat.ne_of_lt (Nat.lt_of_lt_of_le (Heap.lt_size e) I.ok.above))).trans e1⟩
  ·by_cases hj:j=i
   ·subst hj
    rw[hi] at e1;cases e1
    rw[List.getElem?_set_self hiσ] at e2
    cases e2
    exact⟨u,r,.inl ⟨hk,by simp⟩⟩
   ·rw[List.getElem?_set_ne (Ne.symm hj)] at e2
    obtain⟨u',r',q⟩:=hl j y v' e1 e2 e3
    refine⟨u',r',?_⟩
    rcases q with ⟨k,e⟩ | ⟨k,c,e,z⟩
    ·refine .inl ⟨k,?_⟩
     have:y ≠ x:=fun e=>hj (zBL hN e1 (e ▸ hi))
     simp[this,e]
    ·exact .inr ⟨k,c,e,z.sameBut hs (cne y c e)⟩
  ·obtain⟨w',z⟩:=I.cell y c e
   exact⟨w',z.sameBut hs (cne y c e)⟩
  ·obtain⟨e,n,ne,nf,d⟩:=I.pin p hp
   exact⟨(hs.2 p.1 ne).trans e,n,ne,nf,d⟩
 ·have hfn:X.fn x=true:=by
   rcases hf with z | z
   ·exact z
   ·rw[z] at hk;cases hk
  obtain⟨c,hc⟩:=I.ok.has x (.inl hk)
  obtain⟨w',z⟩:=I.cell x c hc
  refine wpAny_storeName_cell I.ok.kind hk hc z (fun h' hc' hs=>?_)
  obtain⟨oc,hoc,hocd⟩:=id z
  refine h { s with heap:=h' } ⟨I.ok,I.os,I.bare,⟨fun b o e n hb hx=>?_,fun b o e n hb hx=>?_,I.base.free,fun b o e hx=>?_,I.base.tups,I.base.frzs,I.base.tbls⟩,⟨m,hn.sameBut hs (Ne.symm (cne x c hc)),fun j y v' e1 e2 e3=>?_⟩,fun y c' e=>?_,I.free,I.freeC,fun p hp=>?_,tracked ⟨oc,hoc,I.freeC x c hc⟩ hs,by simpa using I.len⟩ ⟨c,hs,.inr hc⟩
  ·exact (hs.2 b (Nat.ne_of_lt (Nat.lt_of_lt_of_le (Heap.lt_size e) (I.ok.cab x c hfn hc)))).trans (I.base.keep b o e n hb hx)
  ·obtain⟨sl,e1⟩:=I.base.slot b o e n hb hx
   exact⟨sl,(hs.2 b (Nat.ne_of_lt (Nat.lt_of_lt_of_le (Heap.lt_size e) (I.ok.cab x c hfn hc)))).trans e1⟩
  ·obtain⟨o',e1⟩:=I.base.there b o e hx
   exact⟨o',(hs.2 b (Nat.ne_of_lt (Nat.lt_of_lt_of_le (Heap.lt_size e) (I.ok.cab x c hfn hc)))).trans e1⟩
  ·by_cases hj:j=i
   ·subst hj
    rw[hi] at e1;cases e1
    rw[List.getElem?_set_self hiσ] at e2
    cases e2
    exact⟨u,r,.inr ⟨.inl hk,c,hc,hc'⟩⟩
   ·rw[List.getElem?_set_ne (Ne.symm hj)] at e2
    obtain⟨u',r',q⟩:=hl j y v' e1 e2 e3
    refine⟨u',r',?_⟩
    rcases q with q | ⟨k,c',e,z'⟩
    ·exact .inl q
    ·refine .inr ⟨k,c',e,z'.sameBut hs ?_⟩
     rintro rfl
     exact hj (zBL hN e1 (I.ok.inj _ _ _ e hc ▸ hi))
  ·by_cases hcc:c'=c
   ·subst hcc;exact⟨_,hc'⟩
   ·obtain⟨w2,z2⟩:=I.cell y c' e
    exact⟨w2,z2.sameBut hs hcc⟩
  ·obtain⟨e,n,ne,nf,d⟩:=I.pin p hp
   refine⟨(hs.2 p.1 ?_).trans e,n,ne,nf,d⟩
   intro q
   rw[q,hoc] at e
   have q':oc=p.2:=Option.some.inj e
   exact d w' (by rw[← q'];exact hocd)
theorem JY {M:Model} {A:Around} {E:Value->Shared->Prop} {i:Nat} {x:Str} {v:V} {u:Value} {Q:Unit->Shared->Prop} (I:Inv X pins σ H s) (hN:X.N.Nodup) (hi:X.N[i]? = some x) (hx:Loc X.env.scope x) (r:RelV v u)
  (h:∀ s',Inv X pins (σ.set i (some v)) H s'->Q () s') (hf:X.fn x=true\/X.env.scope.names.lookup x=some .local:=by first | exact .inl rfl | exact .inr rfl | assumption):wpAny M A (storeName X.env x u) Q E s :=
 J2 I hN hi hx r (fun s' I' _=>h s' I') hf
theorem Inv.call' {s':Shared} {ch:List Addr} (I:Inv X pins σ H s) (ho:s'.os=s.os) (u:Un (frs X.stack) ch H H' s.heap s'.heap) (hok:HOk X.prog X.w H' s'.heap) (hg:AllBare s'.gens)
  (hch:∀ b∈ch,(b∈X.ex\/X.s₀.heap.objs.size<=b)/\b ≠ X.env.locals/\(∀ x c,X.env.cells.lookup x=some c->c ≠ b)/\∀ p∈X.pn++pins,p.1 ≠ b):Inv X pins σ H' s':=by
 obtain⟨h',g',d',t',o'⟩:=s'
 have e:o'=s.os:=ho
 subst e
 exact I.call (g':=g') (t':=t') (d':=d') u hok hg hch
end
abbrev XK:=Value->Option Addr->Hp->Prop
abbrev St:=List (Option V)
abbrev VK:=V->Hp->Prop
abbrev TE:=St->Hp->VK->Prop
abbrev TT:=St->Hp->(Bool->Hp->Prop)->Prop
abbrev TA:=St->Hp->(List V->Hp->Prop)->Prop
structure Ends where
 nx:St->Hp->Prop
 rt:VK
 bk:St->Hp->Prop:=fun _ _=>False
 ct:St->Hp->Prop:=fun _ _=>False
abbrev TS:=Ends->St->Hp->Prop
def EP (X:Cx) (pins:List (Addr × Obj)) (σ:St) (Q:VK) (u:Value) (s':Shared):Prop:=∃ v H',Inv X pins σ H' s'/\RelV v u/\Q v H'
def TP (X:Cx) (pins:List (Addr × Obj)) (σ:St) (Q:Bool->Hp->Prop) (b:Bool) (s':Shared):Prop:=∃ H',Inv X pins σ H' s'/\Q b H'
def AP (X:Cx) (pins:List (Addr × Obj)) (σ:St) (Q:List V->Hp->Prop) (us:List Value) (s':Shared):Prop:=∃ vs H',Inv X pins σ H' s'/\Vals vs us/\Q vs H'
def SP (X:Cx) (pins:List (Addr × Obj)) (D:Ends) (f:Flow) (s':Shared):Prop :=
 match f with
 | .next=>∃ σ' H',Inv X pins σ' H' s'/\D.nx σ' H'
 | .brk=>∃ σ' H',Inv X pins σ' H' s'/\D.bk σ' H'
 | .cont=>∃ σ' H',Inv X pins σ' H' s'/\D.ct σ' H'
 | .ret u=>∃ v σ' H',Inv X pins σ' H' s'/\RelV v u/\D.rt v H'
def PE (X:Cx) (e:Expr) (t:TE):Prop :=
 ∀ (pins:List (Addr × Obj)) (s:Shared) (σ:St) (H:Hp) (Q:VK),Inv X pins σ H s->t σ H Q->wpAny (model X.prog X.w) X.A (eval e X.env) (EP X pins σ Q) X.xe s
def PT (X:Cx) (e:Expr) (t:TT):Prop :=
 ∀ (pins:List (Addr × Obj)) (s:Shared) (σ:St) (H:Hp) (Q:Bool->Hp->Prop),Inv X pins σ H s->t σ H Q->wpAny (model X.prog X.w) X.A (isTrue e X.env (eval e X.env)) (TP X pins σ Q) X.xe s
def PW (X:Cx) (e:Expr) (t:TT):Prop :=
 ∀ (We:Sem Value) (pins:List (Addr × Obj)) (s:Shared) (σ:St) (H:Hp) (Q:Bool->Hp->Prop),Inv X pins σ H s->t σ H Q->wpAny (model X.prog X.w) X.A (isTrue e X.env We) (TP X pins σ Q) X.xe s
theorem PW.pt {X:Cx} {e:Expr} {t:TT} (h:PW X e t):PT X e t:=h _
def PA (X:Cx) (es:List Expr) (t:TA):Prop :=
 ∀ (pos:Pos) (pins:List (Addr × Obj)) (s:Shared) (σ:St) (H:Hp) (Q:List V->Hp->Prop),Inv X pins σ H s->t σ H Q->wpAny (model X.prog X.w) X.A (spliced (backTo pos (starEach es X.env))) (AP X pins σ Q) X.xe s
def PS (X:Cx) (st:Stmt) (t:TS):Prop :=
 ∀ (pins:List (Addr × Obj)) (s:Shared) (σ:St) (H:Hp) (D:Ends),Inv X pins σ H s->t D σ H->wpAny (model X.prog X.w) X.A (exec st X.env) (SP X pins D) X.xe s
def PSs (X:Cx) (st:List Stmt) (t:TS):Prop :=
 ∀ (pins:List (Addr × Obj)) (s:Shared) (σ:St) (H:Hp) (D:Ends),Inv X pins σ H s->t D σ H->wpAny (model X.prog X.w) X.A (execs st X.env) (SP X pins D) X.xe s
theorem thn {α:Type} {t:Sem α} {Q Q':α->Shared->Prop} {M:Model} {A:Around} {E:Value->Shared->Prop} {s:Shared} (h:wpAny M A t Q E s) (hQ:∀ a s,Q a s->Q' a s):wpAny M A t Q' E s:=wpAny_mono h hQ fun _ _ x=>x
end L2
namespace L2
open PySem PySem.Spec PyProof.Rows
section
variable {X:Cx}
def zJI (i:Nat):TE:=fun σ H Q=>∃ v,σ[i]? = some (some v)/\Q v H
def tC (v:V):TE:=fun _ H Q=>Q v H
theorem zLd {i:Nat} {x:Str} {pos:Pos} (hN:X.N[i]? = some x) (hv:Vis X.env.scope x) (hd:(x == ("__debug__" : Str))=false:=by decide) (hcd:(x == ("__classdict__" : Str))=false:=by decide):PE X (.Name x pos) (zJI i):=by
 intro pins s σ H Q I h
 obtain⟨v,e,h⟩:=h
 obtain⟨m,hn,hl⟩:=I.loc
 obtain⟨u,r,l⟩:=hl i x v hN e hv
 have fin:EP X pins σ Q u s:=⟨v,H,I,r,h⟩
 rcases l with ⟨hk,hm⟩ | ⟨hk,c,hc,hcell⟩
 ·exact wpAny_Name (wpAny_loadName_local I.ok.kind hk hn hm fin) hd
 ·rcases hk with hk | hk
  ·exact wpAny_Name (wpAny_loadName_cell I.ok.kind hk hc hcell fin) hd
  ·exact wpAny_Name (wpAny_loadName_free I.ok.kind hk hc hcell fin hcd) hd
theorem QC {i j pos}:PE X (.Constant (.int i) j pos) (tC (.int i)):=fun _ _ _ H _ I h=>wpAny_Constant_int ⟨.int i,H,I.tok _,⟨_,rfl⟩,h⟩
theorem Q0 {b j pos}:PE X (.Constant (.bool b) j pos) (tC (.bl b)):=fun _ _ _ H _ I h=>Constant_bool ⟨.bl b,H,I,rfl,h⟩
theorem Qm {j pos}:PE X (.Constant .none j pos) (tC .non):=fun _ _ _ H _ I h=>Constant_none ⟨.non,H,I,rfl,h⟩
theorem YL {x j pos}:PE X (.Constant (.str x) j pos) (tC (.str x)):=fun _ _ _ H _ I h=>Calls.Constant_str ⟨.str x,H,I.tok _,⟨_,rfl⟩,h⟩
def Gl (X:Cx) (x:Str):Prop:=X.env.kindOf x=some .globalImplicit
theorem Yy {E:Value->Shared->Prop} {pins:List (Addr × Obj)} {s:Shared} {σ:St} {H:Hp} {x:Str} {u:Value} {pos:Pos} {Q:Value->Shared->Prop} (I:Inv X pins σ H s) (hg:Gl X x) (hm:X.mg x=some u) (h:Q u s)
  (hd:(x == ("__debug__" : Str))=false:=by decide):wpAny (model X.prog X.w) X.A (eval (.Name x pos) X.env) Q E s :=
 Calls.Name_function_global I.ok.kind hg (Calls.loadGlobal_global (by rw[I.ok.glob];exact I.mod.glob.keeps I.bk) hm h) hd
theorem Zf {E:Value->Shared->Prop} {pins:List (Addr × Obj)} {s:Shared} {σ:St} {H:Hp} {x:Str} {u:Value} {pos:Pos} {Q:Value->Shared->Prop} (I:Inv X pins σ H s) (hg:Gl X x) (hm:X.mg x=none) (hv:bootBuiltins x=some u) (h:Q u s)
  (hn:x ≠ "__name__" := by decide) (hd:(x == ("__debug__" : Str))=false:=by decide):wpAny (model X.prog X.w) X.A (eval (.Name x pos) X.env) Q E s:=by
 obtain⟨mb,h1,h2⟩:=I.mod.blt
 exact Calls.Name_function_global I.ok.kind hg (Calls.loadGlobal_builtin (by rw[I.ok.glob];exact I.mod.glob.keeps I.bk) hm (by rw[I.ok.blt];exact h1.keeps I.bk) ((h2 x hn).trans hv) h) hd
theorem Qh {x:Str} {v:V} {u:Value} {pos:Pos} (hg:Gl X x) (hm:X.mg x=some u) (r:RelV v u) (hd:(x == ("__debug__" : Str))=false:=by decide):PE X (.Name x pos) (tC v) :=
 fun _ _ _ H _ I h=>Yy I hg hm ⟨v,H,I,r,h⟩ hd
theorem Qb {x:Str} {v:V} {u:Value} {pos:Pos} (hg:Gl X x) (hm:X.mg x=none) (hv:bootBuiltins x=some u) (r:RelV v u) (hn:x ≠ "__name__" := by decide) (hd:(x == ("__debug__" : Str))=false:=by decide):PE X (.Name x pos) (tC v) :=
 fun _ _ _ H _ I h=>Zf I hg hm hv ⟨v,H,I,r,h⟩ hn hd
variable {a b:Expr} {ta tb:TE} {pos:Pos}
def tB (t:TE):TT:=fun σ H Q=>t σ H fun x H1=>∃ c,x=.bl c/\Q c H1
theorem QW {e:Expr} {t:TE} (h:PE X e t) (he:∀ We,isTrue e X.env We=(do let v ← We;standAt e.pos;holding [v] (truthy v)):=by intro _;rfl):PT X e (tB t):=by
 intro pins s σ H Q I hw
 refine isTrue_plain (thn (h pins s σ H _ I hw) fun v s1 ⟨x,H1,I1,r1,q1⟩=>?_) (he _)
 obtain⟨d,rfl,q⟩:=q1
 cases r1
 exact wpAny_truthy_bool ⟨H1,I1,q⟩
variable {tA tB':TT} {YS:List Expr}
def zMb (t u:TT):TT:=fun σ H Q=>t σ H fun c H1=>if c=true then u σ H1 Q else Q false H1
def tOr (t u:TT):TT:=fun σ H Q=>t σ H fun c H1=>if c=true then Q true H1 else u σ H1 Q
def zMh (t:TT):TT:=fun σ H Q=>t σ H fun c H1=>Q (!c) H1
theorem WK (ha:PT X a tA):PW X (.BoolOp .And [a] pos) tA:=by
 intro wh pins s σ H Q I h
 refine isTrue_and (thn (ha pins s σ H Q I h) fun c s1 e=>?_)
 cases c with
 | true=>exact isTrue_and_nil e
 | false=>exact e
theorem Wt (ha:PT X a tA):PW X (.BoolOp .Or [a] pos) tA:=by
 intro wh pins s σ H Q I h
 refine isTrue_or (thn (ha pins s σ H Q I h) fun c s1 e=>?_)
 cases c with
 | false=>exact isTrue_or_nil e
 | true=>exact e
theorem Jp (ha:PT X a tA) (hb:PW X (.BoolOp .And (b::YS) pos) tB'):PW X (.BoolOp .And (a::b::YS) pos) (zMb tA tB'):=by
 intro wh pins s σ H Q I h
 refine isTrue_and (thn (ha pins s σ H _ I h) fun c s1 ⟨H1,I1,q1⟩=>?_)
 cases c with
 | true=>exact hb wh pins s1 σ H1 Q I1 q1
 | false=>exact⟨H1,I1,q1⟩
theorem Ji (ha:PT X a tA) (hb:PW X (.BoolOp .Or (b::YS) pos) tB'):PW X (.BoolOp .Or (a::b::YS) pos) (tOr tA tB'):=by
 intro wh pins s σ H Q I h
 refine isTrue_or (thn (ha pins s σ H _ I h) fun c s1 ⟨H1,I1,q1⟩=>?_)
 cases c with
 | true=>exact⟨H1,I1,q1⟩
 | false=>exact hb wh pins s1 σ H1 Q I1 q1
theorem Ww (ha:PT X a tA):PT X (.UnaryOp .Not a pos) (zMh tA):=by
 intro pins s σ H Q I h
 exact isTrue_not (ha pins s σ H (fun c H1=>Q (!c) H1) I h)
def zKt (ta tb:TE):TE:=fun σ H Q=>ta σ H fun x H1=>∃ c,x=.bl c/\if c=true then tb σ H1 Q else Q (.bl false) H1
def zMu (ta tb:TE):TE:=fun σ H Q=>ta σ H fun x H1=>∃ c,x=.bl c/\if c=true then Q (.bl true) H1 else tb σ H1 Q
def zKr (ta:TE):TE:=fun σ H Q=>ta σ H fun x H1=>∃ c,x=.bl c/\Q (.bl (!c)) H1
theorem Yp {op} {t:TE} (h:PE X a t):PE X (.BoolOp op [a] pos) t:=fun pins s σ H Q I hw=>BoolOp_one (h pins s σ H Q I hw)
theorem Yr (ha:PE X a ta) (hb:PE X (.BoolOp .And (b::YS) pos) tb):PE X (.BoolOp .And (a::b::YS) pos) (zKt ta tb):=by
 intro pins s σ H Q I h
 refine BoolOp_and (thn (ha pins s σ H _ I h) fun v s1 ⟨x,H1,I1,r1,q1⟩=>?_)
 obtain⟨c,rfl,q1⟩:=q1
 cases r1
 refine wpAny_truthy_bool ?_
 cases c with
 | true=>exact hb pins s1 σ H1 Q I1 q1
 | false=>exact⟨.bl false,H1,I1,rfl,q1⟩
theorem zM2 (ha:PE X a ta) (hb:PE X (.BoolOp .Or (b::YS) pos) tb):PE X (.BoolOp .Or (a::b::YS) pos) (zMu ta tb):=by
 intro pins s σ H Q I h
 refine BoolOp_or (thn (ha pins s σ H _ I h) fun v s1 ⟨x,H1,I1,r1,q1⟩=>?_)
 obtain⟨c,rfl,q1⟩:=q1
 cases r1
 refine wpAny_truthy_bool ?_
 cases c with
 | false=>exact hb pins s1 σ H1 Q I1 q1
 | true=>exact⟨.bl true,H1,I1,rfl,q1⟩
theorem zCV (ha:PE X a ta):PE X (.UnaryOp .Not a pos) (zKr ta):=by
 intro pins s σ H Q I h
 refine UnaryOp_ (thn (ha pins s σ H _ I h) fun v s1 ⟨x,H1,I1,r1,q1⟩=>?_)
 obtain⟨c,rfl,q1⟩:=q1
 cases r1
 exact not_of (wpAny_truthy_bool ⟨.bl (!c),H1,I1,rfl,q1⟩)
def tIf (t:TT) (ta tb:TE):TE:=fun σ H Q=>t σ H fun c H1=>if c=true then ta σ H1 Q else tb σ H1 Q
theorem WI {c:Expr} (hc:PT X c tA) (ha:PE X a ta) (hb:PE X b tb):PE X (.IfExp c a b pos) (tIf tA ta tb):=by
 intro pins s σ H Q I h
 refine wpAny_IfExp (thn (hc pins s σ H _ I h) fun d s1 ⟨H1,I1,q1⟩=>?_)
 cases d with
 | true=>exact ha pins s1 σ H1 Q I1 q1
 | false=>exact hb pins s1 σ H1 Q I1 q1
end
end L2
namespace L2
open PySem PySem.Spec PyProof.Rows
def SqL (K:W.Frag) (H:Hp) (a:Addr) (xs:List V):Prop :=
 Rd H a (.lst xs) \/
  ∃ (o:Obj) (its:Array Value) (n:Nat),K.lookup a=some o/\o.cls=.type "list" /\ o.dict=none/\o.data=.seq its n/\its.size<=sizeLine/\Vals xs its.toList
def SqT (K:W.Frag) (H:Hp) (a:Addr) (xs:List V):Prop :=
 Rd H a (.tup xs) \/
  ∃ (o:Obj) (its:Array Value) (n:Nat),K.lookup a=some o/\o.cls=.type "tuple" /\ o.data=.seq its n/\its.size<=sizeLine/\Vals xs its.toList
def zNJ:Value->Option V
 | .none=>some .non
 | .bool b=>some (.bl b)
 | .int i _=>some (.int i)
 | .str x _=>some (.str x)
 | .bytes b _=>some (.byt b)
 | .float b _=>some (.flt b)
 | .ref a=>some (.ref a)
 | .type n=>some (.ty n)
 | _=>none
theorem RelV.abs {x:V} {u:Value} (r:RelV x u):zNJ u=some x:=by
 cases x with
 | non=>cases r;rfl
 | bl _=>cases r;rfl
 | int _=>obtain⟨t,rfl⟩:=r;rfl
 | str _=>obtain⟨t,rfl⟩:=r;rfl
 | byt _=>obtain⟨t,rfl⟩:=r;rfl
 | flt _=>obtain⟨t,rfl⟩:=r;rfl
 | ref _=>cases r;rfl
 | ty _=>cases r;rfl
theorem RelV.inj {x y:V} {u:Value} (r:RelV x u) (q:RelV y u):x=y:=Option.some.inj (r.abs.symm.trans q.abs)
theorem Vals.inj:∀ {xs ys:List V} {us:List Value},Vals xs us->Vals ys us->xs=ys
 | _,_,_,.nil,.nil=>rfl
 | _,_,_,.cons r t,.cons r' t'=>by rw[r.inj r',Vals.inj t t']
section
variable {X:Cx} {pins:List (Addr × Obj)} {σ:St} {H:Hp} {s:Shared} {a:Addr} {xs ys:List V}
theorem SqL.of {K:W.Frag} (h:H a=some (.lst xs)):SqL K H a xs:=.inl (.inl h)
theorem SqT.of {K:W.Frag} (h:H a=some (.tup xs)):SqT K H a xs:=.inl (.inl h)
theorem Inv.list (I:Inv X pins σ H s) (h:SqL X.K H a xs):∃ its:List Value,Vals xs its/\PlainL s.heap a its.toArray/\xs.length<=sizeLine:=by
 rcases h with h | ⟨o,its,n,hk,hc,hd,hs,hz,r⟩
 ·obtain⟨z,its,n,r,e⟩:=h.ok I.hok
  exact⟨its,r,⟨_,n,e,rfl,rfl,rfl⟩,z⟩
 ·refine⟨its.toList,r,⟨o,n,I.kIn a o hk,hc,hd,by simpa using hs⟩,?_⟩
  have e:=r.length
  simp only[Array.length_toList] at e
  omega
theorem Inv.tuple (I:Inv X pins σ H s) (h:SqT X.K H a xs):∃ its:List Value,Vals xs its/\IsTup s.heap a its.toArray/\xs.length<=sizeLine:=by
 rcases h with h | ⟨o,its,n,hk,hc,hs,hz,r⟩
 ·obtain⟨z,its,r,p⟩:=h.ok I.hok
  exact⟨its,r,p,z⟩
 ·refine⟨its.toList,r,⟨o,I.kIn a o hk,hc,n,by simpa using hs⟩,?_⟩
  have e:=r.length
  simp only[Array.length_toList] at e
  omega
theorem Inv.list_inj (I:Inv X pins σ H s) (h:SqL X.K H a xs) (h':SqL X.K H a ys):xs=ys:=by
 obtain⟨its,r,⟨o,n,e,_,_,d⟩,_⟩:=I.list h
 obtain⟨its',r',⟨o',n',e',_,_,d'⟩,_⟩:=I.list h'
 rw[e] at e';cases e'
 rw[d] at d'
 injection d' with d1 _
 have:its=its':=by simpa using congrArg Array.toList d1
 subst this
 exact r.inj r'
theorem Inv.tuple_inj (I:Inv X pins σ H s) (h:SqT X.K H a xs) (h':SqT X.K H a ys):xs=ys:=by
 obtain⟨its,r,⟨o,e,_,n,d⟩,_⟩:=I.tuple h
 obtain⟨its',r',⟨o',e',_,n',d'⟩,_⟩:=I.tuple h'
 rw[e] at e';cases e'
 rw[d] at d'
 injection d' with d1 _
 have:its=its':=by simpa using congrArg Array.toList d1
 subst this
 exact r.inj r'
end
abbrev Cx.wish (X:Cx) (E:Value->Shared->Prop):Cx:={ X with xe:=E }
abbrev Cx.nox (X:Cx):Cx:=X.wish fun _ _=>False
theorem Cx.Ok.wish {X:Cx} (ok:X.Ok) (E:Value->Shared->Prop):(X.wish E).Ok :=
 ⟨ok.mod,ok.kind,ok.glob,ok.blt,ok.above,ok.inj,ok.has,ok.cab,ok.hd,ok.frames,ok.stk,ok.exf,ok.bs,ok.bsz,ok.noex,ok.exfs,ok.funs,ok.frf⟩
theorem Cx.Ok.unwish {X:Cx} {E:Value->Shared->Prop} (ok:(X.wish E).Ok):X.Ok :=
 ⟨ok.mod,ok.kind,ok.glob,ok.blt,ok.above,ok.inj,ok.has,ok.cab,ok.hd,ok.frames,ok.stk,ok.exf,ok.bs,ok.bsz,ok.noex,ok.exfs,ok.funs,ok.frf⟩
section
variable {X:Cx} {pins:List (Addr × Obj)} {σ:St} {H:Hp} {s:Shared} {E:Value->Shared->Prop}
theorem Inv.wish (I:Inv X pins σ H s) (E:Value->Shared->Prop):Inv (X.wish E) pins σ H s:=⟨I.ok.wish E,I.os,I.bare,I.base,I.loc,I.cell,I.free,I.freeC,I.pin,I.hok,I.len⟩
theorem Inv.unwish (I:Inv (X.wish E) pins σ H s):Inv X pins σ H s:=⟨I.ok.unwish,I.os,I.bare,I.base,I.loc,I.cell,I.free,I.freeC,I.pin,I.hok,I.len⟩
theorem SP.unwish {D:Ends} {f:Flow} {s':Shared} (h:SP (X.wish E) pins D f s'):SP X pins D f s':=by
 cases f with
 | next=>obtain⟨σ',H',I,q⟩:=h;exact⟨σ',H',I.unwish,q⟩
 | brk=>obtain⟨σ',H',I,q⟩:=h;exact⟨σ',H',I.unwish,q⟩
 | cont=>obtain⟨σ',H',I,q⟩:=h;exact⟨σ',H',I.unwish,q⟩
 | ret u=>obtain⟨v,σ',H',I,r,q⟩:=h;exact⟨v,σ',H',I.unwish,r,q⟩
theorem PSs.nox {st:List Stmt} {t:TS} (h:PSs X.nox st t):PSs X st t:=fun pins s σ H D I hw =>
 wpAny_mono (h pins s σ H D (I.wish _) hw) (fun _ _ q=>q.unwish) fun _ _ z=>False.elim z
end
section
variable {X:Cx} {st:Stmt} {YS:List Stmt} {t u:TS} {e:Expr} {te:TE} {pos:Pos}
def zKq:TS:=fun D σ H=>D.nx σ H
def zI5 (t u:TS):TS:=fun D σ H=>t { D with nx:=u D } σ H
theorem QN:PSs X [] zKq:=fun _ _ σ H _ I h=>wpAny_execs_nil ⟨σ,H,I,h⟩
theorem QB (h1:PS X st t) (h2:PSs X YS u):PSs X (st::YS) (zI5 t u):=by
 intro pins s σ H D I h
 refine wpAny_execs_cons (thn (h1 pins s σ H { D with nx:=u D } I h) fun f s1 q=>?_)
 cases f with
 | next =>
  obtain⟨σ',H',I',q⟩:=q
  exact h2 pins s1 σ' H' D I' q
 | ret v=>exact q
 | brk=>exact q
 | cont=>exact q
theorem QE (h1:PS X st t):PSs X [st] t:=by
 intro pins s σ H D I h
 refine wpAny_execs_cons (thn (h1 pins s σ H D I h) fun f s1 q=>?_)
 cases f with
 | next=>exact wpAny_execs_nil q
 | ret v=>exact q
 | brk=>exact q
 | cont=>exact q
def zMF:TS:=fun D σ H=>D.bk σ H
theorem zIz:PS X (.Break pos) zMF:=fun _ _ σ H _ I h=>wpAny_Break ⟨σ,H,I,h⟩
theorem Inv.quiet {pins:List (Addr × Obj)} {σ:St} {H:Hp} {s:Shared} (I:Inv X pins σ H s):interactive X.env=false:=by simp[interactive,I.ok.kind]
def zK8 (te:TE):TS:=fun D σ H=>te σ H fun _ H1=>D.nx σ H1
theorem Qe (he:PE X e te) (hs:swapsWith e none pos.line X.env=pure false:=by rfl):PS X (.Expr e pos) (zK8 te):=by
 intro pins s σ H D I h
 exact wpAny_Expr_any (thn (he pins s σ H _ I h) fun v s1 ⟨x,H1,I1,r1,q1⟩=>⟨σ,H1,I1,q1⟩) I.quiet hs
def zLM (te:TE):TS:=fun D σ H=>te σ H D.rt
theorem QK (he:PE X e te):PS X (.Return (some e) pos) (zLM te):=by
 intro pins s σ H D I h
 exact wpAny_Return_some (thn (he pins s σ H _ I h) fun v s1 ⟨x,H1,I1,r1,q1⟩=>⟨x,σ,H1,I1,r1,q1⟩)
def zMs (c:TT) (t u:TS):TS:=fun D σ H=>c σ H fun b H1=>if b=true then t D σ H1 else u D σ H1
theorem QS {c:Expr} {a b:List Stmt} {tc:TT} (hc:PT X c tc) (ha:PSs X a t) (hb:PSs X b u):PS X (.If c a b pos) (zMs tc t u):=by
 intro pins s σ H D I h
 refine wpAny_If (thn (hc pins s σ H _ I h) fun d s1 ⟨H1,I1,q1⟩=>?_)
 cases d with
 | true=>exact ha pins s1 σ H1 D I1 q1
 | false=>exact hb pins s1 σ H1 D I1 q1
def zIU:TS:=fun _ _ _=>False
theorem Y1:PS X st zIU:=fun _ _ _ _ _ _ h=>h.elim
theorem Qi {sts:List Stmt}:PSs X sts zIU:=fun _ _ _ _ _ _ h=>h.elim
end
abbrev TG:=V->St->Hp->(St->Hp->Prop)->Prop
abbrev TGs:=List V->St->Hp->(St->Hp->Prop)->Prop
def PG (X:Cx) (target:Expr) (t:TG):Prop :=
 ∀ (pins:List (Addr × Obj)) (s:Shared) (σ:St) (H:Hp) (v:V) (u:Value) (Q:St->Hp->Prop),Inv X pins σ H s->RelV v u->t v σ H Q ->
  wpAny (model X.prog X.w) X.A (assign target X.env u) (fun _ s'=>∃ σ' H',Inv X pins σ' H' s'/\Q σ' H') X.xe s
def PGs (X:Cx) (ts:List Expr) (t:TGs):Prop :=
 ∀ (pins:List (Addr × Obj)) (s:Shared) (σ:St) (H:Hp) (vs:List V) (us:List Value) (Q:St->Hp->Prop),Inv X pins σ H s->Vals vs us->t vs σ H Q ->
  wpAny (model X.prog X.w) X.A (assignInOrder ((assignEach ts X.env).map (·.2)) us) (fun _ s'=>∃ σ' H',Inv X pins σ' H' s'/\Q σ' H') X.xe s
abbrev zHV:=V->V->V->Hp->(Hp->Prop)->Prop
def zKd (X:Cx) (t:zHV):Prop :=
 ∀ (pins:List (Addr × Obj)) (s:Shared) (σ:St) (H:Hp) (o i v:V) (ov iv u:Value) (Q:Hp->Prop),Inv X pins σ H s->RelV o ov->RelV i iv->RelV v u->t o i v H Q ->
  wpAny (model X.prog X.w) X.A (setItem ov iv u) (fun _ s'=>∃ H',Inv X pins σ H' s'/\Q H') X.xe s
section
variable {X:Cx} {pos:Pos}
def Wb (i:Nat):TG:=fun v σ H Q=>Q (σ.set i (some v)) H
theorem YU {i:Nat} {x:Str} (hN:X.N.Nodup) (hi:X.N[i]? = some x) (hx:Loc X.env.scope x) (hf:X.fn x=true\/X.env.scope.names.lookup x=some .local:=by first | exact .inl rfl | exact .inr rfl | assumption):PG X (.Name x pos) (Wb i):=by
 intro pins s σ H v u Q I r h
 exact wpAny_assign_Name (JY I hN hi hx r (fun s' I'=>⟨_,H,I',h⟩) hf)
def zLv:TGs:=fun vs σ H Q=>vs=[]/\Q σ H
def zFf (t:TG) (u:TGs):TGs:=fun vs σ H Q=>∃ v r,vs=v::r/\t v σ H fun σ' H'=>u r σ' H' Q
theorem zFl:PGs X [] zLv:=by
 intro pins s σ H vs us Q I r h
 obtain⟨e,h⟩:=h
 subst e
 cases r
 exact assignInOrder_nil ⟨σ,H,I,h⟩
theorem JH {e:Expr} {es:List Expr} {t:TG} {u:TGs} (h1:PG X e t) (h2:PGs X es u)
  (hs:(assignEach (e::es) X.env).map (·.2)=assign e X.env::(assignEach es X.env).map (·.2):=by rfl):PGs X (e::es) (zFf t u):=by
 intro pins s σ H vs us Q I r h
 obtain⟨v,vr,e1,h⟩:=h
 subst e1
 cases r with
 | cons r rr =>
  rw[hs]
  refine assignInOrder_cons (thn (h1 pins s σ H _ _ _ I r h) fun _ s1 ⟨σ1,H1,I1,q1⟩=>?_)
  exact h2 pins s1 σ1 H1 _ _ Q I1 rr q1
def zMQ (K:W.Frag) (n:Nat) (t:TGs):TG:=fun v σ H Q=>∃ a xs,v=.ref a/\SqT K H a xs/\xs.length=n/\t xs σ H Q
theorem zHl {es:List Expr} {k:Nat} {t:TGs} {n:Nat} (hc:X.calm=true) (h:PGs X es t)
  (hn:(assignEach es X.env).length=n:=by rfl) (hst:(assignEach es X.env).findIdx? (·.1)=none:=by rfl):PG X (.Tuple es k pos) (zMQ X.K n t):=by
 intro pins s σ H v u Q I r hw
 obtain⟨a,xs,e1,hq,hl,hw⟩:=hw
 subst e1
 cases r
 obtain⟨its,rv,ht,hz⟩:=I.tuple hq
 refine assign_Tuple_tuple (I.ok.hd hc) ht (by simp[hn,← hl,rv.length]) hst fun h' hx=>?_
 have I1:Inv X pins σ H { s with heap:=h' }:=I.kept (t':=s.toks) fun b o e=>hx b o (Nat.ne_of_lt (Heap.lt_size e)) e
 exact h pins _ σ H xs _ Q I1 (by simpa using rv) hw
def zMt (to ti:TE) (t:zHV):TG:=fun v σ H Q=>to σ H fun o H1=>ti σ H1 fun i H2=>t o i v H2 fun H3=>Q σ H3
theorem YH {o i:Expr} {to ti:TE} {t:zHV} (ho:PE X o to) (hi:PE X i ti) (hs:zKd X t)
  (ha:∀ v,assign (.Subscript o i pos) X.env v=(do
   let ov ← holding [v] (eval o X.env)
   let iv ← holding [v,ov] (eval i X.env)
   standAt pos
   holding [v,ov,iv] (setItem ov iv v)
   release [v,ov,iv] []):=by intro _;rfl):PG X (.Subscript o i pos) (zMt to ti t):=by
 intro pins s σ H v u Q I r h
 rw[ha]
 refine wpAny_bind (wpAny_holding (thn (ho pins s σ H _ I h) fun ov s1 ⟨x,H1,I1,r1,q1⟩=>?_))
 refine wpAny_bind (wpAny_holding (thn (hi pins s1 σ H1 _ I1 q1) fun iv s2 ⟨y,H2,I2,r2,q2⟩=>?_))
 refine wpAny_bind (wpAny_standAt (wpAny_bind (wpAny_holding (thn (hs pins s2 σ H2 x y v ov iv u _ I2 r1 r2 r q2) fun _ s3 ⟨H3,I3,q3⟩=>?_))))
 exact wpAny_release ⟨σ,H3,I3,q3⟩
def zEM (te:TE) (g:TG):TS:=fun D σ H=>te σ H fun x H1=>g x σ H1 D.nx
theorem YG {tg e:Expr} {te:TE} {g:TG} (he:PE X e te) (hg:PG X tg g) (hs:swapsWithSole [tg] e pos.line X.env=pure false:=by rfl) (hw:swappedStores [tg] e X.env=pure none:=by rfl)
  (h1:(assignEach [tg] X.env).map (·.2)=[assign tg X.env]:=by rfl):PS X (.Assign [tg] e pos) (zEM te g):=by
 intro pins s σ H D I h
 refine wpAny_Assign_stores (thn (he pins s σ H _ I h) fun v s1 ⟨x,H1,I1,r1,q1⟩=>?_) hs hw
 rw[h1]
 exact thn (hg pins s1 σ H1 x v _ I1 r1 q1) fun _ s2 q=>q
theorem QT {i:Nat} {x:Str} {e:Expr} {te:TE} {pos':Pos} (hN:X.N.Nodup) (hi:X.N[i]? = some x) (hx:Loc X.env.scope x) (he:PE X e te) (hs:swapsWith e (some (.Name x pos')) pos.line X.env=pure false:=by rfl) (hf:X.fn x=true\/X.env.scope.names.lookup x=some .local:=by first | exact .inl rfl | exact .inr rfl | assumption) :
  PS X (.Assign [.Name x pos'] e pos) (zEM te (Wb i)):=by
 intro pins s σ H D I h
 refine wpAny_Assign_Name (thn (he pins s σ H _ I h) fun v s1 ⟨y,H1,I1,r1,q1⟩=>?_) hs
 exact JY I1 hN hi hx r1 (fun s2 I2=>⟨_,H1,I2,q1⟩) hf
end
section
variable {X:Cx} {pos:Pos}
def zIm (c:TT) (tb:TS):TS:=fun D σ H=>∃ W:Nat->St->Hp->Prop,(∃ m,W m σ H)/\∀ m σ H,W m σ H ->
 c σ H fun b H1=>if b=true then ∃ N:St->Hp->Prop,(∀ σ' H',N σ' H'->∃ m',m' < m/\W m' σ' H')/\tb { D with nx:=N,ct:=N,bk:=D.nx } σ H1 else D.nx σ H1
theorem zIL {c:Expr} {body:List Stmt} {tc:TT} {tb:TS} (hp:PassesOwn (model X.prog X.w) X.A X.env X.xe) (hc:PT X c tc) (hb:PSs X body tb):PS X (.While c body [] pos) (zIm tc tb):=by
 intro pins s σ H D I h
 obtain⟨W,⟨m0,w0⟩,turn⟩:=h
 refine wpAny_While (codeAny_whileLoop (fun n s'=>∃ σ' H',Inv X pins σ' H' s'/\W n σ' H') ?_ m0 ⟨σ,H,I,w0⟩)
 rintro n s1 ⟨σ1,H1,I1,w1⟩
 refine wpAny_passesOwn hp (thn (hc pins s1 σ1 H1 _ I1 (turn n σ1 H1 w1)) fun b s2 ⟨H2,I2,q2⟩=>?_)
 cases b with
 | true =>
  obtain⟨N,hN,q2⟩:=q2
  rw[if_pos rfl]
  refine wpAny_passesOwn hp (thn (hb pins s2 σ1 H2 _ I2 q2) fun f s3 q3=>?_)
  cases f with
  | next =>
   obtain⟨σ3,H3,I3,n3⟩:=q3
   obtain⟨m',hm,w3⟩:=hN σ3 H3 n3
   exact⟨m',hm,σ3,H3,I3,w3⟩
  | cont =>
   obtain⟨σ3,H3,I3,n3⟩:=q3
   obtain⟨m',hm,w3⟩:=hN σ3 H3 n3
   exact⟨m',hm,σ3,H3,I3,w3⟩
  | brk=>exact q3
  | ret v=>exact q3
 | false =>
  rw[if_neg Bool.false_ne_true]
  exact wpAny_execs_nil ⟨σ1,H2,I2,q2⟩
end
structure It where
 go:Nat->Hp->Prop
 yld:Nat->Hp->V->Hp->Prop
 stop:Nat->Hp->Prop
def Zv (X:Cx) (pins:List (Addr × Obj)) (H:Hp) (b:Addr):Prop :=
 H b=none/\b ≠ X.env.locals/\b ∉ X.fs/\(b∈X.ex\/X.s₀.heap.objs.size<=b)/\(∀ x c,X.env.cells.lookup x=some c->c ≠ b)/\∀ p∈X.pn++pins,p.1 ≠ b
theorem Inv.fpOk {X:Cx} {pins:List (Addr × Obj)} {σ:St} {H H':Hp} {s:Shared} {b:Addr} (I:Inv X pins σ H s) (hb:s.heap.objs.size<=b) (hn:H' b=none):Zv X pins H' b:=by
 refine⟨hn,Nat.ne_of_gt (Nat.lt_of_lt_of_le I.lt hb),I.nofs hb,.inr (Nat.le_trans I.sz hb),fun x c e z=>?_,fun p hp z=>?_⟩
 ·obtain⟨v,q⟩:=I.cell x c e
  exact absurd (Nat.lt_of_lt_of_le q.lt (by rw[z];exact hb)) (Nat.lt_irrefl _)
 ·exact absurd (Nat.lt_of_lt_of_le (Heap.lt_size (I.pin p hp).1) (by rw[z];exact hb)) (Nat.lt_irrefl _)
structure Turn (P:Program) (w:World) (K:W.Frag) (tg:Expr) (J:It) (fp:List Addr) (it:Addr) (tn:Nat->Heap->Prop):Prop where
 mem:it∈fp
 obj:∀ i h,tn i h->∀ b∈fp,∃ o,h.get? b=some o/\∀ v,o.data ≠ .cell v
 keep:∀ i h h',tn i h->(∀ b∈fp,∀ o,h.get? b=some o->h'.get? b=some o)->tn i h'
 item:∀ (X:Cx),X.prog=P->X.w=w->X.K=K->X.calm=true->∀ (i:Nat) (pins:List (Addr × Obj)) (s:Shared) (σ:St) (H:Hp) (E:Value->Shared->Prop),Inv X pins σ H s->(∀ b∈fp,Zv X pins H b)->tn i s.heap->J.go i H ->
  wpAny (model P w) X.A (pyNext (.ref it)) (fun r s1=>∃ u,r=some u /\
   wpAny (model P w) X.A (letOwnedTupleGo tg (.ref it) u) (fun _ s2=>∃ x H',Inv X pins σ H' s2/\RelV x u/\J.yld i H x H'/\tn (i+1) s2.heap/\∀ b∈fp,H' b=none) E s1) E s
 done:∀ (X:Cx),X.prog=P->X.w=w->X.K=K->X.calm=true->∀ (i:Nat) (pins:List (Addr × Obj)) (s:Shared) (σ:St) (H:Hp) (E:Value->Shared->Prop),Inv X pins σ H s->(∀ b∈fp,Zv X pins H b)->tn i s.heap->J.stop i H ->
  wpAny (model P w) X.A (pyNext (.ref it)) (fun r s1=>r=none/\Inv X pins σ H s1) E s
 self:∀ (A:Around) (i:Nat) (s:Shared) (Q:Value->Shared->Prop) (E:Value->Shared->Prop),tn i s.heap->Q (.ref it) s->wpAny (model P w) A (pyIter (.ref it)) Q E s
abbrev TI:=St->Hp->(It->Hp->Prop)->Prop
def PIE (X:Cx) (pins:List (Addr × Obj)) (σ:St) (tg:Expr) (R:It->Hp->Prop) (itv:Value) (s2:Shared):Prop :=
 ∃ (it:Addr) (fp:List Addr) (tn:Nat->Heap->Prop) (J:It) (H':Hp),itv=.ref it/\Inv X pins σ H' s2/\Turn X.prog X.w X.K tg J fp it tn/\tn 0 s2.heap/\(∀ b∈fp,Zv X pins H' b)/\R J H'
def PI (X:Cx) (tg iter:Expr) (wi:TI):Prop :=
 ∀ (pins:List (Addr × Obj)) (s:Shared) (σ:St) (H:Hp) (R:It->Hp->Prop),Inv X pins σ H s->wi σ H R ->
  wpAny (model X.prog X.w) X.A (eval iter X.env) (fun v s1=>wpAny (model X.prog X.w) X.A (pyIter v) (PIE X pins σ tg R) X.xe s1) X.xe s
theorem zFz {M:Model} {A:Around} {E:Value->Shared->Prop} {s:Shared} {tg:Expr} {it:Addr} {u:Value} {o:Obj} {n:String} {vs:Array Value} {Q:Unit->Shared->Prop} (ho:s.heap.get? it=some o) (hc:o.cls=.type n) (hd:o.data=.fields vs)
  (hn:["enumerate", "zip", "dict_itemiterator", "dict_reverseitemiterator", "odict_iterator", "itertools.zip_longest", "itertools.pairwise"].contains n=false) (hQ:Q () s):wpAny M A (letOwnedTupleGo tg (.ref it) u) Q E s:=by
 unfold letOwnedTupleGo
 cases tg <;> first
  | exact wpAny_pure hQ
  | (cases u <;> first
    | exact wpAny_pure hQ
    | (refine wpAny_bind (wpAny_load ho ?_)
       rw[hc,hd]
       show wpAny M A (if (["enumerate", "zip", "dict_itemiterator", "dict_reverseitemiterator", "odict_iterator", "itertools.zip_longest", "itertools.pairwise"].contains n && vs[0]? == some (rawInt _))=true then _ else _) Q E s
       rw[if_neg (by intro h;rw[hn,Bool.false_and] at h;cases h)]
       exact wpAny_pure hQ))
def Itl (K:W.Frag) (a:Addr):It :=
 ⟨fun i H=>∃ xs x,SqL K H a xs/\xs[i]? = some x,fun i H x H'=>H'=H/\∀ xs,SqL K H a xs->xs[i]? = some x,fun i H=>∃ xs,SqL K H a xs/\xs.length<=i⟩
def Itt (K:W.Frag) (a:Addr):It :=
 ⟨fun i H=>∃ xs x,SqT K H a xs/\xs[i]? = some x,fun i H x H'=>H'=H/\∀ xs,SqT K H a xs->xs[i]? = some x,fun i H=>∃ xs,SqT K H a xs/\xs.length<=i⟩
def Itr (lo:Int) (n:Nat):It:=⟨fun i _=>i < n,fun i H x H'=>H'=H/\x=.int (lo+i),fun i _=>n<=i⟩
theorem zGo {P:Program} {w:World} {K:W.Frag} {tg:Expr} (a it:Addr):Turn P w K tg (Itl K a) [it] it (fun i h=>h.IsListIter it a i) where
 mem:=by simp
 obj:=fun i h st b hb=>by
  have e:b=it:=by simpa using hb
  subst e
  obtain⟨o,e,c,d⟩:=st
  exact⟨o,e,fun v z=>by rw[d] at z;cases z⟩
 keep:=fun i h h' st k=>st.at fun o e=>k it (by simp) o e
 item:=by
  intro X hP hw hK hc i pins s σ H E I hf st hg
  subst hP hw hK
  obtain⟨xs,x,hq,hx⟩:=hg
  obtain⟨its,rv,p,hz⟩:=I.list hq
  obtain⟨u,hu,ru⟩:=rv.get hx
  obtain⟨f0,f1,f2,f3,f4,f5⟩:=hf it (by simp)
  refine wpAny_pyNext_list_item st p.isList (x:=u) (by simpa using hu) fun h' st' sb=>?_
  have I1:Inv X pins σ H { s with heap:=h' }:=I.turned (t':=s.toks) (fun b o hb e=>(sb.2 b hb).trans e) f0 f1 f3 f4 f5
  obtain⟨o,e,c,d⟩:=id st'
  exact⟨u,rfl,zFz (s:={ s with heap:=h' }) e c d (by decide) ⟨x,H,I1,ru,⟨rfl,fun ys hy=>by rw[I.list_inj hy hq];exact hx⟩,st',fun b hb=>(hf b hb).1⟩⟩
 done:=by
  intro X hP hw hK hc i pins s σ H E I hf st hg
  subst hP hw hK
  obtain⟨xs,hq,hx⟩:=hg
  obtain⟨its,rv,p,hz⟩:=I.list hq
  obtain⟨f0,f1,f2,f3,f4,f5⟩:=hf it (by simp)
  have hl:=rv.length
  exact wpAny_pyNext_list_end (I.ok.hd hc) st p.isList (by simp;omega) fun h' eb=>⟨rfl,I.turned (t':=s.toks) (fun b o hb e=>eb b o hb e) f0 f1 f3 f4 f5⟩
 self:=fun _ _ _ _ _ st h=>wpAny_pyIter_listiter st h
theorem zFA {P:Program} {w:World} {K:W.Frag} {tg:Expr} (a it:Addr):Turn P w K tg (Itt K a) [it] it (fun i h=>h.IsTupleIter it a i) where
 mem:=by simp
 obj:=fun i h st b hb=>by
  have e:b=it:=by simpa using hb
  subst e
  obtain⟨o,e,c,d⟩:=st
  exact⟨o,e,fun v z=>by rw[d] at z;cases z⟩
 keep:=fun i h h' st k=>st.at fun o e=>k it (by simp) o e
 item:=by
  intro X hP hw hK hc i pins s σ H E I hf st hg
  subst hP hw hK
  obtain⟨xs,x,hq,hx⟩:=hg
  obtain⟨its,rv,p,hz⟩:=I.tuple hq
  obtain⟨u,hu,ru⟩:=rv.get hx
  obtain⟨f0,f1,f2,f3,f4,f5⟩:=hf it (by simp)
  refine wpAny_pyNext_tuple_item st (show s.heap.IsTuple a its.toArray from p) (x:=u) (by simpa using hu) fun h' st' sb=>?_
  have I1:Inv X pins σ H { s with heap:=h' }:=I.turned (t':=s.toks) (fun b o hb e=>(sb.2 b hb).trans e) f0 f1 f3 f4 f5
  obtain⟨o,e,c,d⟩:=id st'
  exact⟨u,rfl,zFz (s:={ s with heap:=h' }) e c d (by decide) ⟨x,H,I1,ru,⟨rfl,fun ys hy=>by rw[I.tuple_inj hy hq];exact hx⟩,st',fun b hb=>(hf b hb).1⟩⟩
 done:=by
  intro X hP hw hK hc i pins s σ H E I hf st hg
  subst hP hw hK
  obtain⟨xs,hq,hx⟩:=hg
  obtain⟨its,rv,p,hz⟩:=I.tuple hq
  obtain⟨f0,f1,f2,f3,f4,f5⟩:=hf it (by simp)
  have hl:=rv.length
  exact wpAny_pyNext_tuple_end (I.ok.hd hc) st (show s.heap.IsTuple a its.toArray from p) (by simp;omega) fun h' eb=>⟨rfl,I.turned (t':=s.toks) (fun b o hb e=>eb b o hb e) f0 f1 f3 f4 f5⟩
 self:=fun _ _ _ _ _ st h=>wpAny_pyIter_tupleiter st h
theorem zFB {P:Program} {w:World} {K:W.Frag} {tg:Expr} (it:Addr) (lo:Int) (n:Nat):Turn P w K tg (Itr lo n) [it] it (fun i h=>IsRangeIter h it (lo+(i:Nat)*1) ((n:Int) - (i:Nat)) 1) where
 mem:=by simp
 obj:=fun i h st b hb=>by
  have e:b=it:=by simpa using hb
  subst e
  exact⟨_,st,fun v z=>by
   have z':Data.fields _=Data.cell v:=z
   cases z'⟩
 keep:=fun i h h' st k=>k it (by simp) _ st
 item:=by
  intro X hP hw hK hc i pins s σ H E I hf st hg
  subst hP hw hK
  obtain⟨f0,f1,f2,f3,f4,f5⟩:=hf it (by simp)
  have W:=Walks.range (prog:=X.prog) (w:=X.w) (I.ok.hd hc) it lo 1 n
  refine W.item i s _ _ hg st fun v h' tk hv st' kk=>?_
  obtain⟨t,rfl⟩:=hv
  have I1:Inv X pins σ H { s with heap:=h',toks:=tk }:=I.turned (fun b o hb e=>kk b o (by simpa using hb) e) f0 f1 f3 f4 f5
  refine⟨_,rfl,zFz (s:={ s with heap:=h',toks:=tk }) (n := "range_iterator") st' rfl rfl (by decide) ⟨.int (lo+i),H,I1,⟨t,?_⟩,⟨rfl,rfl⟩,st',fun b hb=>(hf b hb).1⟩⟩
  rw[Int.mul_one]
 done:=by
  intro X hP hw hK hc i pins s σ H E I hf st hg
  subst hP hw hK
  obtain⟨f0,f1,f2,f3,f4,f5⟩:=hf it (by simp)
  exact wpAny_pyNext_range_end (I.ok.hd hc) st (by have:n<=i:=hg;omega) fun h' eb=>⟨rfl,I.turned (t':=s.toks) (fun b o hb e=>eb b o hb e) f0 f1 f3 f4 f5⟩
 self:=fun _ _ _ _ _ st h=>wpAny_pyIter_rangeiter st h
end L2
namespace L2
open PySem PySem.Spec PyProof.Rows
section
variable {X:Cx} {tg:Expr}
def zLG (K:W.Frag) (tl:TE):TI:=fun σ H R=>tl σ H fun x H1=>∃ a,x=.ref a/\(∃ xs,SqL K H1 a xs)/\R (Itl K a) H1
def zMW (K:W.Frag) (tl:TE):TI:=fun σ H R=>tl σ H fun x H1=>∃ a,x=.ref a/\(∃ xs,SqT K H1 a xs)/\R (Itt K a) H1
theorem WT {l:Expr} {tl:TE} (hl:PE X l tl):PI X tg l (zLG X.K tl):=by
 intro pins s σ H R I h
 refine thn (hl pins s σ H _ I h) fun v s1 ⟨x,H1,I1,r1,q1⟩=>?_
 obtain⟨a,e,⟨xs,hq⟩,q⟩:=q1
 subst e
 cases r1
 obtain⟨its,rv,p,hz⟩:=I1.list hq
 refine wpAny_pyIter_list p.isList ?_
 refine⟨s1.heap.objs.size,[s1.heap.objs.size],_,_,H1,rfl,I1.kept (t':=s1.toks) fun b o e=>Heap.get?_push_of_some _ e,zGo a _,⟨_,Heap.get?_push_size _ rfl,rfl,rfl⟩,fun b hb=>?_,q⟩
 have e:b=s1.heap.objs.size:=by simpa using hb
 subst e
 exact I1.fpOk (Nat.le_refl _) (I1.hok.fresh (Nat.le_refl _))
theorem zHf {l:Expr} {tl:TE} (hl:PE X l tl):PI X tg l (zMW X.K tl):=by
 intro pins s σ H R I h
 refine thn (hl pins s σ H _ I h) fun v s1 ⟨x,H1,I1,r1,q1⟩=>?_
 obtain⟨a,e,⟨xs,hq⟩,q⟩:=q1
 subst e
 cases r1
 obtain⟨its,rv,p,hz⟩:=I1.tuple hq
 refine wpAny_pyIter_tuple (show s1.heap.IsTuple a its.toArray from p) ?_
 refine⟨s1.heap.objs.size,[s1.heap.objs.size],_,_,H1,rfl,I1.kept (t':=s1.toks) fun b o e=>Heap.get?_push_of_some _ e,zFA a _,⟨_,Heap.get?_push_size _ rfl,rfl,rfl⟩,fun b hb=>?_,q⟩
 have e:b=s1.heap.objs.size:=by simpa using hb
 subst e
 exact I1.fpOk (Nat.le_refl _) (I1.hok.fresh (Nat.le_refl _))
theorem zIu {pins:List (Addr × Obj)} {σ:St} {H:Hp} {s:Shared} {R:It->Hp->Prop} {E:Value->Shared->Prop} {lo hi:Int} {t u v:Tok} {tk:Nat} (I:Inv X pins σ H s) (h1 : -(2 ^ 62)<=lo) (h2:lo < 2 ^ 62) (h3 : -(2 ^ 62)<=hi) (h4:hi < 2 ^ 62)
  (q:R (Itr lo (hi - lo).toNat) H):wpAny (model X.prog X.w) X.A (pyIter (.ref s.heap.objs.size)) (PIE X pins σ tg R) E { s with heap:=s.heap.push { cls:=.type "range",data:=.fields #[.int lo t,.int hi u,.int 1 v] },toks:=tk }:=by
 refine wpAny_pyIter_range (IsRange.new ..) (small_one h1 h2 h3 h4) ?_
 have I1:Inv X pins σ H { s with heap:=s.heap.push { cls:=.type "range",data:=.fields #[.int lo t,.int hi u,.int 1 v] },toks:=tk }:=I.kept fun b o e=>Heap.get?_push_of_some _ e
 refine⟨(s.heap.push { cls:=.type "range",data:=.fields #[.int lo t,.int hi u,.int 1 v] }).objs.size,[(s.heap.push { cls:=.type "range",data:=.fields #[.int lo t,.int hi u,.int 1 v] }).objs.size],_,_,H,rfl,
  I1.kept (t':=tk) fun b o e=>Heap.get?_push_of_some _ e,zFB _ lo (hi - lo).toNat,?_,fun b hb=>?_,q⟩
 ·have e1:lo+((0:Nat):Int)*1=lo:=by simp
  have e2:(((hi - lo).toNat:Nat):Int) - ((0:Nat):Int)=Builtin.Range.rangeSize lo hi 1:=by rw[rangeSize_one];split <;> omega
  show IsRangeIter _ _ (lo+((0:Nat):Int)*1) ((((hi - lo).toNat:Nat):Int) - ((0:Nat):Int)) 1
  rw[e1,e2]
  exact Heap.get?_push_size _ rfl
 ·have e:b=(s.heap.push { cls:=.type "range",data:=.fields #[.int lo t,.int hi u,.int 1 v] }).objs.size:=by simpa using hb
  subst e
  exact I1.fpOk (Nat.le_refl _) (I1.hok.fresh (Nat.le_refl _))
def zKw (ta:TA):TI:=fun σ H R=>ta σ H fun vs H1=>∃ j:Int,vs=[.int j] /\ -(2 ^ 62)<=j/\j < 2 ^ 62/\R (Itr 0 j.toNat) H1
theorem WQ {a:Expr} {ta:TA} {p pos:Pos} (hg:Gl X "range") (hm:X.mg "range" = none) (ha:PA X [a] ta) (hs:starEach [a] X.env=[(false,eval a X.env)]:=by rfl):PI X tg (.Call (.Name "range" p) [a] [] pos) (zKw ta):=by
 intro pins s σ H R I h
 refine Call_ (Zf I hg hm boot_range (PyProof.Rows.callWith_type1 (thn (ha pos pins s σ H _ I h) fun us s1 ⟨vs,H1,I1,r1,q1⟩=>?_) hs rfl))
 obtain⟨j,e,q1,q2,q⟩:=q1
 subst e
 cases r1 with
 | cons r rr =>
  cases rr
  obtain⟨t,rfl⟩:=r
  exact call_range_1 (zIu I1 (by omega) (by omega) q1 q2 (by simpa using q))
def zMo (wi:TI) (g:TG) (tb:TS):TS:=fun D σ H=>wi σ H fun J H1=>∃ W:Nat->Nat->St->Hp->Prop,(∃ m,W 0 m σ H1)/\∀ i m σ H,W i m σ H ->
 (J.stop i H/\D.nx σ H)\/(J.go i H/\∃ N:St->Hp->Prop,(∀ σ' H',N σ' H'->∃ m',m' < m/\W (i+1) m' σ' H')/\∀ x H',J.yld i H x H'->g x σ H' fun σ2 H2=>tb { D with nx:=N,ct:=N,bk:=D.nx } σ2 H2)
def Zz (fp:List Addr) (h:Heap):List (Addr × Obj):=fp.filterMap fun b=>(h.get? b).map fun o=>(b,o)
theorem Yg {fp:List Addr} {h:Heap} {b:Addr} {o:Obj} (hb:b∈fp) (e:h.get? b=some o):(b,o)∈Zz fp h:=List.mem_filterMap.mpr ⟨b,hb,by rw[e];rfl⟩
theorem zGf {fp:List Addr} {h:Heap} {p:Addr × Obj} (hp:p∈Zz fp h):p.1∈fp/\h.get? p.1=some p.2:=by
 obtain⟨b,hb,e⟩:=List.mem_filterMap.mp hp
 cases q:h.get? b with
 | none=>rw[q] at e;cases e
 | some o =>
  rw[q] at e
  have e':(b,o)=p:=Option.some.inj e
  subst e'
  exact⟨hb,q⟩
theorem Inv.pinned {pins:List (Addr × Obj)} {σ:St} {H:Hp} {s:Shared} {fp:List Addr} (I:Inv X pins σ H s) (hf:∀ b∈fp,Zv X pins H b) (ho:∀ b∈fp,∃ o,s.heap.get? b=some o/\∀ v,o.data ≠ .cell v):Inv X (pins++Zz fp s.heap) σ H s :=
 I.pins_of fun p hp=>(List.mem_append.mp hp).elim (fun z=>I.pin p (List.mem_append_right _ z)) fun z=>by
  obtain⟨hb,e⟩:=zGf z
  obtain⟨f0,f1,f2,_⟩:=hf p.1 hb
  obtain⟨o,e',d⟩:=ho p.1 hb
  rw[e] at e';cases e'
  exact⟨e,f0,f1,f2,d⟩
theorem Inv.unpinned {pins pl:List (Addr × Obj)} {σ:St} {H:Hp} {s:Shared} (I:Inv X (pins++pl) σ H s):Inv X pins σ H s:=I.pins_of fun p hp=>I.pin p (List.mem_append_right _ (List.mem_append_left _ hp))
theorem Zj {iter:Expr} {body:List Stmt} {wi:TI} {g:TG} {tb:TS} {pos:Pos} (hp:PassesOwn (model X.prog X.w) X.A X.env X.xe) (hc:X.calm=true) (hi:PI X tg iter wi) (hg:PG X tg g) (hb:PSs X body tb)
  (hs:∀ x,foldedSetIterable iter X.env x=pure x:=by intro _;rfl):PS X (.For tg iter body [] pos) (zMo wi g tb):=by
 intro pins s σ H D I h
 refine wpAny_For (thn (hi pins s σ H _ I h) fun v s1 h1=>thn h1 fun itv s2 h2=>?_) hs
 obtain⟨it,fp,tn,J,H2,e,I2,T,st2,f2,W,⟨m0,w0⟩,turn⟩:=h2
 subst e
 have stat:∀ {H':Hp},(∀ b∈fp,H' b=none)->∀ b∈fp,Zv X pins H' b:=fun hn b hb=>⟨hn b hb,(f2 b hb).2⟩
 refine codeAny_forLoop_any (fun n s'=>∃ i σ' H',Inv X pins σ' H' s'/\tn i s'.heap/\(∀ b∈fp,H' b=none)/\W i n σ' H') ?_ m0 ⟨0,σ,H2,I2,st2,fun b hb=>(f2 b hb).1,w0⟩
 rintro n s3 ⟨i,σ3,H3,I3,st3,fr3,w3⟩
 rcases turn i n σ3 H3 w3 with ⟨stop,qn⟩ | ⟨go,N,hN,step⟩
 ·refine wpAny_passesOwn hp (thn (T.done X rfl rfl rfl hc i pins s3 σ3 H3 X.xe I3 (stat fr3) st3 stop) fun r s4 ⟨hr,I4⟩=>?_)
  subst hr
  exact wpAny_execs_nil ⟨σ3,H3,I4,qn⟩
 ·refine wpAny_passesOwn hp (thn (T.item X rfl rfl rfl hc i pins s3 σ3 H3 X.xe I3 (stat fr3) st3 go) fun r s4 ⟨u,hr,h4⟩=>?_)
  subst hr
  refine wpAny_passesOwn hp (thn h4 fun _ s5 ⟨x,H5,I5,r5,y5,st5,fr5⟩=>?_)
  have I5':=I5.pinned (stat fr5) (T.obj _ _ st5)
  refine wpAny_passesOwn hp (thn (hg _ s5 σ3 H5 x u _ I5' r5 (step x H5 y5)) fun _ s6 ⟨σ6,H6,I6,q6⟩=>?_)
  refine wpAny_passesOwn hp (thn (hb _ s6 σ6 H6 _ I6 q6) fun f s7 q7=>?_)
  have again:∀ {σ7:St} {H7:Hp},Inv X (pins++Zz fp s5.heap) σ7 H7 s7->N σ7 H7->∃ m,m < n/\∃ i σ' H',Inv X pins σ' H' s7/\tn i s7.heap/\(∀ b∈fp,H' b=none)/\W i m σ' H':=fun {σ7 H7} I7 n7=>by
   obtain⟨m',hm,w7⟩:=hN σ7 H7 n7
   refine⟨m',hm,i+1,σ7,H7,I7.unpinned,T.keep _ _ _ st5 fun b hb o e=>(I7.pin (b,o) (List.mem_append_right _ (List.mem_append_right _ (Yg hb e)))).1,fun b hb=>?_,w7⟩
   obtain⟨o,e,d⟩:=T.obj _ _ st5 b hb
   exact (I7.pin (b,o) (List.mem_append_right _ (List.mem_append_right _ (Yg hb e)))).2.1
  cases f with
  | next=>obtain⟨σ7,H7,I7,n7⟩:=q7;exact again I7 n7
  | cont=>obtain⟨σ7,H7,I7,n7⟩:=q7;exact again I7 n7
  | brk=>obtain⟨σ7,H7,I7,q7⟩:=q7;exact⟨σ7,H7,I7.unpinned,q7⟩
  | ret v=>obtain⟨x7,σ7,H7,I7,r7,q7⟩:=q7;exact⟨x7,σ7,H7,I7.unpinned,r7,q7⟩
end
theorem zI8 {K:W.Frag} {a:Addr} {xs:List V} {g:TG} {tb:TS} {D:Ends} {σ:St} {H:Hp} (Pv:Nat->St->Hp->Prop) (h0:Pv 0 σ H) (hl:∀ i σ H,i<=xs.length->Pv i σ H->SqL K H a xs)
  (hs:∀ i x σ H,xs[i]? = some x->Pv i σ H->g x σ H fun σ2 H2=>tb { D with nx:=Pv (i+1),ct:=Pv (i+1),bk:=D.nx } σ2 H2) (hd:∀ σ H,Pv xs.length σ H->D.nx σ H) :
  ∃ W:Nat->Nat->St->Hp->Prop,(∃ m,W 0 m σ H)/\∀ i m σ H,W i m σ H ->
   ((Itl K a).stop i H/\D.nx σ H)\/((Itl K a).go i H/\∃ N:St->Hp->Prop,(∀ σ' H',N σ' H'->∃ m',m' < m/\W (i+1) m' σ' H')/\∀ x H',(Itl K a).yld i H x H'->g x σ H' fun σ2 H2=>tb { D with nx:=N,ct:=N,bk:=D.nx } σ2 H2):=by
 refine⟨fun i m σ H=>m=xs.length - i/\i<=xs.length/\Pv i σ H,⟨xs.length,by simp,Nat.zero_le _,h0⟩,?_⟩
 rintro i m σ H ⟨rfl,hi,p⟩
 have q:=hl i σ H hi p
 by_cases hlt:i < xs.length
 ·refine .inr ⟨⟨xs,xs[i],q,by simp[hlt]⟩,Pv (i+1),fun σ' H' p'=>⟨xs.length - (i+1),by omega,rfl,hlt,p'⟩,fun x H' y=>?_⟩
  obtain⟨e,y⟩:=y
  subst e
  exact hs i x σ _ (y xs q) p
 ·have e:i=xs.length:=by omega
  subst e
  exact .inl ⟨⟨xs,q,Nat.le_refl _⟩,hd σ H p⟩
theorem zJ8 {K:W.Frag} {a:Addr} {xs:List V} {g:TG} {tb:TS} {D:Ends} {σ:St} {H:Hp} (Pv:Nat->St->Hp->Prop) (h0:Pv 0 σ H) (hl:∀ i σ H,i<=xs.length->Pv i σ H->SqT K H a xs)
  (hs:∀ i x σ H,xs[i]? = some x->Pv i σ H->g x σ H fun σ2 H2=>tb { D with nx:=Pv (i+1),ct:=Pv (i+1),bk:=D.nx } σ2 H2) (hd:∀ σ H,Pv xs.length σ H->D.nx σ H) :
  ∃ W:Nat->Nat->St->Hp->Prop,(∃ m,W 0 m σ H)/\∀ i m σ H,W i m σ H ->
   ((Itt K a).stop i H/\D.nx σ H)\/((Itt K a).go i H/\∃ N:St->Hp->Prop,(∀ σ' H',N σ' H'->∃ m',m' < m/\W (i+1) m' σ' H')/\∀ x H',(Itt K a).yld i H x H'->g x σ H' fun σ2 H2=>tb { D with nx:=N,ct:=N,bk:=D.nx } σ2 H2):=by
 refine⟨fun i m σ H=>m=xs.length - i/\i<=xs.length/\Pv i σ H,⟨xs.length,by simp,Nat.zero_le _,h0⟩,?_⟩
 rintro i m σ H ⟨rfl,hi,p⟩
 have q:=hl i σ H hi p
 by_cases hlt:i < xs.length
 ·refine .inr ⟨⟨xs,xs[i],q,by simp[hlt]⟩,Pv (i+1),fun σ' H' p'=>⟨xs.length - (i+1),by omega,rfl,hlt,p'⟩,fun x H' y=>?_⟩
  obtain⟨e,y⟩:=y
  subst e
  exact hs i x σ _ (y xs q) p
 ·have e:i=xs.length:=by omega
  subst e
  exact .inl ⟨⟨xs,q,Nat.le_refl _⟩,hd σ H p⟩
theorem zGv {lo:Int} {n:Nat} {g:TG} {tb:TS} {D:Ends} {σ:St} {H:Hp} (Pv:Nat->St->Hp->Prop) (h0:Pv 0 σ H)
  (hs:∀ i σ H,i < n->Pv i σ H->g (.int (lo+i)) σ H fun σ2 H2=>tb { D with nx:=Pv (i+1),ct:=Pv (i+1),bk:=D.nx } σ2 H2) (hd:∀ σ H,Pv n σ H->D.nx σ H) :
  ∃ W:Nat->Nat->St->Hp->Prop,(∃ m,W 0 m σ H)/\∀ i m σ H,W i m σ H ->
   ((Itr lo n).stop i H/\D.nx σ H)\/((Itr lo n).go i H/\∃ N:St->Hp->Prop,(∀ σ' H',N σ' H'->∃ m',m' < m/\W (i+1) m' σ' H')/\∀ x H',(Itr lo n).yld i H x H'->g x σ H' fun σ2 H2=>tb { D with nx:=N,ct:=N,bk:=D.nx } σ2 H2):=by
 refine⟨fun i m σ H=>m=n - i/\i<=n/\Pv i σ H,⟨n,by simp,Nat.zero_le _,h0⟩,?_⟩
 rintro i m σ H ⟨rfl,hi,p⟩
 by_cases hlt:i < n
 ·refine .inr ⟨hlt,Pv (i+1),fun σ' H' p'=>⟨n - (i+1),by omega,rfl,hlt,p'⟩,fun x H' y=>?_⟩
  obtain⟨e,y⟩:=y
  subst e y
  exact hs i σ _ hlt p
 ·have e:i=n:=by omega
  subst e
  exact .inl ⟨Nat.le_refl _,hd σ H p⟩
end L2
namespace L2
open PySem PySem.Spec PyProof.Rows
abbrev R2:=V->V->Hp->VK->Prop
def OpR (X:Cx) (f:Value->Value->Sem Value) (r:R2):Prop :=
 ∀ (pins:List (Addr × Obj)) (s:Shared) (σ:St) (H:Hp) (x y:V) (v u:Value) (Q:VK),Inv X pins σ H s->RelV x v->RelV y u->r x y H Q ->
  wpAny (model X.prog X.w) X.A (f v u) (EP X pins σ Q) X.xe s
def UnR (X:Cx) (f:Value->Sem Value) (r:V->Hp->VK->Prop):Prop :=
 ∀ (pins:List (Addr × Obj)) (s:Shared) (σ:St) (H:Hp) (x:V) (v:Value) (Q:VK),Inv X pins σ H s->RelV x v->r x H Q ->
  wpAny (model X.prog X.w) X.A (f v) (EP X pins σ Q) X.xe s
def ZD (X:Cx) (f:Value) (r:List V->Hp->VK->Prop):Prop :=
 ∀ (pins:List (Addr × Obj)) (s:Shared) (σ:St) (H:Hp) (xs:List V) (us:List Value) (Q:VK),Inv X pins σ H s->Vals xs us->r xs H Q ->
  wpAny (model X.prog X.w) X.A (call f us) (EP X pins σ Q) X.xe s
def zNR (X:Cx) (r:V->Hp->(Bool->Hp->Prop)->Prop):Prop :=
 ∀ (pins:List (Addr × Obj)) (s:Shared) (σ:St) (H:Hp) (x:V) (v:Value) (Q:Bool->Hp->Prop),Inv X pins σ H s->RelV x v->r x H Q ->
  wpAny (model X.prog X.w) X.A (truthy v) (TP X pins σ Q) X.xe s
def tOp (r:R2) (ta tb:TE):TE:=fun σ H Q=>ta σ H fun x H1=>tb σ H1 fun y H2=>r x y H2 Q
def tUn (r:V->Hp->VK->Prop) (ta:TE):TE:=fun σ H Q=>ta σ H fun x H1=>r x H1 Q
def rI (C:Int->Int->Prop) (g:Int->Int->V):R2:=fun x y H Q=>∃ i j,x=.int i/\y=.int j/\C i j/\Q (g i j) H
def rI0 (g:Int->Int->V):R2:=fun x y H Q=>∃ i j,x=.int i/\y=.int j/\Q (g i j) H
def rU (g:Int->V):V->Hp->VK->Prop:=fun x H Q=>∃ i,x=.int i/\Q (g i) H
section
variable {X:Cx} {a b c:Expr} {ta tb tc:TE} {pos:Pos}
theorem zMP (ha:PE X a ta) (hb:PE X b tb) {pins:List (Addr × Obj)} {s:Shared} {σ:St} {H:Hp} {R:V->V->Hp->Prop} (I:Inv X pins σ H s)
  (h:ta σ H fun x H1=>tb σ H1 fun y H2=>R x y H2) {Q:Value->Shared->Prop} {f:Value->Value->Sem Value}
  (hf:∀ v u s2 x y H2,Inv X pins σ H2 s2->RelV x v->RelV y u->R x y H2->wpAny (model X.prog X.w) X.A (f v u) Q X.xe s2) :
  wpAny (model X.prog X.w) X.A (eval a X.env) (fun v s₁=>wpAny (model X.prog X.w) X.A (eval b X.env) (fun u s₂=>wpAny (model X.prog X.w) X.A (f v u) Q X.xe s₂) X.xe s₁) X.xe s:=by
 refine thn (ha pins s σ H _ I h) fun v s1 ⟨x,H1,I1,r1,q1⟩=>?_
 refine thn (hb pins s1 σ H1 _ I1 q1) fun u s2 ⟨y,H2,I2,r2,q2⟩=>?_
 exact hf v u s2 x y H2 I2 r1 r2 q2
theorem QM {op:Operator} {r:R2} (ho:OpR X (binaryOp op) r) (ha:PE X a ta) (hb:PE X b tb):PE X (.BinOp a op b pos) (tOp r ta tb):=by
 intro pins s σ H Q I h
 exact wpAny_BinOp (zMP ha hb I h fun v u s2 x y H2 I2 rx ry q=>ho pins s2 σ H2 x y v u Q I2 rx ry q)
theorem zFg {op:UnaryOp} {r:V->Hp->VK->Prop} (ho:UnR X (unaryOp op) r) (ha:PE X a ta):PE X (.UnaryOp op a pos) (tUn r ta):=by
 intro pins s σ H Q I h
 exact UnaryOp_ (thn (ha pins s σ H _ I h) fun v s1 ⟨x,H1,I1,r1,q1⟩=>ho pins s1 σ H1 x v Q I1 r1 q1)
theorem opI {f:Value->Value->Sem Value} {C:Int->Int->Prop} {g:Int->Int->Int}
  (rule:∀ (i j:Int) (t u:Tok) (s:Shared) (Q:Value->Shared->Prop) (E:Value->Shared->Prop),C i j->Q (.int (g i j) s.toks) { s with toks:=s.toks+1 }->wpAny (model X.prog X.w) X.A (f (.int i t) (.int j u)) Q E s) :
  OpR X f (rI C fun i j=>.int (g i j)):=by
 intro pins s σ H x y v u Q I rx ry h
 obtain⟨i,j,rfl,rfl,hc,q⟩:=h
 obtain⟨t,rfl⟩:=rx
 obtain⟨t',rfl⟩:=ry
 exact rule i j t t' s _ _ hc ⟨.int (g i j),H,I.tok _,⟨_,rfl⟩,q⟩
theorem zI0 {f:Value->Value->Sem Value} {g:Int->Int->Int}
  (rule:∀ (i j:Int) (t u:Tok) (s:Shared) (Q:Value->Shared->Prop) (E:Value->Shared->Prop),Q (.int (g i j) s.toks) { s with toks:=s.toks+1 }->wpAny (model X.prog X.w) X.A (f (.int i t) (.int j u)) Q E s) :
  OpR X f (rI0 fun i j=>.int (g i j)):=by
 intro pins s σ H x y v u Q I rx ry h
 obtain⟨i,j,rfl,rfl,q⟩:=h
 obtain⟨t,rfl⟩:=rx
 obtain⟨t',rfl⟩:=ry
 exact rule i j t t' s _ _ ⟨.int (g i j),H,I.tok _,⟨_,rfl⟩,q⟩
theorem zJY {f:Value->Value->Sem Value} {g:Int->Int->Bool}
  (rule:∀ (i j:Int) (t u:Tok) (s:Shared) (Q:Value->Shared->Prop) (E:Value->Shared->Prop),Q (.bool (g i j)) s->wpAny (model X.prog X.w) X.A (f (.int i t) (.int j u)) Q E s) :
  OpR X f (rI0 fun i j=>.bl (g i j)):=by
 intro pins s σ H x y v u Q I rx ry h
 obtain⟨i,j,rfl,rfl,q⟩:=h
 obtain⟨t,rfl⟩:=rx
 obtain⟨t',rfl⟩:=ry
 exact rule i j t t' s _ _ ⟨.bl (g i j),H,I,rfl,q⟩
def zMa (i j:Int):Prop:=0 < j/\j < 1073741824
def zMT (i j:Int):Prop:=0<=j/\j<=1000000/\i.natAbs < 2 ^ 64
def CMul (i j:Int):Prop:=(-(2 ^ 64) < i/\i < 2 ^ 64)\/(-(2 ^ 64) < j/\j < 2 ^ 64)
theorem CMul.ok {i j:Int} (h:CMul i j):IntMulOk i j:=by
 rcases h with ⟨h1,h2⟩ | ⟨h1,h2⟩
 ·exact .of_left (intBits_le_64 h1 h2)
 ·exact .of_right (intBits_le_64 h1 h2)
theorem YF:OpR X (binaryOp .Add) (rI0 fun i j=>.int (i+j)):=zI0 fun _ _ _ _ _ _ _ q=>add_int q
theorem Y7:OpR X (binaryOp .Sub) (rI0 fun i j=>.int (i - j)):=zI0 fun _ _ _ _ _ _ _ q=>sub_int q
theorem Ys:OpR X (binaryOp .Mult) (rI CMul fun i j=>.int (i*j)):=opI fun _ _ _ _ _ _ _ hc q=>mul_int q hc.ok
theorem Qj:OpR X (binaryOp .FloorDiv) (rI zMa fun i j=>.int (i / j)):=opI fun i j _ _ _ _ _ hc q=>by
 have h1:(0:Int) < j:=hc.1
 have h2:j < 1073741824:=hc.2
 exact floordiv_int (by omega) (by rw[Int.fdiv_eq_ediv_of_nonneg i (by omega)];exact q) (.inl (PyProof.noPylong_small (by omega)))
theorem QY:OpR X (binaryOp .Mod) (rI (fun _ j=>0 < j) fun i j=>.int (i % j)):=opI fun i j _ _ _ _ _ hc q=>by
 have h1:(0:Int) < j:=hc
 exact mod_int' (by omega) (by rw[Int.fmod_eq_emod_of_nonneg i (by omega)];exact q)
theorem Wv:OpR X (binaryOp .Pow) (rI zMT fun i j=>.int (i ^ j.toNat)):=opI fun _ _ _ _ _ _ _ hc q=>pow_int_small hc.1 hc.2.1 hc.2.2 q
theorem zMN:OpR X (binaryOp .BitAnd) (rI0 fun i j=>.int (Builtin.bitAnd i j)):=zI0 fun _ _ _ _ _ _ _ q=>and_int q
theorem zMf:OpR X (binaryOp .BitOr) (rI0 fun i j=>.int (Builtin.bitOr i j)):=zI0 fun _ _ _ _ _ _ _ q=>or_int q
theorem zLz:OpR X (binaryOp .BitXor) (rI0 fun i j=>.int (Builtin.bitXor i j)):=zI0 fun _ _ _ _ _ _ _ q=>xor_int q
theorem unI {f:Value->Sem Value} {g:Int->Int}
  (rule:∀ (i:Int) (t:Tok) (s:Shared) (Q:Value->Shared->Prop) (E:Value->Shared->Prop),Q (.int (g i) s.toks) { s with toks:=s.toks+1 }->wpAny (model X.prog X.w) X.A (f (.int i t)) Q E s) :
  UnR X f (rU fun i=>.int (g i)):=by
 intro pins s σ H x v Q I rx h
 obtain⟨i,rfl,q⟩:=h
 obtain⟨t,rfl⟩:=rx
 exact rule i t s _ _ ⟨.int (g i),H,I.tok _,⟨_,rfl⟩,q⟩
theorem zCy:UnR X (unaryOp .USub) (rU fun i=>.int (-i)):=unI fun _ _ _ _ _ q=>neg_int q
end
def zGZ:V->V->Bool
 | .non,.non=>true | .non,.int _=>true | .int _,.non=>true | .non,.bl _=>true | .bl _,.non=>true | .non,.str _=>true | .str _,.non=>true
 | .int _,.int _=>true | .bl _,.bl _=>true | .str _,.str _=>true | .byt _,.byt _=>true
 | .int _,.str _=>true | .str _,.int _=>true | .bl _,.str _=>true | .str _,.bl _=>true
 | _,_=>false
def rEq:R2:=fun x y H Q=>zGZ x y=true/\Q (.bl (decide (x=y))) H
def rNe:R2:=fun x y H Q=>zGZ x y=true/\Q (.bl (!decide (x=y))) H
theorem zF4 {i j:Int}:decide (V.int i=V.int j)=(i == j):=by
 rw[Bool.eq_iff_iff]
 simp
theorem zIM {i j:Bool}:decide (V.bl i=V.bl j)=(i == j):=by
 rw[Bool.eq_iff_iff]
 simp
theorem zFu {i j:Str}:decide (V.str i=V.str j)=(i == j):=by
 rw[Bool.eq_iff_iff]
 simp
theorem zFe {i j:Array UInt8}:decide (V.byt i=V.byt j)=(i.toList == j.toList):=by
 rw[Bool.eq_iff_iff]
 cases i
 cases j
 simp
section
variable {X:Cx} {a b c:Expr} {ta tb tc:TE} {pos:Pos}
theorem Qf {pins:List (Addr × Obj)} {σ:St} {H:Hp} {s:Shared} {Q:VK} {k k':Bool} (I:Inv X pins σ H s) (q:Q (.bl k) H) (e:k=k'):EP X pins σ Q (.bool k') s:=by
 subst e
 exact⟨.bl k,H,I,rfl,q⟩
theorem Qy:OpR X (compareOp .Eq) rEq:=by
 intro pins s σ H x y v u Q I rx ry h
 obtain⟨hs,q⟩:=h
 cases x with
 | non =>
  cases rx
  cases y with
  | non=>cases ry;exact PySem.EqNone.eq_none_none (Qf I q (by simp))
  | bl j=>cases ry;exact PySem.EqNone.eq_none_bool (Qf I q (by simp))
  | int j=>obtain⟨t',rfl⟩:=ry;exact PySem.EqNone.eq_none_int (Qf I q (by simp))
  | str j=>obtain⟨t',rfl⟩:=ry;exact PySem.EqNone.eq_none_str (Qf I q (by simp))
  | _=>exact absurd (show false=true from hs) Bool.false_ne_true
 | bl i =>
  cases rx
  cases y with
  | non=>cases ry;exact PySem.EqNone.eq_bool_none (Qf I q (by simp))
  | bl j=>cases ry;exact eq_bool (Qf I q zIM)
  | str j=>obtain⟨t',rfl⟩:=ry;exact PySem.EqMixed.eq_bool_str (Qf I q (by simp))
  | _=>exact absurd (show false=true from hs) Bool.false_ne_true
 | int i =>
  obtain⟨t,rfl⟩:=rx
  cases y with
  | non=>cases ry;exact PySem.EqNone.eq_int_none (Qf I q (by simp))
  | int j=>obtain⟨t',rfl⟩:=ry;exact eq_int (Qf I q zF4)
  | str j=>obtain⟨t',rfl⟩:=ry;exact PySem.EqMixed.eq_int_str (Qf I q (by simp))
  | _=>exact absurd (show false=true from hs) Bool.false_ne_true
 | str i =>
  obtain⟨t,rfl⟩:=rx
  cases y with
  | non=>cases ry;exact PySem.EqNone.eq_str_none (Qf I q (by simp))
  | bl j=>cases ry;exact PySem.EqMixed.eq_str_bool (Qf I q (by simp))
  | int j=>obtain⟨t',rfl⟩:=ry;exact PySem.EqMixed.eq_str_int (Qf I q (by simp))
  | str j=>obtain⟨t',rfl⟩:=ry;exact eq_str (Qf I q zFu)
  | _=>exact absurd (show false=true from hs) Bool.false_ne_true
 | byt i =>
  obtain⟨t,rfl⟩:=rx
  cases y with
  | byt j=>obtain⟨t',rfl⟩:=ry;exact PySem.W.eq_bytes (Qf I q zFe)
  | _=>exact absurd (show false=true from hs) Bool.false_ne_true
 | _=>cases y <;> exact absurd (show false=true from hs) Bool.false_ne_true
theorem zFY:OpR X (compareOp .NotEq) rNe:=by
 intro pins s σ H x y v u Q I rx ry h
 obtain⟨hs,q⟩:=h
 cases x with
 | non =>
  cases rx
  cases y with
  | non=>cases ry;exact PySem.EqNone.ne_none_none (Qf I q (by simp))
  | bl j=>cases ry;exact PySem.EqNone.ne_none_bool (Qf I q (by simp))
  | int j=>obtain⟨t',rfl⟩:=ry;exact PySem.EqNone.ne_none_int (Qf I q (by simp))
  | str j=>obtain⟨t',rfl⟩:=ry;exact PySem.EqNone.ne_none_str (Qf I q (by simp))
  | _=>exact absurd (show false=true from hs) Bool.false_ne_true
 | bl i =>
  cases rx
  cases y with
  | non=>cases ry;exact PySem.EqNone.ne_bool_none (Qf I q (by simp))
  | bl j=>cases ry;exact ne_bool (Qf I q (congrArg not zIM))
  | str j=>obtain⟨t',rfl⟩:=ry;exact PySem.EqMixed.ne_bool_str (Qf I q (by simp))
  | _=>exact absurd (show false=true from hs) Bool.false_ne_true
 | int i =>
  obtain⟨t,rfl⟩:=rx
  cases y with
  | non=>cases ry;exact PySem.EqNone.ne_int_none (Qf I q (by simp))
  | int j=>obtain⟨t',rfl⟩:=ry;exact ne_int (Qf I q (congrArg not zF4))
  | str j=>obtain⟨t',rfl⟩:=ry;exact PySem.EqMixed.ne_int_str (Qf I q (by simp))
  | _=>exact absurd (show false=true from hs) Bool.false_ne_true
 | str i =>
  obtain⟨t,rfl⟩:=rx
  cases y with
  | non=>cases ry;exact PySem.EqNone.ne_str_none (Qf I q (by simp))
  | bl j=>cases ry;exact PySem.EqMixed.ne_str_bool (Qf I q (by simp))
  | int j=>obtain⟨t',rfl⟩:=ry;exact PySem.EqMixed.ne_str_int (Qf I q (by simp))
  | str j=>obtain⟨t',rfl⟩:=ry;exact ne_str (Qf I q (congrArg not zFu))
  | _=>exact absurd (show false=true from hs) Bool.false_ne_true
 | byt i =>
  obtain⟨t,rfl⟩:=rx
  cases y with
  | byt j=>obtain⟨t',rfl⟩:=ry;exact PySem.W.ne_bytes (Qf I q (congrArg not zFe))
  | _=>exact absurd (show false=true from hs) Bool.false_ne_true
 | _=>cases y <;> exact absurd (show false=true from hs) Bool.false_ne_true
theorem WY:OpR X (compareOp .Lt) (rI0 fun i j=>.bl (decide (i < j))):=zJY fun _ _ _ _ _ _ _ q=>lt_int q
theorem zFk:OpR X (compareOp .LtE) (rI0 fun i j=>.bl (decide (i<=j))):=zJY fun _ _ _ _ _ _ _ q=>le_int q
theorem Jc:OpR X (compareOp .Gt) (rI0 fun i j=>.bl (decide (j < i))):=zJY fun _ _ _ _ _ _ _ q=>gt_int q
theorem zK9:OpR X (compareOp .GtE) (rI0 fun i j=>.bl (decide (j<=i))):=zJY fun _ _ _ _ _ _ _ q=>ge_int q
theorem ZI:OpR X (compareOp .Is) (fun x y H Q=>y=.non/\Q (.bl (decide (x=.non))) H):=by
 intro pins s σ H x y v u Q I rx ry h
 obtain⟨rfl,q⟩:=h
 cases ry
 refine is_none_gen (Qf I q ?_)
 cases x <;> first
  | (cases rx;rfl)
  | (obtain⟨t,rfl⟩:=rx;rfl)
theorem Za:OpR X (compareOp .IsNot) (fun x y H Q=>y=.non/\Q (.bl (!decide (x=.non))) H):=by
 intro pins s σ H x y v u Q I rx ry h
 obtain⟨rfl,q⟩:=h
 cases ry
 refine isnot_none_gen (Qf I q ?_)
 cases x <;> first
  | (cases rx;rfl)
  | (obtain⟨t,rfl⟩:=rx;rfl)
theorem QP (b:Expr) {op:CmpOp} (h:op ≠ .In:=by decide) (h2:op ≠ .NotIn:=by decide):behindInMarks op b=false:=by
 have e1:(op == CmpOp.In)=false:=by cases op <;> first | rfl | exact absurd rfl h
 have e2:(op == CmpOp.NotIn)=false:=by cases op <;> first | rfl | exact absurd rfl h2
 cases b <;> simp[behindInMarks,e1,e2]
theorem Qx {op:CmpOp} {r:R2} (ho:OpR X (compareOp op) r) (ha:PE X a ta) (hb:PE X b tb) (hm:behindInMarks op b=false):PE X (.Compare a [op] [b] pos) (tOp r ta tb):=by
 intro pins s σ H Q I h
 exact wpAny_Compare1 (zMP ha hb I h fun v u s2 x y H2 I2 rx ry q=>ho pins s2 σ H2 x y v u Q I2 rx ry q) hm
def zKo (t:TE):TT:=fun σ H Q=>t σ H fun x H'=>∃ k,x=.bl k/\Q k H'
theorem QQ {op:CmpOp} {r:R2} (ho:OpR X (compareOp op) r) (ha:PE X a ta) (hb:PE X b tb) (hm:behindInMarks op b=false):PT X (.Compare a [op] [b] pos) (zKo (tOp r ta tb)):=by
 intro pins s σ H Q I h
 refine wpAny_isTrue_Compare1 (thn (ha pins s σ H _ I h) fun v s1 ⟨x,H1,I1,r1,q1⟩=>thn (hb pins s1 σ H1 _ I1 q1) fun u s2 ⟨y,H2,I2,r2,q2⟩ =>
  thn (ho pins s2 σ H2 x y v u _ I2 r1 r2 q2) fun c s3 ⟨z,H3,I3,r3,k,e,q3⟩=>?_) hm
 subst e
 cases r3
 exact wpAny_truthy_bool ⟨H3,I3,q3⟩
def zIy (r r':R2) (ta tb tc:TE):TE:=fun σ H Q=>ta σ H fun x H1=>tb σ H1 fun y H2=>r x y H2 fun z H3=>∃ k,z=.bl k /\
 (if k=true then tc σ H3 fun w' H4=>r' y w' H4 Q else Q (.bl false) H3)
theorem zDj {op op':CmpOp} {r r':R2} (ho:OpR X (compareOp op) r) (ho':OpR X (compareOp op') r') (ha:PE X a ta) (hb:PE X b tb) (hc:PE X c tc)
  (hm:lastMarks [op,op'] [b,c]=false:=by with_unfolding_all rfl):PE X (.Compare a [op,op'] [b,c] pos) (zIy r r' ta tb tc):=by
 intro pins s σ H Q I h
 refine Compare_chain (thn (ha pins s σ H _ I h) fun v s1 ⟨x,H1,I1,r1,q1⟩=>chain_link (thn (hb pins s1 σ H1 _ I1 q1) fun u s2 ⟨y,H2,I2,r2,q2⟩ =>
  thn (ho pins s2 σ H2 x y v u _ I2 r1 r2 q2) fun d s3 ⟨z,H3,I3,r3,k,e,q3⟩=>?_)) hm
 subst e
 cases r3
 refine wpAny_truthy_bool ?_
 cases k with
 | false=>exact ite_ff ⟨.bl false,H3,I3,rfl,q3⟩
 | true=>exact ite_tt (chain_last (thn (hc pins s3 σ H3 _ I3 q3) fun w' s4 ⟨z',H4,I4,r4,q4⟩=>ho' pins s4 σ H4 y z' u w' Q I4 r2 r4 q4))
def zNC (K:W.Frag) (x:V) (H:Hp) (k:Bool):Prop :=
 match x with
 | .non=>k=false
 | .bl b=>k=b
 | .int i=>k=(i != 0)
 | .str y=>y.length<=sizeLine/\k=((y.length:Int) != 0)
 | .byt y=>y.size<=sizeLine/\k=((y.size:Int) != 0)
 | .ref p=>(∃ xs,SqL K H p xs/\k = !xs.isEmpty)\/(∃ xs,SqT K H p xs/\k = !xs.isEmpty)\/∃ kvs,H p=some (.dK kvs)/\k = !kvs.isEmpty
 | _=>False
theorem zEZ {κ:Type} {kvs:List (κ × V)} {vs:List (κ × Value)} (r:KV kvs vs):(!vs.isEmpty) = !kvs.isEmpty:=by
 cases r <;> rfl
theorem zAy {xs:List V} {its:List Value} (r:Vals xs its):(!its.toArray.isEmpty) = !xs.isEmpty:=by
 cases r <;> simp
theorem Wu:(sizeLine:Nat) < 2 ^ 63:=by rw[sizeLine_eq];decide
theorem zLU:zNR X (fun x H Q=>∃ k,zNC X.K x H k/\Q k H):=by
 intro pins s σ H x v Q I rx h
 obtain⟨k,e,q⟩:=h
 have hl:=Wu
 have hs:sizeLine=16777216:=sizeLine_eq
 cases x with
 | non =>
  cases rx
  have e':k=false:=e
  subst e'
  exact truthy_none ⟨H,I,q⟩
 | bl b =>
  cases rx
  have e':k=b:=e
  subst e'
  exact wpAny_truthy_bool ⟨H,I,q⟩
 | int i =>
  obtain⟨t,rfl⟩:=rx
  have e':k=(i != 0):=e
  subst e'
  exact PySem.P.truthy_int ⟨H,I,q⟩
 | str y =>
  obtain⟨t,rfl⟩:=rx
  obtain⟨hy,e'⟩:y.length<=sizeLine/\k=((y.length:Int) != 0):=e
  subst e'
  exact PySem.P.truthy_str (by omega) ⟨H,I.tok _,q⟩
 | byt y =>
  obtain⟨t,rfl⟩:=rx
  obtain⟨hy,e'⟩:y.size<=sizeLine/\k=((y.size:Int) != 0):=e
  subst e'
  exact PySem.W.truthy_bytes (by omega) ⟨H,I.tok _,q⟩
 | ref p =>
  cases rx
  have e':(∃ xs,SqL X.K H p xs/\k = !xs.isEmpty)\/(∃ xs,SqT X.K H p xs/\k = !xs.isEmpty)\/∃ kvs,H p=some (.dK kvs)/\k = !kvs.isEmpty:=e
  rcases e' with ⟨xs,hx,e'⟩ | ⟨xs,hx,e'⟩ | ⟨kvs,hx,e'⟩
  ·subst e'
   obtain⟨its,r,pl,hz⟩:=I.list hx
   have hlen:=r.length
   exact wpAny_truthy_list pl.isList (by simp only[List.size_toArray];omega) ⟨H,I.tok _,by rw[zAy r];exact q⟩
  ·subst e'
   obtain⟨its,r,pl,hz⟩:=I.tuple hx
   have hlen:=r.length
   exact truthy_tuple pl (by simp only[List.size_toArray];omega) ⟨H,I.tok _,by rw[zAy r];exact q⟩
  ·subst e'
   obtain⟨hz,hS,vs,r,m⟩:kvs.length<=sizeLine/\(p == sysModules)=false/\∃ vs,KV kvs vs/\s.heap.DictOf (zDP X.prog X.w) p vs:=I.hok p _ hx
   have hlen:kvs.length=vs.length:=Paired.length r
   exact wpAny_truthy_dict hS m (by omega) ⟨H,I.tok _,by rw[zEZ r];exact q⟩
 | _=>exact (show False from e).elim
theorem zDy (ha:PE X a ta) (he:∀ We,isTrue a X.env We=(do let v ← We;standAt a.pos;holding [v] (truthy v))) :
  PT X a (fun σ H Q=>ta σ H fun x H'=>∃ k,zNC X.K x H' k/\Q k H'):=by
 intro pins s σ H Q I h
 exact isTrue_plain (thn (ha pins s σ H _ I h) fun v s1 ⟨x,H1,I1,r1,q1⟩=>zLU pins s1 σ H1 x v Q I1 r1 q1) (he _)
theorem Zm:OpR X (binaryOp .Add) (fun x y H Q=>∃ i j,x=.str i/\y=.str j/\i.length+j.length<=sizeLine/\Q (.str (i++j)) H):=by
 intro pins s σ H x y v u Q I rx ry h
 obtain⟨i,j,rfl,rfl,hz,q⟩:=h
 obtain⟨t,rfl⟩:=rx
 obtain⟨t',rfl⟩:=ry
 exact add_str (fun t' tk=>⟨.str (i++j),H,I.tok _,⟨_,rfl⟩,q⟩) hz
theorem zFh {x:V} {us:List Value} (r:Vals [x] us):∃ u,us=[u]/\RelV x u:=by
 cases r with
 | cons r1 r2=>cases r2;exact⟨_,rfl,r1⟩
theorem zK3 {x y:V} {us:List Value} (r:Vals [x,y] us):∃ u w',us=[u,w']/\RelV x u/\RelV y w':=by
 cases r with
 | cons r1 r2 =>
  cases r2 with
  | cons r3 r4=>cases r4;exact⟨_,_,rfl,r1,r3⟩
theorem zH6:ZD X (.builtin "ord") (fun xs H Q=>∃ x,xs=[.str x]/\x.length=1/\Q (.int (x.cps.getD 0 0:Nat)) H):=by
 intro pins s σ H xs us Q I r h
 obtain⟨x,rfl,hz,q⟩:=h
 obtain⟨u,rfl,t,rfl⟩:=zFh r
 exact ord_of_one hz ⟨.int _,H,I.tok _,⟨_,rfl⟩,q⟩
end
end L2
namespace L2
open PySem PySem.Spec PyProof.Rows
structure ObjM (h:Heap) (x dx C:Addr) (mA:Str->Option Value):Prop where
 obj:h.get? x=some (W.instObj C dx)
 ns:h.Ns1 dx mA
 ne:dx ≠ x
theorem zGp {h:Heap} {dx:Addr} {mA:Str->Option Value} (n:h.Ns1 dx mA):∃ od,h.get? dx=some od/\∀ name,PySem.W.lookIn name od=some (mA name):=by
 obtain⟨o,es,ep,ho,hd,hk,_,hm⟩:=n
 refine⟨o,ho,fun name=>?_⟩
 have e:=hm name
 unfold nsFind findBy at e
 rw[← Array.find?_toList] at e
 unfold PySem.W.lookIn
 rw[hd]
 dsimp only
 split
 ·rename_i y q
  rw[q] at e
  exact congrArg some e
 ·rename_i q
  rw[q] at e
  have a:es.toList.any (·.refKey)=false:=by
   rw[List.any_eq_false]
   intro y hy
   obtain⟨z,t,hkey⟩:=hk y (Array.mem_toList_iff.mp hy)
   simp[DictEntry.refKey,hkey]
  have a':¬ es.toList.any (·.refKey)=true:=by rw[a];exact Bool.false_ne_true
  rw[if_neg a']
  exact congrArg some e
theorem ObjM.look {h:Heap} {x dx C:Addr} {mA:Str->Option Value} (I:ObjM h x dx C mA):∃ od,PySem.W.InstAt h x (W.instObj C dx) C (some od)/\∀ name,PySem.W.lookIn name od=some (mA name) :=
 let ⟨od,ho,hl⟩:=zGp I.ns
 ⟨od,⟨I.obj,rfl,rfl,ho⟩,hl⟩
section
variable {prog:Program} {w:World} {A:Around} {E:Value->Shared->Prop} {s:Shared} {K:W.Frag} {x dx C f:Addr} {mA:Str->Option Value} {name:Str} {v:Value}
theorem zJa {expr:Bool} {Q:Value->Shared->Prop} (X:K.In s.heap) (I:ObjM s.heap x dx C mA) (hg:W.plainGet K C name=true) (hh:PySem.W.hasDictIn K C=true)
  (ha:W.findIn K (.ref C) name=some none) (hv:mA name=some v) (hv':PySem.W.handedIn v=true) (h:Q v { s with toks:=s.toks+1 }) :
  wpAny (model prog w) A (getAttr (.ref x) name expr) Q E s:=by
 obtain⟨od,J,hl⟩:=I.look
 exact PySem.W.get_value X J (PySem.W.plainGet_of hg).1 (PySem.W.findObj_own hh ha rfl (by rw[hl,hv])) hv' h
theorem zIj {pl:Sem Bool} {Q:Value × List Value->Shared->Prop} (X:K.In s.heap) (I:ObjM s.heap x dx C mA) (hg:W.plainGet K C name=true)
  (hf:W.findIn K (.ref C) name=some (some (.ref f))) (ht:W.isFn K (.ref f)=true) (hv:mA name=none) (h:Q (.ref f,[.ref x]) s) :
  wpAny (model prog w) A (getMethod (.ref x) name pl) Q E s:=by
 obtain⟨od,J,hl⟩:=I.look
 exact PySem.W.method_fn X J (PySem.W.plainGet_of hg).1 (PySem.W.plainGet_of hg).2 hf (beq_iff_eq.mp ht) (by show (PySem.W.lookIn name od).map (·.isSome)=some false;rw[hl,hv];rfl) h
theorem zJf {ns:List Str} {Q:Unit->Shared->Prop} (X:K.In s.heap) (I:ObjM s.heap x dx C mA)
  (hs:W.findIn K (.ref C) "__setattr__" = some (some (.builtin "object.__setattr__"))) (hp:PySem.W.plainOver K C=true) (ht:PySem.W.takerIn K C name=some none) (hh:PySem.W.hasDictIn K C=true)
  (hw:PySem.Within mA ns) (hsz:ns.length<=sizeLine)
  (h:∀ h',ObjM h' x dx C (fun y=>if y=name then some v else mA y)->Heap.SameBut dx s.heap h'->Q () { s with heap:=h',toks:=s.toks+2 }) :
  wpAny (model prog w) A (setAttr (.ref x) name v) Q E s:=by
 obtain⟨od,J,hl⟩:=I.look
 refine PySem.W.set_plain X J hs (PySem.W.osa_open (s:={ s with toks:=s.toks+1 }) (r:=none) X J hp ht fun b=>?_)
 obtain⟨cd,hc,hd'⟩:=PySem.W.any_some hh
 have hx:s.heap.get? x=some ⟨.ref C,some dx,.plain,#[]⟩:=I.obj
 refine wpAny_bind (wpAny_pure (wpAny_bind (wpAny_bind (wpAny_loadPart hx (wpAny_bind (PySem.W.Looks.here (s:={ s with toks:=s.toks+1 }) (PySem.W.looks_clsIn X hc) ?_))))))
 rw[hd']
 refine wpAny_pure (a:=some dx) (wpAny_bind (wpAny_pure (wpAny_bind ?_)))
 refine wpAny_nsSet1 (s:={ s with toks:=s.toks+1 }) I.ns fun h' hn2 hs2=>?_
 obtain⟨oD,esD,epD,hoD,hdD,hcD⟩:=hn2.count (PySem.Within.cons name v hw)
 refine wpAny_bind (wpAny_lookBehind hoD (by rw[hdD];exact pastItsLine_dict (Nat.le_trans hcD (by rw[List.length_cons];omega))) ?_)
 exact wpAny_pure (h _ ⟨(hs2.2 _ (Ne.symm I.ne)).trans I.obj,hn2,I.ne⟩ hs2)
theorem zD8 {R:Result->Shared->Prop} {vs:List Value} {kw:List (Str × Value)} (X:K.In s.heap) (hm:PySem.W.makesIn K C=true)
  (hi:W.findIn K (.ref C) "__init__" = some (some (.ref f))) (hf:PySem.W.typeIn K (.ref f)=some (.type "function"))
  (h:codeAny (model prog w) (A.under (.builtin "type.__call__" ⟨.ref C::vs,kw⟩)) (.call (.ref f) ⟨.ref (s.heap.objs.size+1)::vs,kw⟩) (PySem.W.InitBack (s.heap.objs.size+1) R)
   { s with heap:=(s.heap.push W.emptyDict).push (W.instObj C s.heap.objs.size) }) :
  codeAny (model prog w) A (.call (.ref C) ⟨vs,kw⟩) R s:=by
 obtain⟨hh,g,d,t,os⟩:=s
 exact PySem.W.make_core (PySem.W.makes_of X hm) (PySem.W.looks_findIn X hi) (fun self=>PySem.W.bind_fn X self hf) (.inl rfl) h
end
def Qr (f:Str) (v:V):List (Str × V)->List (Str × V)
 | []=>[(f,v)]
 | (g,x)::r=>if g=f then (g,v)::r else (g,x)::Qr f v r
theorem zAJ (f g:Str) (v:V):∀ fs:List (Str × V),(Qr f v fs).lookup g=if g=f then some v else fs.lookup g
 | []=>by
  show List.lookup g [(f,v)]=_
  by_cases h:g=f
  ·have hb:(g == f)=true:=beq_iff_eq.mpr h
   simp only[List.lookup,hb,if_pos h]
  ·have hb:(g == f)=false:=beq_eq_false_iff_ne.mpr h
   simp only[List.lookup,hb,if_neg h]
 | (k,x)::r=>by
  have ih:=zAJ f g v r
  rw[show Qr f v ((k,x)::r)=(if k=f then (k,v)::r else (k,x)::Qr f v r) from rfl]
  by_cases hk:k=f
  ·rw[if_pos hk]
   by_cases h:g=k
   ·have hb:(g == k)=true:=beq_iff_eq.mpr h
    simp only[List.lookup,hb,if_pos (h.trans hk)]
   ·have hb:(g == k)=false:=beq_eq_false_iff_ne.mpr h
    simp only[List.lookup,hb,if_neg (fun e:g=f=>h (e.trans hk.symm))]
  ·rw[if_neg hk]
   by_cases h:g=k
   ·have hb:(g == k)=true:=beq_iff_eq.mpr h
    simp only[List.lookup,hb,if_neg (fun e:g=f=>hk (h.symm.trans e))]
   ·have hb:(g == k)=false:=beq_eq_false_iff_ne.mpr h
    simp only[List.lookup,hb]
    exact ih
theorem Jw (f:Str) (v:V):∀ fs:List (Str × V),f∈(Qr f v fs).map (·.1)/\∀ g,g∈fs.map (·.1)->g∈(Qr f v fs).map (·.1)
 | []=>⟨by simp[Qr],fun g h=>by simp at h⟩
 | (k,x)::r=>by
  obtain⟨i1,i2⟩:=Jw f v r
  rw[show Qr f v ((k,x)::r)=(if k=f then (k,v)::r else (k,x)::Qr f v r) from rfl]
  by_cases hk:k=f
  ·rw[if_pos hk]
   subst hk
   exact⟨by simp,fun g h=>by simpa using h⟩
  ·rw[if_neg hk]
   refine⟨?_,fun g h=>?_⟩
   ·rw[List.map_cons]
    exact List.mem_cons_of_mem _ i1
   ·rw[List.map_cons] at h ⊢
    rcases List.mem_cons.mp h with e | e
    ·exact List.mem_cons.mpr (.inl e)
    ·exact List.mem_cons_of_mem _ (i2 g e)
theorem Qo (f:Str) (v:V):∀ fs:List (Str × V),(Qr f v fs).length<=fs.length+1
 | []=>by simp[Qr]
 | (k,x)::r=>by
  have ih:=Qo f v r
  rw[show Qr f v ((k,x)::r)=(if k=f then (k,v)::r else (k,x)::Qr f v r) from rfl]
  by_cases hk:k=f
  ·rw[if_pos hk,List.length_cons,List.length_cons];omega
  ·rw[if_neg hk,List.length_cons,List.length_cons];omega
theorem RelO.some_of {v:V} {o:Option Value} (r:RelO (some v) o):∃ u,o=some u/\RelV v u:=by
 cases o with
 | none=>exact (show False from r).elim
 | some u=>exact⟨u,rfl,r⟩
theorem RelO.none_of {o:Option Value} (r:RelO none o):o=none:=by
 cases o with
 | none=>rfl
 | some u=>exact (show False from r).elim
theorem zG1 {v:V} {u:Value} (r:RelV v u):PySem.W.handedIn u=true:=by
 cases v with
 | non=>cases (show u=Value.none from r);rfl
 | bl b=>cases (show u=Value.bool b from r);rfl
 | int i=>obtain⟨t,e⟩:=(show ∃ t,u=Value.int i t from r);cases e;rfl
 | str x=>obtain⟨t,e⟩:=(show ∃ t,u=Value.str x t from r);cases e;rfl
 | byt b=>obtain⟨t,e⟩:=(show ∃ t,u=Value.bytes b t from r);cases e;rfl
 | flt b=>obtain⟨t,e⟩:=(show ∃ t,u=Value.float b t from r);cases e;rfl
 | ref a=>cases (show u=Value.ref a from r);rfl
 | ty n=>cases (show u=Value.type n from r);rfl
section
variable {P:Program} {w:World} {H H':Hp} {h h':Heap} {a C dx:Addr} {fs fs':List (Str × V)}
theorem zAk (hok:HOk P w H h) (e:H a=some (.ins C dx fs)):∃ mA,ObjM h a dx C mA/\(∀ f,RelO (fs.lookup f) (mA f))/\PySem.Within mA (fs.map (·.1))/\fs.length<=1000/\H dx=some (.own a):=by
 obtain⟨d,z,ne,ob,mA,n,r,q⟩:=(show ObjOk P w H h a (.ins C dx fs) from hok a _ e)
 exact⟨mA,⟨ob,n,ne⟩,r,q,z,d⟩
end
structure Cls (K:W.Frag) (C:Addr):Prop where
 pg:W.plainGet K C Str.empty=true
 hd:PySem.W.hasDictIn K C=true
 po:PySem.W.plainOver K C=true
 sa:W.findIn K (.ref C) "__setattr__" = some (some (.builtin "object.__setattr__"))
theorem Cls.get {K:W.Frag} {C:Addr} (c:Cls K C) (f:Str):W.plainGet K C f=true:=c.pg
def NoAttr (K:W.Frag) (C:Addr) (f:Str):Prop:=W.findIn K (.ref C) f=some none
theorem NoAttr.taker {K:W.Frag} {C:Addr} {f:Str} (n:NoAttr K C f):PySem.W.takerIn K C f=some none:=by
 unfold PySem.W.takerIn
 rw[show W.findIn K (.ref C) f=some none from n]
 rfl
structure Meth (K:W.Frag) (C:Addr) (m:Str) (f:Addr):Prop where
 at_:W.findIn K (.ref C) m=some (some (.ref f))
 fn:W.isFn K (.ref f)=true
 kp:W.keepIn K (.ref f)=true
section
variable {X:Cx} {pins:List (Addr × Obj)} {σ:St} {H:Hp} {s:Shared} {a C dx:Addr} {fs:List (Str × V)} {f:Str} {v:V} {A:Around} {E:Value->Shared->Prop}
theorem zAo {b:Bool} {Q:Value->Shared->Prop} (I:Inv X pins σ H s) (e:H a=some (.ins C dx fs)) (c:Cls X.K C) (n:NoAttr X.K C f) (l:fs.lookup f=some v)
  (h:∀ u s',Inv X pins σ H s'->RelV v u->Q u s'):wpAny (model X.prog X.w) A (getAttr (.ref a) f b) Q E s:=by
 obtain⟨mA,O,r,_,_,_⟩:=zAk I.hok e
 obtain⟨u,hu,ru⟩:=RelO.some_of (v:=v) (o:=mA f) (by rw[← l];exact r f)
 exact zJa I.kIn O (c.get f) c.hd n hu (zG1 ru) (h u _ (I.tok _) ru)
theorem Zb {m:Str} {g:Addr} {pl:Sem Bool} {Q:Value × List Value->Shared->Prop} (I:Inv X pins σ H s) (e:H a=some (.ins C dx fs)) (c:Cls X.K C) (k:Meth X.K C m g) (l:fs.lookup m=none)
  (h:Q (.ref g,[.ref a]) s):wpAny (model X.prog X.w) A (getMethod (.ref a) m pl) Q E s:=by
 obtain⟨mA,O,r,_,_,_⟩:=zAk I.hok e
 have hn:mA m=none:=RelO.none_of (by rw[← l];exact r m)
 exact zIj I.kIn O (c.get m) k.at_ k.fn hn h
theorem zAq {y:V} {u:Value} {Q:Unit->Shared->Prop} (I:Inv X pins σ H s) (e:H a=some (.ins C dx fs)) (c:Cls X.K C) (n:NoAttr X.K C f) (hl:fs.length < 1000) (ry:RelV y u)
  (h:∀ s',Inv X pins σ (upd H a (.ins C dx (Qr f y fs))) s'->Q () s'):wpAny (model X.prog X.w) A (setAttr (.ref a) f u) Q E s:=by
 obtain⟨mA,O,r,wi,_,ho⟩:=zAk I.hok e
 have hz:(fs.map (·.1)).length<=sizeLine:=by rw[List.length_map,sizeLine_eq];omega
 refine zJf I.kIn O c.sa c.po n.taker c.hd wi hz fun h' O' sb=>h _ ?_
 have hd:∃ o,h'.get? dx=some o:=let ⟨o,_,_,e',_⟩:=O'.ns;⟨o,e'⟩
 refine I.write (x:=a) (e:=dx) (by rw[e];exact True.intro) (.inr ho) (fun b q hb z=>(sb.2 b hb).trans z) hd ?_
 refine⟨by rw[QG O.ne];exact ho,?_,O.ne,O'.obj,_,O'.ns,fun g=>?_,fun g hg=>?_⟩
 ·have:=Qo f y fs;omega
 ·show RelO ((Qr f y fs).lookup g) (if g=f then some u else mA g)
  rw[zAJ]
  by_cases q:g=f
  ·rw[if_pos q,if_pos q];exact ry
  ·rw[if_neg q,if_neg q];exact r g
 ·by_cases q:g=f
  ·rw[q];exact (Jw f y fs).1
  ·refine (Jw f y fs).2 g (wi g fun z=>hg ?_)
   show (if g=f then some u else mA g)=none
   rw[if_neg q];exact z
theorem Inv.made (I:Inv X pins σ H s):Inv X pins σ (upd (upd H s.heap.objs.size (.own (s.heap.objs.size+1))) (s.heap.objs.size+1) (.ins C s.heap.objs.size []))
  { s with heap:=(s.heap.push W.emptyDict).push (W.instObj C s.heap.objs.size) }:=by
 have e1:(s.heap.push W.emptyDict).get? s.heap.objs.size=some W.emptyDict:=Heap.get?_push_size s.heap rfl
 have e2:((s.heap.push W.emptyDict).push (W.instObj C s.heap.objs.size)).get? (s.heap.objs.size+1)=some (W.instObj C s.heap.objs.size):=by
  have:=Heap.get?_push_size (s.heap.push W.emptyDict) (o:=W.instObj C s.heap.objs.size) rfl
  rwa [Heap.size_push] at this
 have e3:(s.heap.push W.emptyDict).Ns s.heap.objs.size (fun _=>none):=⟨W.emptyDict,#[],_,e1,rfl,(fun e he=>absurd he (by simp)),fun _=>rfl⟩
 have I1:=I.laid (a:=s.heap.objs.size) (o:=.own (s.heap.objs.size+1)) (h':=s.heap.push W.emptyDict) (t':=s.toks) (fun b u q=>Heap.get?_push_of_some _ q) (Nat.le_refl _) ⟨_,e1⟩
 refine I1.laid (a:=s.heap.objs.size+1) (o:=.ins C s.heap.objs.size []) (t':=s.toks) (fun b u q=>Heap.get?_push_of_some _ q) (Nat.le_of_eq (Heap.size_push _ _)) ?_
 have ne:s.heap.objs.size ≠ s.heap.objs.size+1:=Nat.ne_of_lt (Nat.lt_succ_self _)
 refine⟨by rw[QG ne,QF],Nat.zero_le _,ne,e2,fun _=>none,(Heap.Ns1.of_empty e3).at fun o q=>Heap.get?_push_of_some _ q,fun _=>True.intro,fun y hy=>absurd rfl hy⟩
theorem zKF {prog:Program} {w:World} {env:Env} {e:Expr} {f:Str} {pos:Pos} {s:Shared} {Q:Value->Shared->Prop} (hb:attributeBase e f env (eval e env)=eval e env)
  (h:wpAny (model prog w) A (eval e env) (fun o s₁=>wpAny (model prog w) A (getAttr o f true) Q E s₁) E s):wpAny (model prog w) A (eval (.Attribute e f pos) env) Q E s :=
 Attribute_any_ h (by rw[arm_eval_Attribute,hb])
end
def zMZ (X:Cx) (op:Operator) (rd:V->V->Hp->VK->Prop):Prop :=
 ∀ (pins:List (Addr × Obj)) (s:Shared) (σ:St) (H:Hp) (x y:V) (u v:Value) (Q:VK),Inv X pins σ H s->RelV x u->RelV y v->rd x y H Q->wpAny (model X.prog X.w) X.A (inplaceOp op u v) (EP X pins σ Q) X.xe s
section
variable {X:Cx} {o e value:Expr} {f:Str} {pos pos' tpos:Pos} {ta tv:TE}
def zMd:V->V->Hp->VK->Prop:=fun x y H Q=>∃ i j,x=.int i/\y=.int j/\Q (.int (i+j)) H
theorem zA7:zMZ X .Add zMd:=by
 rintro pins s σ H x y u v Q I rx ry ⟨i,j,rfl,rfl,q⟩
 obtain⟨t,rfl⟩:=(show ∃ t,u=Value.int i t from rx)
 obtain⟨t',rfl⟩:=(show ∃ t',v=Value.int j t' from ry)
 exact PyProof.Rows.iadd_int ⟨.int (i+j),H,I.tok _,⟨_,rfl⟩,q⟩
end
section
variable {X:Cx} {pins:List (Addr × Obj)} {σ:St} {H:Hp} {s:Shared} {A:Around} {E:Value->Shared->Prop} {Q:Value->Shared->Prop} {c:Value} {b:Bool}
inductive TyOf (K:W.Frag) (H:Hp):V->Value->Prop where
 | non:TyOf K H .non (.type "NoneType")
 | bl (x:Bool):TyOf K H (.bl x) (.type "bool")
 | int (i:Int):TyOf K H (.int i) (.type "int")
 | str (x:Str):TyOf K H (.str x) (.type "str")
 | flt (x:UInt64):TyOf K H (.flt x) (.type "float")
 | lst {a:Addr} {xs:List V} (e:H a=some (.lst xs)):TyOf K H (.ref a) (.type "list")
 | frz {a:Addr} {o:Obj} {xs:List V} (e:H a=some (.frz o (.lst xs))):TyOf K H (.ref a) (.type "list")
 | tup {a:Addr} {xs:List V} (e:H a=some (.tup xs)):TyOf K H (.ref a) (.type "tuple")
 | dK {a:Addr} {kvs:List (Key × V)} (e:H a=some (.dK kvs)):TyOf K H (.ref a) (.type "dict")
 | dT {a:Addr} {kvs:List (List Key × V)} (e:H a=some (.dT kvs)):TyOf K H (.ref a) (.type "dict")
 | ins {a C dx : Addr} {fs : List (Str × V)} (e : H a = some (.ins C dx fs)) (cl : Cls K C) (ha : W.findIn K (.ref C) "__class__" = some (some (.builtin "object.__class__")))
   (hn:PySem.W.specialIn K (.builtin "object.__class__") "__get__" = some (some (.builtin "getset_descriptor.__get__"))) (htk:PySem.W.takesIn K (.builtin "object.__class__")=some true)
   (hm:W.mroIn K C (.type "object")=some true):TyOf K H (.ref a) (.ref C)
theorem zHC {x:V} {u t:Value} (I:Inv X pins σ H s) (rx:RelV x u) (ty:TyOf X.K H x t) (e:W.kitOne X.K t c=some b) (h:∀ tk,Q (.bool b) { s with toks:=tk }) :
  wpAny (model X.prog X.w) A (call (.builtin "isinstance") [u,c]) Q E s:=by
 cases ty with
 | non=>cases (show u=Value.none from rx);exact PySem.W.kia_one PySem.W.kitx_none I.kIn True.intro e (fun z=>nomatch z) h
 | bl y=>cases (show u=Value.bool y from rx);exact PySem.W.kia_one PySem.W.kitx_bool I.kIn True.intro e (fun z=>nomatch z) h
 | int i=>obtain⟨t,q⟩:=(show ∃ t,u=Value.int i t from rx);cases q;exact PySem.W.kia_one PySem.W.kitx_int I.kIn True.intro e (fun z=>nomatch z) h
 | str y=>obtain⟨t,q⟩:=(show ∃ t,u=Value.str y t from rx);cases q;exact PySem.W.kia_one PySem.W.kitx_str I.kIn True.intro e (fun z=>nomatch z) h
 | flt y=>obtain⟨t,q⟩:=(show ∃ t,u=Value.float y t from rx);cases q;exact PySem.W.kia_one PySem.W.kitx_float I.kIn True.intro e (fun z=>nomatch z) h
 | @lst a xs ea =>
  cases (show u=Value.ref a from rx)
  obtain⟨_,_,n,_,h1⟩:=(show ObjOk X.prog X.w H s.heap a (.lst xs) from I.hok a _ ea)
  exact PySem.W.kia_one PySem.W.kitx_list I.kIn ⟨_,h1,rfl⟩ e (fun z=>nomatch z) h
 | @frz a ob xs ea =>
  cases (show u=Value.ref a from rx)
  obtain⟨_,_,_,n,_,h1⟩:=(show ObjOk X.prog X.w H s.heap a (.frz ob (.lst xs)) from I.hok a _ ea)
  exact PySem.W.kia_one PySem.W.kitx_list I.kIn ⟨_,h1,rfl⟩ e (fun z=>nomatch z) h
 | @tup a xs ea =>
  cases (show u=Value.ref a from rx)
  obtain⟨_,_,_,p⟩:=(show ObjOk X.prog X.w H s.heap a (.tup xs) from I.hok a _ ea)
  obtain⟨o,h1,h2,_⟩:=p
  exact PySem.W.kia_one PySem.W.kitx_tuple I.kIn ⟨o,h1,h2⟩ e (fun z=>nomatch z) h
 | @dK a kvs ea =>
  cases (show u=Value.ref a from rx)
  obtain⟨_,_,vs,_,p⟩:=(show ObjOk X.prog X.w H s.heap a (.dK kvs) from I.hok a _ ea)
  obtain⟨o,es,ep,h1,h2,_⟩:=p
  exact PySem.W.kia_one PySem.W.kitx_dict I.kIn ⟨o,h1,h2.1⟩ e (fun z=>nomatch z) h
 | @dT a kvs ea =>
  cases (show u=Value.ref a from rx)
  obtain⟨_,_,xs,_,o,es,ep,h1,h2,_⟩:=(show ObjOk X.prog X.w H s.heap a (.dT kvs) from I.hok a _ ea)
  exact PySem.W.kia_one PySem.W.kitx_dict I.kIn ⟨o,h1,h2.1⟩ e (fun z=>nomatch z) h
 | @ins a C dx fs ea cl ha hn htk hm =>
  cases (show u=Value.ref a from rx)
  obtain⟨mA,O,_⟩:=zAk I.hok ea
  obtain⟨od,J,_⟩:=O.look
  exact PySem.W.kia_one (PySem.W.kitx_own (cl.get _) cl.hd ha hn htk hm) I.kIn J e (fun z=>nomatch z) h
end
end L2
namespace L2
open PySem PySem.Spec PyProof.Rows
structure Room (k:Nat) (A:Around):Prop where
 hd:A.handled=none
 dp:A.depth+3*k+5 < recursionLimit
 un:A.units+16*k+200 < cLine
theorem Room.mono {j k:Nat} {A:Around} (r:Room k A) (h:j<=k):Room j A:=⟨r.hd,by have:=r.dp;omega,by have:=r.un;omega⟩
theorem Room.deeper {k:Nat} {A:Around} (r:Room (k+1) A) (env:Env):Room k (A.deeper env) :=
 ⟨r.hd,by have:=r.dp;show A.depth+1+3*k+5 < _;omega,by have:=r.un;show A.units+3+16*k+200 < _;omega⟩
theorem zEd {A:Around} {C:Addr} {us:List Value} {kw:List (Str × Value)}:(A.under (.builtin "type.__call__" ⟨.ref C::us,kw⟩)).depth=A.depth+1:=by
 first | rfl | simp[Around.under,Code.weight,Code.isCreation,Code.isGuard,Code.isCaller,Code.frames,Code.isFrame,guardIds]
theorem zEV {A:Around} {C:Addr} {us:List Value} {kw:List (Str × Value)}:(A.under (.builtin "type.__call__" ⟨.ref C::us,kw⟩)).units=A.units+1:=by
 first | rfl | simp[Around.under,Code.cUnits,Code.frames,Code.isFrame]
theorem Room.make {k:Nat} {A:Around} (r:Room (k+1) A) (C:Addr) (us:List Value) (kw:List (Str × Value)):Room k (A.under (.builtin "type.__call__" ⟨.ref C::us,kw⟩)) :=
 ⟨r.hd,by have:=r.dp;rw[zEd];omega,by have:=r.un;rw[zEV];omega⟩
theorem Room.depth {k:Nat} {A:Around} (r:Room k A):A.depth < recursionLimit:=by have:=r.dp;omega
theorem Room.units {k:Nat} {A:Around} (r:Room k A):A.units+64 < cLine:=by have:=r.un;omega
def zHG:TA:=fun _ H Q=>Q [] H
def zHr (ta:TE) (tr:TA):TA:=fun σ H Q=>ta σ H fun x H1=>tr σ H1 fun xs H2=>Q (x::xs) H2
section
variable {X:Cx} {e:Expr} {es:List Expr} {te:TE} {t:TA} {pos:Pos}
theorem QD:PA X [] zHG:=fun _ _ _ _ H Q I h=>Calls.spliced_nil ⟨[],H,I,.nil,h⟩
theorem QA (ha:PE X e te) (hr:PA X es t) (hs:starEach (e::es) X.env=(false,eval e X.env)::starEach es X.env:=by rfl):PA X (e::es) (zHr te t):=by
 intro pos pins s σ H Q I h
 rw[hs]
 show wpAny _ _ (spliced ((false,eval e X.env)::backTo pos (starEach es X.env))) _ _ s
 refine Calls.spliced_cons (thn (ha pins s σ H _ I h) fun u s1 ⟨x,H1,I1,r1,q1⟩=>?_)
 exact thn (hr pos pins s1 σ H1 _ I1 q1) fun us s2 ⟨xs,H2,I2,r2,q2⟩=>⟨x::xs,H2,I2,.cons r1 r2,q2⟩
def zMr (t:TA):TE:=fun σ H Q=>t σ H fun xs H1=>xs.length<=sizeLine/\∀ p,H1 p=none->Q (.ref p) (upd H1 p (.tup xs))
def zMX (t:TA):TE:=fun σ H Q=>t σ H fun xs H1=>xs.length<=sizeLine/\∀ p,H1 p=none->Q (.ref p) (upd H1 p (.lst xs))
theorem YI {x1} (h:PA X es t):PE X (.Tuple es x1 pos) (zMr t):=by
 intro pins s σ H Q I hq
 refine wpAny_Tuple_spliced (thn (h pos pins s σ H _ I hq) fun us s1 ⟨xs,H1,I1,r,z,q⟩=>⟨by rw[← r.length];exact z,?_⟩)
 have hf:H1 s1.heap.objs.size=none:=I1.hok.fresh (Nat.le_refl _)
 refine⟨.ref s1.heap.objs.size,upd H1 s1.heap.objs.size (.tup xs),I1.laid (t':=s1.toks) (fun b u e=>Heap.get?_push_of_some _ e) (Nat.le_refl _) ?_,rfl,q _ hf⟩
 exact⟨z,us,r,⟨_,Heap.get?_push_size _ rfl,rfl,_,rfl⟩⟩
theorem YK (h:PA X es t):PE X (.List es pos) (zMX t):=by
 intro pins s σ H Q I hq
 refine wpAny_List_spliced (thn (h pos pins s σ H _ I hq) fun us s1 ⟨xs,H1,I1,r,z,q⟩=>⟨by rw[← r.length];exact z,?_⟩)
 have hf:H1 s1.heap.objs.size=none:=I1.hok.fresh (Nat.le_refl _)
 refine⟨.ref s1.heap.objs.size,upd H1 s1.heap.objs.size (.lst xs),I1.laid (t':=s1.toks) (fun b u e=>Heap.get?_push_of_some _ e) (Nat.le_refl _) ?_,rfl,q _ hf⟩
 exact⟨z,us,0,r,Heap.get?_push_size _ rfl⟩
end
abbrev Sp:=List V->Hp->VK->XK->Prop
abbrev CXT:=List Env->Hp->Shared->XK->Value->Shared->Prop
structure Env0 (P:Program) (w:World) (K:W.Frag) (mg:Str->Option Value) (base:Heap) (A:Around) (outer:List Env) (s:Shared) (H:Hp):Prop where
 frames:A.frames=some outer
 mod:Mod K mg base
 bs:∀ b o,base.get? b=some o->s.heap.get? b=some o/\H b=none
 bsz:base.objs.size<=s.heap.objs.size
 funs:s.heap.FunFrames base outer
 frf:∀ b∈frs outer,H b=none
 hok:HOk P w H s.heap
 bare:AllBare s.gens
def CE (outer:List Env) (P:Program) (w:World) (H:Hp) (s:Shared) (Q:VK) (u:Value) (s':Shared):Prop :=
 ∃ v H',s'.os=s.os/\AllBare s'.gens/\Un (frs outer) [] H H' s.heap s'.heap/\HOk P w H' s'.heap/\RelV v u/\Q v H'
def CR (CX:CXT) (outer:List Env) (P:Program) (w:World) (H:Hp) (s:Shared) (Q:VK) (E:XK) (r:Result) (s':Shared):Prop :=
 match r with
 | .ok (.ret u)=>CE outer P w H s Q u s'
 | .ok _=>False
 | .error e=>CX outer H s E e s'
structure FnOk (P:Program) (w:World) (K:W.Frag) (mg:Str->Option Value) (base:Heap) (CX:CXT) (k:Nat) (f:Addr) (fd:FuncData) (ps:List Str) (sp:Sp):Prop where
 len:∀ vs H Q E,sp vs H Q E->vs.length=ps.length
 run:∀ (A:Around) (outer:List Env) (s:Shared) (H:Hp) (args:Args) (us:List Value) (vs:List V) (Q:VK) (E:XK),Room k A->Env0 P w K mg base A outer s H->BindsTo s fd args (ps.zip us)->Vals vs us->sp vs H Q E ->
  codeAny (model P w) A (.call (.ref f) args) (CR CX outer P w H s Q E) s
theorem FnOk.mono {P:Program} {w:World} {K:W.Frag} {mg:Str->Option Value} {base:Heap} {CX:CXT} {j k:Nat} {f:Addr} {fd:FuncData} {ps:List Str} {sp:Sp} (F:FnOk P w K mg base CX j f fd ps sp) (h:j<=k) :
  FnOk P w K mg base CX k f fd ps sp:=⟨F.len,fun A outer s H args us vs Q E hr=>F.run A outer s H args us vs Q E (hr.mono h)⟩
theorem FnOk.imp {P:Program} {w:World} {K:W.Frag} {mg:Str->Option Value} {base:Heap} {CX:CXT} {k:Nat} {f:Addr} {fd:FuncData} {ps:List Str} {sp sp':Sp} (F:FnOk P w K mg base CX k f fd ps sp)
  (h:∀ vs H Q E,sp' vs H Q E->sp vs H Q E):FnOk P w K mg base CX k f fd ps sp' :=
 ⟨fun vs H Q E q=>F.len vs H Q E (h _ _ _ _ q),fun A outer s H args us vs Q E hr he hb hv hs=>F.run A outer s H args us vs Q E hr he hb hv (h _ _ _ _ hs)⟩
theorem Env0.make {P:Program} {w:World} {K:W.Frag} {mg:Str->Option Value} {base:Heap} {A:Around} {outer:List Env} {s:Shared} {H:Hp} (e:Env0 P w K mg base A outer s H) (C:Addr) (us:List Value) (kw:List (Str × Value)) :
  Env0 P w K mg base (A.under (.builtin "type.__call__" ⟨.ref C::us,kw⟩)) outer s H:=⟨by first | exact e.frames | (simpa [Around.under,Code.envs,Code.isFrame,pushEnvs] using e.frames),e.mod,e.bs,e.bsz,e.funs,e.frf,e.hok,e.bare⟩
section
variable {X:Cx} {pins:List (Addr × Obj)} {σ:St} {H:Hp} {s s':Shared}
theorem Inv.env0 (I:Inv X pins σ H s):Env0 X.prog X.w X.K X.mg X.base X.A X.stack s H :=
 ⟨I.ok.frames,I.ok.mod,I.bs,Nat.le_trans I.ok.bsz I.sz,I.stack,I.stkFree,I.hok,I.bare⟩
theorem Inv.after {Q:VK} {u:Value} (I:Inv X pins σ H s) (h:CE X.stack X.prog X.w H s Q u s'):EP X pins σ Q u s':=by
 obtain⟨v,H',os,bare,un,hok,r,q⟩:=h
 obtain⟨hh,g,d,t,os'⟩:=s'
 obtain rfl:os'=s.os:=os
 exact⟨v,H',I.call (h':=hh) (g':=g) (d':=d) (t':=t) (ch:=[]) un hok bare (fun b z=>absurd z (by simp)),r,q⟩
end
def zIp (sp:Sp) (dvs:List V) (E:XK) (t:TA):TE:=fun σ H Q=>t σ H fun vs H1=>sp (vs++dvs) H1 Q E
def zH2 (C:Addr) (sp:Sp) (dvs:List V) (E:XK) (t:TA):TE:=fun σ H Q=>t σ H fun vs H1=>∀ x dx,H1 x=none->H1 dx=none->dx ≠ x ->
 sp (.ref x::(vs++dvs)) (upd (upd H1 dx (.own x)) x (.ins C dx [])) (fun v H2=>v=.non/\Q (.ref x) H2) E
def Binds (K:W.Frag) (fd:FuncData) (ps:List Str) (ds:List Value):Prop :=
 ∀ (s:Shared) (us:List Value),K.In s.heap->(us++ds).length=ps.length->BindsTo s fd ⟨us,[]⟩ (ps.zip (us++ds))
theorem Binds.all {K:W.Frag} {fd:FuncData} {ps:List Str} (h:∀ us:List Value,us.length=ps.length->bindArgs fd ⟨us,[]⟩=pure (ps.zip us)):Binds K fd ps []:=fun s us _ hl=>by
 rw[List.append_nil] at hl ⊢
 exact .of_eq (h us hl)
def Yo (CX:CXT) (X:Cx) (E:XK):Prop:=∀ (pins:List (Addr × Obj)) (σ:St) (H:Hp) (s:Shared) (e:Value) (s':Shared),Inv X pins σ H s->CX X.stack H s E e s'->X.xe e s'
section
variable {X:Cx} {CX:CXT} {k:Nat} {f C:Addr} {fd:FuncData} {ps:List Str} {sp:Sp} {dvs:List V} {ds:List Value} {E:XK} {x m:Str} {p pos apos:Pos} {e o:Expr} {es:List Expr} {ta:TE} {t:TA}
theorem zDF {pins:List (Addr × Obj)} {σ:St} {H:Hp} {s:Shared} {Q:VK} {us:List Value} {vs:List V} (F:FnOk X.prog X.w X.K X.mg X.base CX k f fd ps sp) (hr:Room k X.A) (hb:Binds X.K fd ps ds) (hd:Vals dvs ds) (hx:Yo CX X E)
  (I:Inv X pins σ H s) (r:Vals vs us) (h:sp (vs++dvs) H Q E):wpAny (model X.prog X.w) X.A (call (.ref f) us) (EP X pins σ Q) X.xe s:=by
 have r2:Vals (vs++dvs) (us++ds):=r.append hd
 have hl:(us++ds).length=ps.length:=by rw[← r2.length];exact F.len _ _ _ _ h
 refine wpAny_call (codeAny_mono (F.run X.A X.stack s H ⟨us,[]⟩ (us++ds) (vs++dvs) Q E hr I.env0 (hb s us I.kIn hl) r2 h) fun r s' hq=>?_)
 cases r with
 | error e=>exact hx pins σ H s e s' I hq
 | ok fl =>
  cases fl with
  | ret u=>exact I.after hq
  | next=>exact False.elim hq
  | brk=>exact False.elim hq
  | cont=>exact False.elim hq
theorem QO (F:FnOk X.prog X.w X.K X.mg X.base CX k f fd ps sp) (hr:Room k X.A) (hg:Gl X x) (hm:X.mg x=some (.ref f)) (hk:W.keepIn X.K (.ref f)=true) (hb:Binds X.K fd ps ds) (hd:Vals dvs ds) (hx:Yo CX X E)
  (ha:PA X (e::es) t) (hdb:(x == ("__debug__" : Str))=false:=by decide) (he:starEach (e::es) X.env=(false,eval e X.env)::starEach es X.env:=by rfl) (hpl:(backTo pos (starEach es X.env)).any (·.1)=false:=by rfl) :
  PE X (.Call (.Name x p) (e::es) [] pos) (zIp sp dvs E t):=by
 intro pins s σ H Q I h
 refine wpAny_Call_Name_kw (Yy I hg hm ?_ hdb)
 refine PySem.W.callWith_K (h₀:=X.base) I.ok.mod.kin hk (thn (ha pos pins s σ H _ I h) fun us s1 ⟨vs,H1,I1,r,q⟩=>⟨I1.kIn,?_⟩) he hpl
 exact zDF F hr hb hd hx I1 r q
structure Mk (K:W.Frag) (C f:Addr):Prop where
 makes:PySem.W.makesIn K C=true
 init:W.findIn K (.ref C) "__init__" = some (some (.ref f))
 fn:W.isFn K (.ref f)=true
 kp:W.keepIn K (.ref C)=true
theorem zDX {pins:List (Addr × Obj)} {σ:St} {H:Hp} {s:Shared} {Q:VK} {us:List Value} {vs:List V} (M:Mk X.K C f) (F:FnOk X.prog X.w X.K X.mg X.base CX k f fd ps sp) (hr:Room (k+1) X.A) (hb:Binds X.K fd ps ds) (hd:Vals dvs ds)
  (hx:Yo CX X E) (I:Inv X pins σ H s) (r:Vals vs us)
  (h:∀ x dx,H x=none->H dx=none->dx ≠ x->sp (.ref x::(vs++dvs)) (upd (upd H dx (.own x)) x (.ins C dx [])) (fun v H2=>v=.non/\Q (.ref x) H2) E) :
  wpAny (model X.prog X.w) X.A (call (.ref C) us) (EP X pins σ Q) X.xe s:=by
 have hq:=h (s.heap.objs.size+1) s.heap.objs.size (I.hok.fresh (Nat.le_succ _)) (I.hok.fresh (Nat.le_refl _)) (Nat.ne_of_lt (Nat.lt_succ_self _))
 have I2:=Inv.made (C:=C) I
 have r2:Vals (V.ref (s.heap.objs.size+1)::(vs++dvs)) (Value.ref (s.heap.objs.size+1)::(us++ds)):=.cons rfl (r.append hd)
 have hl:(Value.ref (s.heap.objs.size+1)::us++ds).length=ps.length:=by
  have e:=r2.length
  rw[F.len _ _ _ _ hq] at e
  exact e.symm
 refine wpAny_call (zD8 (f:=f) I.kIn M.makes M.init (beq_iff_eq.mp M.fn) (codeAny_mono (F.run _ X.stack _ _ ⟨Value.ref (s.heap.objs.size+1)::us,[]⟩ (Value.ref (s.heap.objs.size+1)::(us++ds)) _ _ E (hr.make C us [])
  (I2.env0.make C us []) (hb _ (Value.ref (s.heap.objs.size+1)::us) I2.kIn hl) r2 hq) fun r s' hq'=>?_))
 cases r with
 | error e=>exact hx pins σ _ _ e s' I2 hq'
 | ok fl =>
  cases fl with
  | ret u =>
   obtain⟨v,H',I3,rv,ev,q3⟩:=I2.after hq'
   subst ev
   exact⟨rv,⟨V.ref (s.heap.objs.size+1),H',I3,rfl,q3⟩⟩
  | next=>exact False.elim hq'
  | brk=>exact False.elim hq'
  | cont=>exact False.elim hq'
theorem zDJ (M:Mk X.K C f) (F:FnOk X.prog X.w X.K X.mg X.base CX k f fd ps sp) (hr:Room (k+1) X.A) (hg:Gl X x) (hm:X.mg x=some (.ref C)) (hb:Binds X.K fd ps ds) (hd:Vals dvs ds) (hx:Yo CX X E)
  (ha:PA X (e::es) t) (hdb:(x == ("__debug__" : Str))=false:=by decide) (he:starEach (e::es) X.env=(false,eval e X.env)::starEach es X.env:=by rfl) (hpl:(backTo pos (starEach es X.env)).any (·.1)=false:=by rfl) :
  PE X (.Call (.Name x p) (e::es) [] pos) (zH2 C sp dvs E t):=by
 intro pins s σ H Q I h
 refine wpAny_Call_Name_kw (Yy I hg hm ?_ hdb)
 refine PySem.W.callWith_K (h₀:=X.base) I.ok.mod.kin M.kp (thn (ha pos pins s σ H _ I h) fun us s1 ⟨vs,H1,I1,r,q⟩=>⟨I1.kIn,?_⟩) he hpl
 exact zDX M F hr hb hd hx I1 r q
theorem zIi (M:Mk X.K C f) (F:FnOk X.prog X.w X.K X.mg X.base CX k f fd ps sp) (hr:Room (k+1) X.A) (hg:Gl X x) (hm:X.mg x=some (.ref C)) (hb:Binds X.K fd ps ds) (hd:Vals dvs ds) (hx:Yo CX X E)
  (hdb:(x == ("__debug__" : Str))=false:=by decide):PE X (.Call (.Name x p) [] [] pos) (zH2 C sp dvs E zHG):=by
 intro pins s σ H Q I h
 refine wpAny_Call_Name_kw (Yy I hg hm ?_ hdb)
 exact PySem.W.callWith_K0 I.kIn M.kp (zDX (us:=[]) M F hr hb hd hx I .nil h)
end
def PK (X:Cx) (kws:List Keyword) (t:TA):Prop :=
 ∀ (pos:Pos) (pins:List (Addr × Obj)) (s:Shared) (σ:St) (H:Hp) (Q:List V->Hp->Prop),Inv X pins σ H s->t σ H Q->wpAny (model X.prog X.w) X.A (evalAll ((backToKw pos (keywordEach kws X.env)).map (·.2))) (AP X pins σ Q) X.xe s
section
variable {X:Cx} {CX:CXT} {k:Nat} {f C:Addr} {fd:FuncData} {ps ks:List Str} {sp:Sp} {E:XK} {x m:Str} {p pos apos kpos:Pos} {e o:Expr} {es:List Expr} {kws:List Keyword} {te ta:TE} {t tk:TA} {nm:Option Str}
theorem zLO:PK X [] zHG:=fun _ _ _ _ H Q I h=>wpAny_evalAll_nil ⟨[],H,I,.nil,h⟩
theorem zKA (ha:PE X e te) (hr:PK X kws t):PK X (⟨nm,e,kpos⟩::kws) (zHr te t):=by
 intro pos pins s σ H Q I h
 show wpAny _ _ (evalAll ((do let v ← eval e X.env;standAt pos;pure v)::(backToKw pos (keywordEach kws X.env)).map (·.2))) _ _ s
 refine wpAny_evalAll_cons (wpAny_bind (thn (ha pins s σ H _ I h) fun u s1 ⟨x,H1,I1,r1,q1⟩=>wpAny_bind (wpAny_standAt (wpAny_pure ?_))))
 exact thn (hr pos pins s1 σ H1 _ I1 q1) fun us s2 ⟨xs,H2,I2,r2,q2⟩=>⟨x::xs,H2,I2,.cons r1 r2,q2⟩
variable {g:List Value->List Value->List Value} {gV:List V->List V->List V}
end
structure FnScope (N P:List Str) (sc:Scope):Prop where
 kind:sc.kind=.function
 co:sc.isCoroutine=false
 gen:sc.isGenerator=false
 nd:N.Nodup
 pre:N.take P.length=P
 par:∀ x∈P,sc.names.lookup x=some .local\/sc.names.lookup x=some .cell
 nofree:∀ y∈sc.names,y.2 ≠ .free
theorem zB9 {kindOf:Str->Option NameKind} {x:Str}:∀ {binds:List (Str × Value)} {m:Str->Option Value},(∀ v,(x,v) ∉ binds)->bindL kindOf binds m x=m x
 | [],_,_=>rfl
 | (n,v)::r,m,h=>by
  unfold bindL
  rw[zB9 fun w hw=>h w (List.mem_cons_of_mem _ hw)]
  split
  ·have:x ≠ n:=by rintro rfl;exact h v List.mem_cons_self
   simp[this]
  ·rfl
theorem zB1 {kindOf:Str->Option NameKind} {x:Str}:∀ {binds:List (Str × Value)} {m:Str->Option Value},(∀ v,(x,v) ∉ binds)->bindC kindOf binds m x=m x
 | [],_,_=>rfl
 | (n,v)::r,m,h=>by
  unfold bindC
  rw[zB1 fun w hw=>h w (List.mem_cons_of_mem _ hw)]
  split
  ·rfl
  ·have:x ≠ n:=by rintro rfl;exact h v List.mem_cons_self
   simp[this]
theorem zBz {kindOf:Str->Option NameKind} {x:Str} {v:Value}:∀ {P:List Str} {vs:List Value} {i:Nat} {m:Str->Option Value},P.Nodup->P[i]? = some x->vs[i]? = some v->kindOf x=some .local ->
  bindL kindOf (P.zip vs) m x=some v
 | [],_,_,_,_,h,_,_=>by simp at h
 | _::_,[],_,_,_,_,h,_=>by simp at h
 | p::P,w::vs,0,m,nd,h1,h2,hk=>by
  simp at h1 h2;subst h1;subst h2
  show bindL kindOf ((p,w)::P.zip vs) m p=_
  unfold bindL
  rw[zB9 fun v hv=>(List.nodup_cons.mp nd).1 (List.of_mem_zip hv).1,if_pos hk]
  simp
 | p::P,w::vs,i+1,m,nd,h1,h2,hk=>by
  show bindL kindOf ((p,w)::P.zip vs) m x=_
  unfold bindL
  exact zBz (i:=i) (List.nodup_cons.mp nd).2 (by simpa using h1) (by simpa using h2) hk
theorem zB8 {kindOf:Str->Option NameKind} {x:Str} {v:Value}:∀ {P:List Str} {vs:List Value} {i:Nat} {m:Str->Option Value},P.Nodup->P[i]? = some x->vs[i]? = some v->kindOf x ≠ some .local ->
  bindC kindOf (P.zip vs) m x=some v
 | [],_,_,_,_,h,_,_=>by simp at h
 | _::_,[],_,_,_,_,h,_=>by simp at h
 | p::P,w::vs,0,m,nd,h1,h2,hk=>by
  simp at h1 h2;subst h1;subst h2
  show bindC kindOf ((p,w)::P.zip vs) m p=_
  unfold bindC
  rw[zB1 fun v hv=>(List.nodup_cons.mp nd).1 (List.of_mem_zip hv).1,if_neg hk]
  simp
 | p::P,w::vs,i+1,m,nd,h1,h2,hk=>by
  show bindC kindOf ((p,w)::P.zip vs) m x=_
  unfold bindC
  exact zB8 (i:=i) (List.nodup_cons.mp nd).2 (by simpa using h1) (by simpa using h2) hk
def WD (N:List Str) (vs:List V):St:=vs.map some++List.replicate (N.length - vs.length) none
def zBn (CX:CXT) (P:Program) (w:World) (K:W.Frag) (mg:Str->Option Value) (base:Heap) (N:List Str) (qual:Str) (scope:Scope) (f:Addr) (cd:Value) (A:Around) (outer:List Env) (s:Shared) (H:Hp) (E:XK):Cx where
 prog:=P
 w:=w
 K:=K
 mg:=mg
 base:=base
 A:=A.deeper (envOfC qual scope s.heap.objs.size f cd)
 N:=N
 s₀:=s
 H₀:=H
 env:=envOfC qual scope s.heap.objs.size f cd
 outer:=outer
 stack:=envOfC qual scope s.heap.objs.size f cd::outer
 ex:=[]
 calm:=true
 fn:=fun _=>true
 pn:=[]
 xe:=fun e s'=>wpAny (model P w) (A.deeper (envOfC qual scope s.heap.objs.size f cd)) (leaving (envOfC qual scope s.heap.objs.size f cd) e) (fun _ s''=>CX outer H s E e s'') (fun e' s''=>CX outer H s E e' s'') s'
theorem zD0 {sc:Scope} {n:Nat} {x:Str} (h:sc.names.lookup x=some .cell):∃ c,(cellsFrom n sc.names []).lookup x=some c:=by
 have q:=PySem.W.cellsFrom_some sc.names n [] (.inl h)
 exact Option.isSome_iff_exists.mp q
theorem zGa {CX:CXT} {P:Program} {w:World} {K:W.Frag} {mg:Str->Option Value} {base:Heap} {N ps:List Str} {qual:Str} {scope:Scope} {f:Addr} {cd:Value} {A:Around} {outer:List Env} {s s1:Shared} {H:Hp} {E:XK} {us:List Value} {vs:List V}
  (S:FnScope N ps scope) (hd:A.handled=none) (e0:Env0 P w K mg base A outer s H) (hl:vs.length=ps.length) (r:Vals vs us)
  (x:InCallC s s.heap.objs.size (bindL (envOfC qual scope s.heap.objs.size f cd).kindOf (ps.zip us) fun _=>none) (cellsFrom (s.heap.objs.size+1) scope.names []) (bindC (envOfC qual scope s.heap.objs.size f cd).kindOf (ps.zip us) fun _=>none) s1) :
  Inv (zBn CX P w K mg base N qual scope f cd A outer s H E) [] (WD N vs) H s1:=by
 have hpl:ps.length<=N.length:=by have:=congrArg List.length S.pre;rw[List.length_take] at this;omega
 obtain⟨h1,tk,rfl,hk⟩:=x.done
 have noA:∀ b:Addr,b ∉ (zBn CX P w K mg base N qual scope f cd A outer s H E).ex:=fun b z=>absurd (show b∈([]:List Addr) from z) (by simp)
 refine⟨⟨e0.mod,S.kind,rfl,rfl,Nat.le_refl _,fun y z c h1 h2=>?_,fun y hy=>?_,fun y c _ h=>?_,fun _=>hd,Around.frames_deeper e0.frames,.inr ⟨rfl,rfl⟩,fun b z=>absurd z (noA b),e0.bs,e0.bsz,fun b _ _=>noA b,fun b z=>absurd z (noA b),e0.funs,e0.frf⟩,
  rfl,e0.bare,Un.kept hk,⟨_,x.toInCall.ns,fun i y v h1 h2 h3=>?_⟩,fun y c h=>⟨_,x.cell y c h⟩,e0.hok.fresh (Nat.le_refl _),fun y c h=>?_,fun p hp=>absurd (show p∈([]:List (Addr × Obj)) from hp) (by simp),e0.hok.kept hk,?_⟩
 ·exact name_of_addr x.apart (PySem.mem_of_lookup h1) (PySem.mem_of_lookup h2)
 ·have hy:scope.names.lookup y=some .cell\/scope.names.lookup y=some .free:=hy
  rcases hy with hy | hy
  ·exact zD0 hy
  ·exact absurd rfl (S.nofree _ (PySem.mem_of_lookup hy))
 ·exact Nat.le_of_lt (x.above y c (PySem.mem_of_lookup h))
 ·have hi:i < vs.length:=by
   unfold WD at h2
   by_cases hi:i < vs.length
   ·exact hi
   ·rw[List.getElem?_append_right (by simpa using hi)] at h2
    rw[List.getElem?_replicate] at h2
    split at h2 <;> cases h2
  have ha:vs[i]? = some v:=by
   unfold WD at h2
   rw[List.getElem?_append_left (by simpa using hi),List.getElem?_map] at h2
   cases e:vs[i]? with
   | none=>rw[e] at h2;cases h2
   | some a=>rw[e] at h2;cases h2;rfl
  obtain⟨u,hu,rv⟩:=r.get ha
  have hp:ps[i]? = some y:=by
   rw[← S.pre,List.getElem?_take_of_lt (by omega)];exact h1
  have ndP:ps.Nodup:=by rw[← S.pre];exact S.nd.sublist (List.take_sublist _ _)
  refine⟨u,rv,?_⟩
  rcases S.par y (List.mem_of_getElem? hp) with k | k
  ·exact .inl ⟨k,zBz ndP hp hu k⟩
  ·obtain⟨c,e⟩:=zD0 (n:=s.heap.objs.size+1) k
   refine .inr ⟨.inl k,c,e,?_⟩
   have q:=x.cell y c e
   rw[zB8 ndP hp hu (by show scope.names.lookup y ≠ _;rw[k];decide)] at q
   exact q
 ·exact e0.hok.fresh (Nat.le_of_lt (x.above y c (PySem.mem_of_lookup h)))
 ·unfold WD
  show _=N.length
  rw[List.length_append,List.length_map,List.length_replicate]
  omega
theorem zHv {CX:CXT} {P:Program} {w:World} {K:W.Frag} {mg:Str->Option Value} {base:Heap} {k:Nat} {f:Addr} {name qual:Str} {params:Arguments} {body:List Stmt} {scope:Scope} {dV kV doc pm cdv ct oc:Value} {an od:Option Addr}
  {osl:Array (Option Value)} {N ps:List Str} {sp:Sp} (lk:K.lookup f=some ⟨oc,od,.func (W.fnOf name qual params body scope dV kV doc pm an cdv ct),osl⟩) (hcd:W.codeIn K cdv qual=true) (S:FnScope N ps scope)
  (len:∀ vs H Q E,sp vs H Q E->vs.length=ps.length)
  (hbody:∀ (A:Around) (outer:List Env) (s:Shared) (H:Hp) (vs:List V) (Q:VK) (E:XK),Room k (A.deeper (envOfC qual scope s.heap.objs.size f cdv))->sp vs H Q E ->
   ∃ t,PSs (zBn CX P w K mg base N qual scope f cdv A outer s H E) body t/\t { nx:=fun _ H'=>Q .non H',rt:=Q } (WD N vs) H) :
  FnOk P w K mg base CX (k+1) f (W.fnOf name qual params body scope dV kV doc pm an cdv ct) ps sp:=by
 refine⟨len,fun A outer s H args us vs Q E hr e0 hb r hsp=>?_⟩
 have hl:=len _ _ _ _ hsp
 have KX:K.In s.heap:=e0.mod.kin.keeps fun b o e=>(e0.bs b o e).1
 have lim:s.heap.NoLimit:=e0.mod.nolimit.keeps fun b o e=>(e0.bs b o e).1
 have hkind:∀ y∈ps.zip us,scope.names.lookup y.1=some .local\/(scope.names.lookup y.1=some .cell/\((cellsFrom (s.heap.objs.size+1) scope.names []).lookup y.1).isSome=true):=fun ⟨n,v⟩ hy=>by
  rcases S.par n (List.of_mem_zip hy).1 with q | q
  ·exact .inl q
  ·exact .inr ⟨q,PySem.W.cellsFrom_some _ _ _ (.inl q)⟩
 refine codeAny_call_function hr.depth (KX _ _ lk) rfl S.co S.gen rfl (PySem.W.codeRec_of KX hcd) (hb _ _ _ _ ?_)
 refine wpAny_newFunctionEnv_cells S.kind hkind fun env he s1 x=>?_
 subst he
 refine⟨lim.keeps x.toInCall.keep,codeAny_func ?_⟩
 obtain⟨t,ht,hq⟩:=hbody A outer s H vs Q E (hr.deeper _) hsp
 have I:Inv (zBn CX P w K mg base N qual scope f cdv A outer s H E) [] (WD N vs) H s1:=zGa S hr.hd e0 hl r x
 refine wpAny_mono (ht [] s1 (WD N vs) H _ I hq) (fun fl s' hs=>?_) fun e s' hs=>hs
 have fin:∀ {σ':St} {H':Hp} {v:V} {u:Value},Inv (zBn CX P w K mg base N qual scope f cdv A outer s H E) [] σ' H' s'->RelV v u->Q v H'->CE outer P w H s Q u s' :=
  fun {σ' H' v u} J rv q=>⟨v,H',J.os,J.bare,J.base,J.hok,rv,q⟩
 cases fl with
 | ret u =>
  obtain⟨v,σ',H',J,rv,q⟩:=hs
  exact fin J rv q
 | next =>
  obtain⟨σ',H',J,q⟩:=hs
  exact fin (v:=V.non) (u:=Value.none) J rfl q
 | brk =>
  obtain⟨_,_,_,q⟩:=hs
  exact False.elim q
 | cont =>
  obtain⟨_,_,_,q⟩:=hs
  exact False.elim q
end L2
namespace L2
open PySem PySem.Spec PyProof.Rows
section
variable {X:Cx} {x:Str} {p pos:Pos} {e:Expr} {es:List Expr} {t:TA} {id T:String} {r:List V->Hp->VK->Prop}
def tCB (r:List V->Hp->VK->Prop) (t:TA):TE:=fun σ H Q=>t σ H fun vs H1=>r vs H1 Q
theorem QL (hc:ZD X (.builtin id) r) (hg:Gl X x) (hm:X.mg x=none) (hv:bootBuiltins x=some (.builtin id)) (ha:PA X (e::es) t) (hn:x ≠ "__name__" := by decide) (hdb:(x == ("__debug__" : Str))=false:=by decide)
  (he:starEach (e::es) X.env=(false,eval e X.env)::starEach es X.env:=by rfl) (hpl:(backTo pos (starEach es X.env)).any (·.1)=false:=by rfl):PE X (.Call (.Name x p) (e::es) [] pos) (tCB r t):=by
 intro pins s σ H Q I h
 refine wpAny_Call_Name_kw (Zf I hg hm hv ?_ hn hdb)
 exact PyProof.Rows.callWith_builtin1 (thn (ha pos pins s σ H _ I h) fun us s1 ⟨vs,H1,I1,r1,q1⟩=>hc pins s1 σ H1 vs us Q I1 r1 q1) he hpl
theorem zCF (hc:ZD X (.type T) r) (hg:Gl X x) (hm:X.mg x=none) (hv:bootBuiltins x=some (.type T)) (ha:PA X (e::es) t) (hn:x ≠ "__name__" := by decide) (hdb:(x == ("__debug__" : Str))=false:=by decide)
  (he:starEach (e::es) X.env=(false,eval e X.env)::starEach es X.env:=by rfl) (hpl:(backTo pos (starEach es X.env)).any (·.1)=false:=by rfl):PE X (.Call (.Name x p) (e::es) [] pos) (tCB r t):=by
 intro pins s σ H Q I h
 refine wpAny_Call_Name_kw (Zf I hg hm hv ?_ hn hdb)
 exact PyProof.Rows.callWith_type1 (thn (ha pos pins s σ H _ I h) fun us s1 ⟨vs,H1,I1,r1,q1⟩=>hc pins s1 σ H1 vs us Q I1 r1 q1) he hpl
end
end L2
namespace HT
open PySem PyProof.Rows
section
variable {prog:Program} {w:World} {A:Around} {E:Value->Shared->Prop} {s:Shared}
def sIx (n d:Nat):Option Int->Nat
 | none=>d
 | some v=>if v < 0 then (v+(n:Int)).toNat else min v.toNat n
theorem zL2 (n d:Nat) (hd:d<=n) (o:Option Int):sIx n d o<=n:=by
 cases o with
 | none=>exact hd
 | some v =>
  show (if v < 0 then (v+(n:Int)).toNat else min v.toNat n)<=n
  by_cases hv:v < 0
  ·rw[if_pos hv];omega
  ·rw[if_neg hv];exact Nat.min_le_right _ _
theorem zGH (v:Int) (n d:Nat):(if v < 0 then max (v+(n:Int)) 0 else min v (n:Int))=((sIx n d (some v):Nat):Int):=by
 show (if v < 0 then max (v+(n:Int)) 0 else min v (n:Int))=(((if v < 0 then (v+(n:Int)).toNat else min v.toNat n):Nat):Int)
 by_cases hv:v < 0
 ·simp only[if_pos hv];omega
 ·simp only[if_neg hv];omega
theorem zEj (lo hi:Option Int) (n:Nat):Builtin.Slice.sliceAdjust lo hi 1 (n:Int)=(((sIx n 0 lo:Nat):Int),((sIx n n hi:Nat):Int)):=by
 have h1:¬ ((1:Int) < 0):=by omega
 unfold Builtin.Slice.sliceAdjust
 simp only[h1,if_false]
 refine Prod.ext ?_ ?_
 ·cases lo with
  | none=>rfl
  | some v=>exact zGH v n 0
 ·cases hi with
  | none=>rfl
  | some v=>exact zGH v n n
theorem zFC (i j:Nat):Builtin.Slice.slicePlaces (i:Int) (j:Int) 1=j - i:=by
 unfold Builtin.Slice.slicePlaces
 have h1:(1:Int) > 0:=by omega
 simp only[h1,if_true,Int.ediv_one]
 split <;> omega
theorem zAt {v:Value} {o:Option Int} {Q:Option Int->Shared->Prop} (p:IsPart v o) (h:Q o s):wpAny (model prog w) A (Builtin.Slice.slicePartIndex v) Q E s:=by
 cases p with
 | none=>exact slicePart_none h
 | int i t=>exact slicePart_int h
theorem J9 {sl:Addr} {vl vu:Value} {lo hi:Option Int} {n:Nat} {Q:Int × Int × Nat->Shared->Prop} (hs:s.heap.IsSliceOf sl vl vu .none) (pl:IsPart vl lo) (pu:IsPart vu hi)
  (h:Q (((sIx n 0 lo:Nat):Int),1,sIx n n hi - sIx n 0 lo) s):wpAny (model prog w) A (Builtin.Slice.sliceApplied (.ref sl) (pure (n:Int))) Q E s:=by
 obtain⟨os,hos,hcs,hds⟩:=id hs
 unfold Builtin.Slice.sliceApplied Builtin.Slice.sliceFields
 refine wpAny_bind (wpAny_bind (wpAny_field hos hds (x:=vl) rfl (wpAny_bind (wpAny_field hos hds (x:=vu) rfl (wpAny_bind (wpAny_field hos hds (x:=.none) rfl (wpAny_pure ?_)))))))
 refine wpAny_bind (slicePart_none ?_)
 show wpAny _ _ (if ((1:Int) == 0)=true then _ else _) _ _ s
 rw[if_neg (by decide)]
 refine wpAny_bind (zAt pl (wpAny_bind (zAt pu (wpAny_bind (wpAny_pure ?_)))))
 show wpAny _ _ (match Builtin.Slice.sliceAdjust lo hi 1 (n:Int) with | (lo,hi)=>pure (lo,(1:Int),Builtin.Slice.slicePlaces lo hi 1)) _ _ s
 rw[zEj lo hi n]
 show wpAny _ _ (pure (((sIx n 0 lo:Nat):Int),(1:Int),Builtin.Slice.slicePlaces ((sIx n 0 lo:Nat):Int) ((sIx n n hi:Nat):Int) 1)) _ _ s
 rw[zFC]
 exact wpAny_pure h
theorem zI6 (xs:Array Value) (i k:Nat):((List.range k).filterMap fun (m:Nat)=>xs[((i:Int)+(m:Int)*1).toNat]?).toArray=((xs.toList.drop i).take k).toArray:=by
 have e:(fun (m:Nat)=>xs[((i:Int)+(m:Int)*1).toNat]?)=fun m=>xs[i+m]? := by
  funext m
  have:((i:Int)+(m:Int)*1).toNat=i+m:=by omega
  rw[this]
 rw[e]
 have:=pick_run xs i k
 rw[List.filterMap_map] at this
 have e2:((fun x=>xs[x]?) ∘ fun x=>i+x)=fun m=>xs[i+m]? := rfl
 rw[e2] at this
 rw[this]
theorem getItem_tuple_cut {t sl:Addr} {items:Array Value} {vl vu:Value} {lo hi:Option Int} {Q:Value->Shared->Prop} (ht:IsTup s.heap t items) (hs:s.heap.IsSliceOf sl vl vu .none) (pl:IsPart vl lo) (pu:IsPart vu hi)
  (hw:¬ (sIx items.size 0 lo=0/\sIx items.size items.size hi=items.size))
  (h:Q (.ref s.heap.objs.size) { s with heap:=s.heap.push { cls:=.type "tuple",data:=.seq ((items.toList.drop (sIx items.size 0 lo)).take (sIx items.size items.size hi - sIx items.size 0 lo)).toArray } })
  (hsz:items.size<=sizeLine):wpAny (model prog w) A (getItem (.ref t) (.ref sl)) Q E s:=by
 have htake:sizeOk (.seq ((items.toList.drop (sIx items.size 0 lo)).take (sIx items.size items.size hi - sIx items.size 0 lo)).toArray):=by
  show ((items.toList.drop (sIx items.size 0 lo)).take (sIx items.size items.size hi - sIx items.size 0 lo)).toArray.size<=sizeLine
  rw[List.size_toArray,List.length_take,List.length_drop,Array.length_toList]
  omega
 have hj:sIx items.size items.size hi<=items.size:=zL2 _ _ (Nat.le_refl _) hi
 obtain⟨os,hos,hcs,hds⟩:=id hs
 have hTs:s.TypeIs (.ref sl) "slice" := ⟨os,hos,hcs⟩
 unfold getItem
 try with_reducible refine wpAny_holding ?_
 first | refine wpAny_bind (wpAny_pure ?_) | skip
 refine wpAny_bind (wpAny_sequenceKey ht.typeIs (by decide) ?_)
 refine wpAny_bind (wpAny_callSpecial?_slot (name:=Str.ofString "__getitem__") ht.typeIs PyProof.Rows.slot_tuple_getitem
  (wpAny_call_entry PyProof.Rows.slot_tuple_getitem ht.typeIs entry_tuple_getitem ?_ (args_tuple_getitem _ _)))
 show wpAny _ _ (Builtin.Tuple.tupleItemsOf (.ref t) >>= _) _ _ s
 refine wpAny_bind (tupleItemsOf_ ht ?_)
 refine wpAny_bind (wpAny_typeOf hTs ?_)
 rw[if_pos (by decide)]
 refine wpAny_bind (J9 hs pl pu ?_)
 have hno:¬ ((((sIx items.size 0 lo:Nat):Int) == 0 && (1:Int) == 1 && (sIx items.size items.size hi - sIx items.size 0 lo) == items.size)=true):=by
  intro q
  rw[Bool.and_eq_true,Bool.and_eq_true] at q
  have q1:((sIx items.size 0 lo:Nat):Int)=0:=eq_of_beq q.1.1
  have q2:sIx items.size items.size hi - sIx items.size 0 lo=items.size:=eq_of_beq q.2
  exact hw ⟨by omega,by omega⟩
 show wpAny _ _ (if (((sIx items.size 0 lo:Nat):Int) == 0 && (1:Int) == 1 && (sIx items.size items.size hi - sIx items.size 0 lo) == items.size)=true then _ else _) _ _ s
 rw[if_neg hno,zI6]
 first
  | exact wpAny_bind (m:=Builtin.Tuple.tupleExact _) (wpAny_newObj_type (wpAny_pure ⟨_,rfl,wpAny_pure h⟩) htake)
  | exact wpAny_bind (m:=Builtin.Tuple.tupleExact _) (wpAny_newObj_type (wpAny_bind (wpAny_pure (wpAny_pure ⟨_,rfl,wpAny_pure h⟩))) htake)
  | exact wpAny_bind (wpAny_bind (m:=Builtin.Tuple.tupleExact _) (wpAny_newObj_type (wpAny_pure (wpAny_pure ⟨_,rfl,wpAny_pure h⟩)) htake))
  | exact wpAny_bind (wpAny_bind (m:=Builtin.Tuple.tupleExact _) (wpAny_newObj_type (wpAny_pure ⟨_,rfl,wpAny_pure h⟩) htake))
end
end HT
namespace L2
open PySem PySem.Spec PyProof.Rows
abbrev TO:=St->Hp->(Option Int->Hp->Prop)->Prop
def PO (X:Cx) (e:Option Expr) (t:TO):Prop :=
 ∀ (pins:List (Addr × Obj)) (s:Shared) (σ:St) (H:Hp) (Q:Option Int->Hp->Prop),Inv X pins σ H s->t σ H Q ->
  wpAny (model X.prog X.w) X.A (evalPart e X.env) (fun u s'=>∃ o H',Inv X pins σ H' s'/\IsPart u o/\Q o H') X.xe s
def zKp (t:TE):TO:=fun σ H Q=>t σ H fun x H1=>∃ i,x=.int i/\Q (some i) H1
section
variable {X:Cx} {e:Expr} {te:TE} {lo hi:Option Expr} {tl th:TO} {pos p2:Pos}
theorem zAe (h:PE X e te):PO X (some e) (zKp te):=by
 intro pins s σ H Q I hw
 rw[evalPart_some]
 refine thn (h pins s σ H _ I hw) fun u s1 ⟨x,H1,I1,r1,q1⟩=>?_
 obtain⟨i,rfl,q⟩:=q1
 obtain⟨t,rfl⟩:=r1
 exact⟨some i,H1,I1,.int i t,q⟩
def SlR (X:Cx) (r:V->Option Int->Option Int->Hp->VK->Prop):Prop :=
 ∀ (pins:List (Addr × Obj)) (s:Shared) (σ:St) (H:Hp) (x:V) (v vl vu:Value) (lo hi:Option Int) (sl:Addr) (Q:VK),Inv X pins σ H s->RelV x v->s.heap.IsSliceOf sl vl vu .none->IsPart vl lo->IsPart vu hi->r x lo hi H Q ->
  ∃ T id,typeLookup (.type T) "__getitem__" = pure (some (.builtin id))/\s.TypeIs v T/\wpAny (model X.prog X.w) X.A (getItem v (.ref sl)) (EP X pins σ Q) X.xe s
def tSl (r:V->Option Int->Option Int->Hp->VK->Prop) (te:TE) (tl th:TO):TE:=fun σ H Q=>te σ H fun x H1=>tl σ H1 fun l H2=>th σ H2 fun u H3=>r x l u H3 Q
theorem zDd {r:V->Option Int->Option Int->Hp->VK->Prop} (hr:SlR X r) (he:PE X e te) (hl:PO X lo tl) (hu:PO X hi th):PE X (.Subscript e (.Slice lo hi none p2) pos) (tSl r te tl th):=by
 intro pins s σ H Q I h
 refine Subscript_ (thn (he pins s σ H _ I h) fun v s1 ⟨x,H1,I1,r1,q1⟩=>?_)
 refine wpAny_Slice (thn (hl pins s1 σ H1 _ I1 q1) fun vl s2 ⟨l,H2,I2,pl,q2⟩=>thn (hu pins s2 σ H2 _ I2 q2) fun vu s3 ⟨u,H3,I3,pu,q3⟩=>?_)
 rw[evalPart_none]
 refine wpAny_pure ?_
 have I4:Inv X pins σ H3 { s3 with heap:=s3.heap.push { cls:=.type "slice",data:=.fields #[vl,vu,.none] } }:=I3.kept (t':=s3.toks) fun b ob q=>Heap.get?_push_of_some _ q
 obtain⟨T,id,hT,ht,hg⟩:=hr pins { s3 with heap:=s3.heap.push { cls:=.type "slice",data:=.fields #[vl,vu,.none] } } σ H3 x v vl vu l u s3.heap.objs.size Q I4 r1 (Heap.IsSliceOf.new ..) pl pu q3
 show wpAny (model X.prog X.w) X.A (subscriptTail e (.Slice lo hi none p2) v (.ref s3.heap.objs.size)) (EP X pins σ Q) X.xe { s3 with heap:=s3.heap.push { cls:=.type "slice",data:=.fields #[vl,vu,.none] } }
 exact tail_any (ops:=[.ref s3.heap.objs.size,v]) ht hT hg (by with_unfolding_all rfl)
def zD7 (xs:List V) (lo hi:Option Int):List V:=(xs.drop (HT.sIx xs.length 0 lo)).take (HT.sIx xs.length xs.length hi - HT.sIx xs.length 0 lo)
theorem zAE (xs:List V) (lo hi:Option Int):(zD7 xs lo hi).length<=xs.length:=by
 unfold zD7
 rw[List.length_take,List.length_drop]
 omega
def zNa (K:W.Frag):V->Option Int->Option Int->Hp->VK->Prop:=fun x lo hi H Q=>∃ a xs,x=.ref a/\SqT K H a xs /\
 ¬ (HT.sIx xs.length 0 lo=0/\HT.sIx xs.length xs.length hi=xs.length)/\∀ p,H p=none->Q (.ref p) (upd H p (.tup (zD7 xs lo hi)))
theorem zL6:SlR X (zNa X.K):=by
 intro pins s σ H x v vl vu lo hi sl Q I rx hs pl pu h
 obtain⟨a,xs,rfl,hx,hw,q⟩:=h
 cases rx
 obtain⟨its,r,ht,hz⟩:=I.tuple hx
 have hlen:its.toArray.size=xs.length:=by rw[List.size_toArray];exact r.length.symm
 refine⟨"tuple",_,PyProof.Rows.slot_tuple_getitem.lookup,ht.typeIs,?_⟩
 refine HT.getItem_tuple_cut ht hs pl pu (by rw[hlen];exact hw) ?_ (by rw[hlen];exact hz)
 rw[hlen]
 refine⟨.ref s.heap.objs.size,_,I.laid (t':=s.toks) (o:=.tup (zD7 xs lo hi)) (fun b ob q=>Heap.get?_push_of_some _ q) (Nat.le_refl _) ?_,rfl,q _ (I.hok.fresh (Nat.le_refl _))⟩
 exact⟨Nat.le_trans (zAE xs lo hi) hz,_,(r.drop (HT.sIx xs.length 0 lo)).take (HT.sIx xs.length xs.length hi - HT.sIx xs.length 0 lo),IsTup.new _ _⟩
end
end L2
namespace L2
open PySem PySem.Spec PyProof.Rows
def ixN (n:Nat) (i:Int):Option Nat:=if 0<=i then (if i < n then some i.toNat else none) else if -(n:Int)<=i then some (i+n).toNat else none
def atI {α:Type} (xs:List α) (i:Int):Option α:=(ixN xs.length i).bind fun j=>xs[j]?
theorem zFa {n:Nat} {i:Int} {j:Nat} (h:ixN n i=some j):seqIndex? i n=some j/\j < n /\ -(n:Int)<=i/\i < n:=by
 unfold ixN at h
 by_cases h0:0<=i
 ·rw[if_pos h0] at h
  by_cases h1:i < n
  ·rw[if_pos h1] at h
   have e:i.toNat=j:=Option.some.inj h
   exact⟨by rw[seqIndex_of h0 h1,e],by omega,by omega,h1⟩
  ·rw[if_neg h1] at h;cases h
 ·rw[if_neg h0] at h
  by_cases h1 : -(n:Int)<=i
  ·rw[if_pos h1] at h
   have e:(i+n).toNat=j:=Option.some.inj h
   exact⟨by rw[seqIndex_neg (by omega) h1,e],by omega,h1,by omega⟩
  ·rw[if_neg h1] at h;cases h
theorem zCt {α:Type} {xs:List α} {i:Int} {v:α} (h:atI xs i=some v):∃ j,seqIndex? i xs.length=some j/\xs[j]? = some v/\j < xs.length /\ -(xs.length:Int)<=i/\i < xs.length:=by
 unfold atI at h
 cases e:ixN xs.length i with
 | none=>rw[e] at h;cases h
 | some j =>
  rw[e] at h
  obtain⟨h1,h2,h3,h4⟩:=zFa e
  exact⟨j,h1,h,h2,h3,h4⟩
theorem ZA {α:Type} {xs:List α} {j:Nat} {v:α} (h:xs[j]? = some v):atI xs (j:Int)=some v:=by
 have hj:j < xs.length:=(List.getElem?_eq_some_iff.mp h).1
 have e:ixN xs.length (j:Int)=some j:=by
  unfold ixN
  rw[if_pos (by omega),if_pos (by omega)];simp
 unfold atI;rw[e];exact h
theorem zH1 {α:Type} (xs:List α) (v:α):atI (xs++[v]) (-1)=some v:=by
 have hl:(xs++[v]).length=xs.length+1:=by simp
 have e:ixN (xs++[v]).length (-1)=some xs.length:=by
  unfold ixN
  rw[hl,if_neg (by decide),if_pos (by omega)]
  congr 1
  omega
 unfold atI
 rw[e]
 show (xs++[v])[xs.length]? = some v
 simp
def zJW (b:Expr):Prop:=∀ o i,subscripted b false o i=operate [o,i] (getItem o i)
def IxR (X:Cx) (r:R2):Prop :=
 ∀ (value slice:Expr) (pins:List (Addr × Obj)) (s:Shared) (σ:St) (H:Hp) (x y:V) (v u:Value) (Q:VK),Inv X pins σ H s->RelV x v->RelV y u->r x y H Q ->
  subscripted slice false v u=operate [v,u] (getItem v u)->wpAny (model X.prog X.w) X.A (subscriptTail value slice v u) (EP X pins σ Q) X.xe s
def MtR (X:Cx) (id:String) (r:V->List V->Hp->VK->Prop):Prop :=
 ∀ (pins:List (Addr × Obj)) (s:Shared) (σ:St) (H:Hp) (x:V) (xs:List V) (v:Value) (us:List Value) (Q:VK),Inv X pins σ H s->RelV x v->Vals xs us->r x xs H Q ->
  wpAny (model X.prog X.w) X.A (call (.builtin id) (v::us)) (EP X pins σ Q) X.xe s
section
variable {X:Cx} {a b:Expr} {ta tb:TE} {pos:Pos}
theorem Qa {r:R2} (hr:IxR X r) (ha:PE X a ta) (hb:PE X b tb) (hs:zJW b):PE X (.Subscript a b pos) (tOp r ta tb):=by
 intro pins s σ H Q I h
 exact Subscript_ (zMP ha hb I h fun v u s2 x y H2 I2 rx ry q=>hr a b pins s2 σ H2 x y v u Q I2 rx ry q (hs _ _))
def zNZ (K:W.Frag):R2:=fun x y H Q=>∃ p xs i v,x=.ref p/\y=.int i/\SqL K H p xs/\atI xs i=some v/\Q v H
def zNU (K:W.Frag):R2:=fun x y H Q=>∃ p xs i v,x=.ref p/\y=.int i/\SqT K H p xs/\atI xs i=some v/\Q v H
theorem zFT:IxR X (zNZ X.K):=by
 intro value slice pins s σ H x y v u Q I rx ry h hs
 obtain⟨p,xs,i,z,rfl,rfl,hq,he,q⟩:=h
 cases rx
 obtain⟨t,rfl⟩:=ry
 obtain⟨its,r,pl,hz⟩:=I.list hq
 obtain⟨j,h1,h2,h3,h4,h5⟩:=zCt he
 obtain⟨w,ew,rw'⟩:=r.get h2
 have hl:=r.length
 have hn:=Wu
 have fin:EP X pins σ Q w s:=⟨z,H,I,rw',q⟩
 by_cases h0:0<=i
 ·have hj:i.toNat=j:=by
   rw[seqIndex_of h0 h5] at h1
   exact Option.some.inj h1
  exact item_listR pl.isList h0 (by omega) (by rw[hj];simpa using ew) fin hs
 ·have hj:(i+(its.toArray.size:Int)).toNat=j:=by
   rw[seqIndex_neg (by omega) h4] at h1
   rw[List.size_toArray,← hl]
   exact Option.some.inj h1
  exact subscriptTail_builtinR (x:=w) pl.isList.typeIs slot_list_getitem.lookup
   (wpAny_getItem_list_neg (Q:=fun r s'=>r=w/\EP X pins σ Q r s') pl.isList (by omega) (by rw[List.size_toArray] <;> omega) (by omega) (by rw[hj];simpa using ew) ⟨rfl,fin⟩) hs
theorem zL5:IxR X (zNU X.K):=by
 intro value slice pins s σ H x y v u Q I rx ry h hs
 obtain⟨p,xs,i,z,rfl,rfl,hq,he,q⟩:=h
 cases rx
 obtain⟨t,rfl⟩:=ry
 obtain⟨its,r,pl,hz⟩:=I.tuple hq
 obtain⟨j,h1,h2,h3,h4,h5⟩:=zCt he
 obtain⟨w,ew,rw'⟩:=r.get h2
 have hl:=r.length
 have hn:=Wu
 have fin:EP X pins σ Q w s:=⟨z,H,I,rw',q⟩
 exact subscriptTail_builtinR (x:=w) pl.typeIs slot_tuple_getitem.lookup
  (getItem_tuple (j:=j) (Q:=fun r s'=>r=w/\EP X pins σ Q r s') pl (by omega) (by omega) (by rw[List.size_toArray,← hl];exact h1) (by simpa using ew) ⟨rfl,fin⟩) hs
theorem zEw (its:List Value) (n j:Nat) (u:Value):Obj.mapSeq (·.setIfInBounds j u) { cls:=.type "list",data:=.seq its.toArray n }={ cls:=.type "list",data:=.seq (its.set j u).toArray n }:=by
 simp[Obj.mapSeq]
theorem Inv.lst {pins:List (Addr × Obj)} {σ:St} {H:Hp} {s:Shared} {p:Addr} {xs:List V} (I:Inv X pins σ H s) (h:H p=some (.lst xs)) :
  ∃ (its:List Value) (n:Nat),Vals xs its/\s.heap.get? p=some { cls:=.type "list",data:=.seq its.toArray n }/\xs.length<=sizeLine:=by
 obtain⟨z,its,n,r,e⟩:=I.hok p _ h
 exact⟨its,n,r,e,z⟩
theorem Inv.lstUpd {pins:List (Addr × Obj)} {σ:St} {H:Hp} {s:Shared} {p:Addr} {xs ys:List V} {its its':List Value} {n n':Nat} {f:Obj->Obj} (I:Inv X pins σ H s) (h:H p=some (.lst xs))
  (ho:s.heap.get? p=some { cls:=.type "list",data:=.seq its.toArray n }) (hf:f { cls:=.type "list",data:=.seq its.toArray n }={ cls:=.type "list",data:=.seq its'.toArray n' }) (r:Vals ys its') (hz:ys.length<=sizeLine) (t:Nat) :
  Inv X pins σ (upd H p (.lst ys)) { s with heap:=s.heap.update p f,toks:=t }:=by
 have e:(s.heap.update p f).get? p=some { cls:=.type "list",data:=.seq its'.toArray n' }:=by
  rw[Heap.get?_update_self f ho (by rw[hf] <;> rfl),hf]
 refine I.write (x:=p) (e:=p) (by rw[h];trivial) (.inl rfl) (fun b u hb q=>(Heap.get?_update_other _ _ (Ne.symm hb)).trans q) ⟨_,e⟩ ?_
 exact⟨hz,its',n',r,e⟩
def zMi:V->V->V->Hp->(Hp->Prop)->Prop:=fun o i v H Q=>∃ p xs k j,o=.ref p/\i=.int k/\H p=some (.lst xs)/\ixN xs.length k=some j/\Q (upd H p (.lst (xs.set j v)))
theorem zIn:zKd X zMi:=by
 intro pins s σ H o i v ov iv u Q I ro ri rv h
 obtain⟨p,xs,k,j,rfl,rfl,hp,hj,q⟩:=h
 cases ro
 obtain⟨t,rfl⟩:=ri
 obtain⟨its,n,r,ho,hz⟩:=I.lst hp
 obtain⟨h1,h2,h3,h4⟩:=zFa hj
 have hl:=r.length
 have hn:=Wu
 have I':Inv X pins σ (upd H p (.lst (xs.set j v))) { s with heap:=s.heap.update p (Obj.mapSeq (·.setIfInBounds j u)) } :=
  I.lstUpd hp ho (zEw its n j u) (r.set rv j) (by rw[List.length_set];exact hz) s.toks
 by_cases h0:0<=k
 ·have hk:k.toNat=j:=by
   rw[seqIndex_of h0 h4] at h1
   exact Option.some.inj h1
  exact PySem.W.ki_setAt ho h0 (by omega) (by rw[List.size_toArray,← hl];exact h4) (by rw[hk];exact⟨_,I',q⟩)
 ·have hk:(k+(its.toArray.size:Int)).toNat=j:=by
   rw[seqIndex_neg (by omega) h3] at h1
   rw[List.size_toArray,← hl]
   exact Option.some.inj h1
  exact PySem.W.ki_setBack ho (by omega) (by rw[List.size_toArray,← hl];exact h3) (by omega) (by rw[hk];exact⟨_,I',q⟩)
theorem zCv (lo hi:Option Int) (n:Nat):(sliceBounds lo hi none n).1=((HT.sIx n 0 lo:Nat):Int)/\(sliceBounds lo hi none n).2.1=((HT.sIx n n hi:Nat):Int)/\(sliceBounds lo hi none n).2.2=1:=by
 refine⟨?_,?_,rfl⟩
 ·cases lo with
  | none=>simp[sliceBounds,HT.sIx]
  | some i =>
   simp only[sliceBounds,HT.sIx,Option.getD_none,show (1:Int) > 0 by decide,if_true]
   by_cases h:i < 0
   ·simp only[h,if_true] <;> omega
   ·simp only[h,if_false] <;> omega
 ·cases hi with
  | none=>simp[sliceBounds,HT.sIx]
  | some i =>
   simp only[sliceBounds,HT.sIx,Option.getD_none,show (1:Int) > 0 by decide,if_true]
   by_cases h:i < 0
   ·simp only[h,if_true] <;> omega
   ·simp only[h,if_false] <;> omega
theorem zBj (its:List Value) (lo hi:Option Int):slicePick its.toArray lo hi none=((its.drop (HT.sIx its.length 0 lo)).take (HT.sIx its.length its.length hi - HT.sIx its.length 0 lo)).toArray:=by
 obtain⟨h1,h2,h3⟩:=zCv lo hi its.toArray.size
 unfold slicePick
 rw[h1,h2,h3]
 simp only[sliceRange_one,pick_run,List.size_toArray] <;> rfl
def zNG (K:W.Frag):V->Option Int->Option Int->Hp->VK->Prop:=fun x lo hi H Q=>∃ a xs,x=.ref a/\SqL K H a xs/\∀ p,H p=none->Q (.ref p) (upd H p (.lst (zD7 xs lo hi)))
theorem zKY:SlR X (zNG X.K):=by
 intro pins s σ H x v vl vu lo hi sl Q I rx hs pl pu h
 obtain⟨a,xs,rfl,hx,q⟩:=h
 cases rx
 obtain⟨its,r,ht,hz⟩:=I.list hx
 have hlen:=r.length
 refine⟨"list",_,slot_list_getitem.lookup,ht.isList.typeIs,?_⟩
 refine wpAny_getItem_list_slice ht.isList hs pl pu .none (by simp) ?_ (by rw[List.size_toArray] <;> omega)
 rw[zBj,← hlen]
 refine⟨.ref s.heap.objs.size,_,I.laid (t':=s.toks) (o:=.lst (zD7 xs lo hi)) (fun b ob q=>Heap.get?_push_of_some _ q) (Nat.le_refl _) ?_,rfl,q _ (I.hok.fresh (Nat.le_refl _))⟩
 exact⟨Nat.le_trans (zAE xs lo hi) hz,_,0,(r.drop (HT.sIx xs.length 0 lo)).take (HT.sIx xs.length xs.length hi - HT.sIx xs.length 0 lo),Heap.get?_push_size _ rfl⟩
theorem Zs:ZD X (.builtin "len") (fun xs H Q=>∃ p ys,xs=[.ref p]/\(SqL X.K H p ys\/SqT X.K H p ys)/\Q (.int ys.length) H):=by
 intro pins s σ H xs us Q I r h
 obtain⟨p,ys,rfl,hq,q⟩:=h
 obtain⟨u,rfl,rx⟩:=zFh r
 cases rx
 have hn:=Wu
 rcases hq with hq | hq
 ·obtain⟨its,r',pl,hz⟩:=I.list hq
  have hlen:=r'.length
  exact Calls.call_len_list pl.isList (by simp only[List.size_toArray] <;> omega) ⟨.int ys.length,H,I.tok _,⟨s.toks+1,by rw[List.size_toArray,hlen]⟩,q⟩
 ·obtain⟨its,r',pl,hz⟩:=I.tuple hq
  have hlen:=r'.length
  exact len_tuple pl (by simp only[List.size_toArray] <;> omega) ⟨.int ys.length,H,I.tok _,⟨s.toks+1,by rw[List.size_toArray,hlen]⟩,q⟩
theorem zC3:ZD X (.builtin "len") (fun xs H Q=>∃ z,xs=[.str z]/\z.length<=sizeLine/\Q (.int z.length) H):=by
 intro pins s σ H xs us Q I r h
 obtain⟨z,rfl,hz,q⟩:=h
 obtain⟨u,rfl,t,rfl⟩:=zFh r
 have hn:=Wu
 exact len_str (by omega) ⟨.int z.length,H,I.tok _,⟨_,rfl⟩,q⟩
def tyV (K:W.Frag) (T:String) (x:V) (H:Hp):Prop:=match x with
 | .str _=>T = "str"
 | .int _=>T = "int"
 | .ref p => (T = "list" /\ ∃ xs, SqL K H p xs) \/ (T = "tuple" /\ ∃ o, K.lookup p = some o /\ o.cls = .type "tuple" /\ o.dict = none) \/
   (T = "dict" /\ ((∃ kvs,H p=some (.dK kvs))\/∃ kvs,H p=some (.dT kvs)))\/(T = "set" /\ ∃ S n,H p=some (.set S n))
 | _=>False
theorem zL0 {pins:List (Addr × Obj)} {σ:St} {H:Hp} {s:Shared} {T:String} {x:V} {v:Value} (I:Inv X pins σ H s) (r:RelV x v) (ty:tyV X.K T x H) :
  s.TypeIs v T/\∀ a,v=.ref a->∃ ob,s.heap.get? a=some ob/\ob.dict=none:=by
 cases x with
 | str z =>
  obtain⟨t,rfl⟩:=r
  cases (show T = "str" from ty)
  exact⟨typeIs_str s z t,fun _ e=>nomatch e⟩
 | int i =>
  obtain⟨t,rfl⟩:=r
  cases (show T = "int" from ty)
  exact⟨typeIs_int s i t,fun _ e=>nomatch e⟩
 | ref p =>
  cases r
  rcases ty with ⟨rfl,xs,hq⟩ | ⟨rfl,o,hk,hc,hd⟩ | ⟨rfl,hk⟩ | ⟨rfl,S,n,hk⟩
  ·obtain⟨its,_,pl,_⟩:=I.list hq
   refine⟨pl.isList.typeIs,fun a e=>?_⟩
   cases e
   obtain⟨o,n,e,c,hd,_⟩:=pl
   exact⟨o,e,hd⟩
  ·refine⟨⟨o,I.kIn p o hk,hc⟩,fun a e=>?_⟩
   cases e
   exact⟨o,I.kIn _ o hk,hd⟩
  ·have z:∃ o,s.heap.get? p=some o/\o.ExactDict:=by
    rcases hk with ⟨kvs,hk⟩ | ⟨kvs,hk⟩
    ·obtain⟨_,_,_,_,o,_,_,e,ex,_⟩:=I.hok p _ hk
     exact⟨o,e,ex⟩
    ·obtain⟨_,_,_,_,o,_,_,e,ex,_⟩:=I.hok p _ hk
     exact⟨o,e,ex⟩
   obtain⟨o,e,ex⟩:=z
   refine⟨⟨o,e,ex.1⟩,fun a e2=>?_⟩
   cases e2
   exact⟨o,e,ex.2.1⟩
  ·obtain⟨o,_,_,_,e,ex,_⟩:=I.hok p _ hk
   refine⟨⟨o,e,ex.1⟩,fun a e2=>?_⟩
   cases e2
   exact⟨o,e,ex.2.1⟩
 | _=>exact False.elim ty
def tBM (K:W.Frag) (T:String) (r:V->List V->Hp->VK->Prop) (to:TE) (t:TA):TE:=fun σ H Q=>to σ H fun x H1=>tyV K T x H1/\t σ H1 fun xs H2=>r x xs H2 Q
variable {o e:Expr} {es:List Expr} {to:TE} {t:TA} {name:Str} {apos cpos:Pos} {T id:String} {r:V->List V->Hp->VK->Prop}
theorem zDk (pa:PlainAttrs T) (slot:Slot T name id) (hty:typeOf (.builtin id)=pure (.type "method_descriptor")) (hm:MtR X id r) (ho:PE X o to) (ha:PA X (e::es) t)
  (hbase:attributeBase o name X.env (eval o X.env)=eval o X.env:=by rfl)
  (hfew:((backTo cpos (starEach (e::es) X.env)).all (fun x => !x.1) && (backToKw cpos (keywordEach [] X.env)).all (fun x=>x.1.isSome)
   && decide ((e::es).length+([]:List Keyword).length+(if ([]:List Keyword).isEmpty then 0 else 1) < 30))=true:=by rfl)
  (hline:(apos.endLine == cpos.line)=true:=by rfl) (hs:starEach (e::es) X.env=(false,eval e X.env)::starEach es X.env:=by rfl) (hplain:(backTo cpos (starEach es X.env)).any (·.1)=false:=by rfl) :
  PE X (.Call (.Attribute o name apos) (e::es) [] cpos) (tBM X.K T r to t):=by
 intro pins s σ H Q I h
 refine wpAny_Call_method_late hbase hfew hline rfl (thn (ho pins s σ H _ I h) fun v s1 ⟨x,H1,I1,r1,ty,q1⟩=>?_)
 obtain⟨h1,h2⟩:=zL0 I1 r1 ty
 refine⟨T,id,pa,slot,hty,h1,h2,?_⟩
 have hA:=ha cpos pins s1 σ H1 _ I1 q1
 rw[hs] at hA ⊢
 refine Calls.callWith_builtin (by show (false || (backTo cpos (starEach es X.env)).any (·.1))=false;rw[hplain] <;> rfl) (Calls.evalArgs_plain ?_)
 exact thn hA fun us s2 ⟨vs,H2,I2,r2,q2⟩=>hm pins s2 σ H2 x vs v us Q I2 r1 r2 q2
end
end L2
namespace L2
open PySem PySem.Spec PyProof.Rows
def MtM (X:Cx) (id:String) (r:V->List V->Hp->VK->Prop):Prop :=
 ∀ (pins:List (Addr × Obj)) (s:Shared) (σ:St) (H:Hp) (x:V) (xs:List V) (v:Value) (us:List Value) (Q:VK),Inv X pins σ H s->RelV x v->Vals xs us->r x xs H Q ->
  wpAny (model X.prog X.w) X.A (call (.builtin id) (v::us)) (EP X pins σ Q) X.xe s
theorem Vals.one:∀ {x:V} {us:List Value},Vals [x] us->∃ u,us=[u]/\RelV x u
 | _,_,.cons r .nil=>⟨_,rfl,r⟩
theorem Vals.two:∀ {x y:V} {us:List Value},Vals [x,y] us->∃ u v,us=[u,v]/\RelV x u/\RelV y v
 | _,_,_,.cons r (.cons q .nil)=>⟨_,_,rfl,r,q⟩
theorem Vals.zero:∀ {us:List Value},Vals [] us->us=[]
 | _,.nil=>rfl
theorem Vals.reverse {xs:List V} {us:List Value} (h:Vals xs us):Vals xs.reverse us.reverse:=by
 induction h with
 | nil=>exact .nil
 | cons r t ih=>rw[List.reverse_cons,List.reverse_cons];exact Vals.append ih (.cons r .nil)
theorem Vals.rep {xs:List V} {us:List Value} (h:Vals xs us):∀ k:Nat,Vals (List.replicate k xs).flatten (List.replicate k us).flatten
 | 0=>.nil
 | k+1=>by
  rw[List.replicate_succ,List.replicate_succ,List.flatten_cons,List.flatten_cons]
  exact Vals.append h (Vals.rep h k)
theorem zCD (its:List Value):∀ (k:Nat) (acc:List Value),
  List.foldl (fun x1 x2=>x1++x2) acc.toArray (List.replicate k its.toArray)=(acc++(List.replicate k its).flatten).toArray
 | 0,acc=>by simp
 | k+1,acc=>by
  have e:acc.toArray++its.toArray=(acc++its).toArray:=by simp
  have e2:(acc++its)++(List.replicate k its).flatten=acc++(List.replicate (k+1) its).flatten:=by
   rw[List.replicate_succ,List.flatten_cons,List.append_assoc]
  rw[← e2,← zCD its k (acc++its),← e,List.replicate_succ,List.foldl_cons]
section
variable {X:Cx} {pins:List (Addr × Obj)} {σ:St} {H:Hp} {s:Shared} {l b:Addr} {xs ys zs:List V}
theorem Inv.lset {its its':List Value} {n:Nat} {f:Array Value->Array Value} {t':Nat} (I:Inv X pins σ H s) (hH:H l=some (.lst xs))
  (e:s.heap.get? l=some { cls:=.type "list",data:=.seq its.toArray n }) (hf:f its.toArray=its'.toArray) (hv:Vals ys its') (hz:ys.length<=sizeLine) :
  Inv X pins σ (upd H l (.lst ys)) { s with heap:=s.heap.update l (Obj.mapSeq f),toks:=t' }:=by
 have q:=PySem.IsL.update e f
 rw[hf] at q
 refine I.write (x:=l) (e:=l) (by rw[hH];exact trivial) (.inl rfl) (fun b' u hb hu=>(Heap.get?_update_other s.heap (Obj.mapSeq f) (Ne.symm hb)).trans hu) ⟨_,q⟩ ?_
 exact⟨hz,its',_,hv,q⟩
theorem Inv.lnew {its:List Value} {t':Nat} (I:Inv X pins σ H s) (hv:Vals ys its) (hz:ys.length<=sizeLine) :
  Inv X pins σ (upd H s.heap.objs.size (.lst ys)) { s with heap:=s.heap.push { cls:=.type "list",data:=.seq its.toArray },toks:=t' } :=
 I.laid (fun _ _ q=>Heap.get?_push_of_some _ q) (Nat.le_refl _) ⟨hz,its,0,hv,Heap.get?_push_size _ rfl⟩
theorem Inv.fresh (I:Inv X pins σ H s):H s.heap.objs.size=none:=I.hok.fresh (Nat.le_refl _)
theorem Inv.lstM (I:Inv X pins σ H s) (hH:H l=some (.lst xs)):xs.length<=sizeLine/\∃ (its:List Value) (n:Nat),Vals xs its/\xs.length=its.length/\s.heap.get? l=some { cls:=.type "list",data:=.seq its.toArray n }:=by
 obtain⟨z,its,n,r,e⟩:=I.hok l _ hH
 exact⟨z,its,n,r,r.length,e⟩
theorem zIw {n:Nat} (h:n<=sizeLine):Builtin.List.listTooLong n=false:=by
 unfold Builtin.List.listTooLong
 exact decide_eq_false (by omega)
end
section
variable {X:Cx}
def zKZ:V->List V->Hp->VK->Prop:=fun x vs H Q=>∃ l xs y,x=.ref l/\vs=[y]/\H l=some (.lst xs)/\xs.length < sizeLine/\Q .non (upd H l (.lst (xs++[y])))
theorem zGO:MtM X "list.append" zKZ:=by
 intro pins s σ H x vs v us Q I rx rv h
 obtain⟨l,xs,y,rfl,rfl,hH,hz,q⟩:=h
 cases rx
 obtain⟨u,rfl,ru⟩:=rv.one
 obtain⟨z,its,n,r,hl,e⟩:=I.lstM hH
 refine call_meets F.slot_list_append ⟨_,e,rfl⟩ F.entry_list_append (F.args_list_append_2 _ _) (PySem.list_append l its.toArray n u (by rw[List.size_toArray];omega)) ⟨e,?_⟩
 refine⟨.non,_,I.lset (its':=its++[u]) hH e (by simp) (r.append (.cons ru .nil)) ?_,rfl,q⟩
 rw[List.length_append,List.length_singleton]
 omega
def zNM:R2:=fun x y H Q=>∃ l k xs,x=.ref l/\y=.int k/\H l=some (.lst xs) /\ -(2 ^ 63)<=k/\k < 2 ^ 63/\xs.length*k.toNat<=sizeLine /\
 ∀ p,H p=none->Q (.ref p) (upd H p (.lst (List.replicate k.toNat xs).flatten))
theorem zJe {α:Type} (xs:List α) (k:Nat):(List.replicate k xs).flatten.length=k*xs.length:=by
 induction k with
 | zero=>simp
 | succ k ih=>rw[List.replicate_succ,List.flatten_cons,List.length_append,ih,Nat.succ_mul,Nat.add_comm]
theorem zLx:OpR X (binaryOp .Mult) zNM:=by
 intro pins s σ H x y v u Q I rx ry h
 obtain⟨l,k,xs,rfl,rfl,hH,h1,h2,hz,q⟩:=h
 cases rx
 obtain⟨t,rfl⟩:=ry
 obtain⟨z,its,n,r,hl,e⟩:=I.lstM hH
 have hlen:its.toArray.size*k.toNat<=sizeLine:=by rw[List.size_toArray,← hl];exact hz
 have hcap:¬ its.toArray.size*k.toNat > (2 ^ 63 - 1) / 8:=by
  have:(sizeLine:Nat)<=(2 ^ 63 - 1) / 8:=by decide
  omega
 have hfit:¬ (!Builtin.List.listFitsIndex k)=true:=by
  rw[fitsIndex_both h1 h2]
  exact Bool.false_ne_true
 have hlong:¬ Builtin.List.listTooLong (its.toArray.size*k.toNat)=true:=by
  rw[zIw hlen]
  exact Bool.false_ne_true
 have hnew:List.foldl (fun x1 x2=>x1++x2) #[] (List.replicate (if its.toArray.isEmpty=true then 0 else k.toNat) its.toArray)=(List.replicate k.toNat its).flatten.toArray:=by
  have f0:∀ m:Nat,List.foldl (fun x1 x2=>x1++x2) #[] (List.replicate m its.toArray)=(List.replicate m its).flatten.toArray:=fun m=>by
   have:=zCD its m []
   rw[List.nil_append] at this
   exact this
  rw[f0]
  cases its with
  | nil=>simp
  | cons a r'=>rw[if_neg (by simp)]
 refine wpAny_binaryOp_repeat_ref (T := "list") (U := "int") (by decide) ⟨_,e,rfl⟩ (fun s'=>typeIs_int s' k t) noFill_list_mul F.fills_int_mul F.slot_int_rmul repeat_list F.slot_int_index.lookup
  (call_meets F.slot_int_rmul (typeIs_int s k t) F.entry_int_rmul (F.args_int_rmul_2 _ _) (int___rmul___int_list k t l its.toArray n)
   ⟨e,rfl,⟨_,e,rfl⟩,call_meets F.slot_list_mul ⟨_,e,rfl⟩ F.entry_list_mul (F.args_list_mul_2 _ _) (AutoListH.list___mul___list_int_3 l its.toArray n k t hfit hcap hlong) ⟨e,?_⟩⟩)
 rw[hnew]
 exact⟨.ref _,_,I.lnew (t':=s.toks) (r.rep k.toNat) (by rw[zJe,Nat.mul_comm];exact hz),rfl,q _ I.fresh⟩
end
end L2
namespace Att
open PySem PySem.W PySem.Calls PyProof.Rows
theorem zAL {P:Params} {h:Heap}:∀ (ns:List Int) (vs:List Value),WellAll P h vs (ns.map WData.int)->IntsAre vs ns:=by
 intro ns
 induction ns with
 | nil =>
  intro vs w
  rw[List.map_nil] at w
  cases w
  exact .nil
 | cons n ns ih =>
  intro vs w
  rw[List.map_cons] at w
  cases w with
  | cons a b =>
   cases a
   exact .cons _ _ (ih _ b)
theorem zGR {l:OpenLaw} {n:Nat} (hn:l.most=some n) {P:Params} {h:Heap} {args:List WData} {vals:List Value}
  (hpre:l.row.toRowW.claim.pre args=true) (hwl:WellAll P h vals args) :
  ∃ a vs ns,vals=[Value.ref a]/\args=[WData.list (ns.map WData.int)]/\h.get? a=some { cls:=.type "list",data:=.seq vs.toArray }/\IntsAre vs ns/\ns.length<=n:=by
 have hsh:WShape.hasAll [] args [.list .int]=true:=(pre_splitW hpre).1
 have hc:l.pre.holds [] { args:=args }=true:=(pre_splitW hpre).2
 obtain⟨d,r,rfl,h1,h2⟩:=hasAllW_cons hsh
 obtain rfl:=hasAllW_nil h2
 obtain⟨xs,rfl,h3⟩:=hasW_list h1
 obtain⟨ns,rfl⟩:=items_int h3
 have hlen:ns.length<=n:=by
  unfold OpenLaw.pre at hc
  have h4:(WTm.not (.lt (.lit (.int (n:Int))) (.len (.arg 0)))).holds [] { args:=[.list (ns.map .int)] }=true:=by
   have h4:=(holds_andW hc).1
   rw[hn] at h4
   exact h4
  have h5:=condW_of h4 (w_not (w_lt w_lit (w_len_list (w_arg rfl))))
  rw[List.length_map] at h5
  refine Nat.le_of_not_lt fun q=>?_
  have q':(n:Int) < ((ns.length:Nat):Int):=by omega
  first
   | (rw[decide_eq_true q'] at h5;exact absurd h5 (by decide))
   | (simp at h5;omega)
 cases hwl with
 | cons w1 w2 =>
  cases w2
  cases w1 with
  | list ho hall=>exact⟨_,_,ns,rfl,rfl,ho,zAL ns _ hall,hlen⟩
theorem zG3 (l:OpenLaw) (args:List WData):l.row.toRowW.claim.post args (.bool true) args=true :=
 postW_of (r:=l.row.toRowW) (X:=(true == true))
  (show WShape.has [] (.bool true) .bool=true by first | rfl | decide | simp[WShape.has,WShape.arms,WShape.armsAll])
  (show (WTm.eq .res (.lit (.bool true))).value [] { args:=args,res:=some (.bool true),after:=args }=some (.bool (true == true)) from w_eq_bool (w_res rfl) w_lit) rfl
end Att
namespace L2
open PySem PySem.Spec PyProof.Rows
theorem zCC:∀ {vs:List Value} {ns:List Int},IntsAre vs ns->Vals (ns.map V.int) vs
 | _,_,.nil=>.nil
 | _,_,.cons n t h=>.cons ⟨t,rfl⟩ (zCC h)
def zLW (H:Hp):Prop:=∀ b,H b=none\/∃ o xs,H b=some (.frz o (.lst xs))
theorem zHk {P:Program} {w:World} {K:W.Frag} {mg mb:Str->Option Value} {CX:CXT} {k:Nat} {fa a:Addr} {fd:FuncData} {x:Str} {sp:Sp} {s₁:Shared} {vs:List Value} {ns:List Int}
  (KX:K.In s₁.heap) (hns:s₁.heap.Ns mainGlobals mg) (hb:s₁.heap.Ns builtinsNs mb) (hbb:∀ x:Str,x ≠ "__name__" -> mb x=bootBuiltins x) (hlim:s₁.heap.NoLimit) (hg:s₁.gens = #[])
  (ha:s₁.heap.get? a=some { cls:=.type "list",data:=.seq vs.toArray }) (hi:IntsAre vs ns) (hl:ns.length<=sizeLine) (hr:Room k callerA)
  (F:∀ base:Heap,K.In base->base.Ns mainGlobals mg->FnOk P w K mg base CX k fa fd [x] sp) (hbind:∀ (s:Shared) (u:Value),BindsTo s fd ⟨[u],[]⟩ [(x,u)])
  (hsp:∀ H:Hp,zLW H->SqL K H a (ns.map V.int)->sp [.ref a] H (fun v _=>v=.bl true) fun _ _ _=>False)
  (hCX:∀ H e s',CX [] H s₁ (fun _ _ _=>False) e s'->False) :
  codeAny (model P w) callerA (.call (.ref fa) ⟨[.ref a],[]⟩) (fun r s'=>r=.ok (.ret (.bool true))/\OldK s₁.heap s'.heap/\s'.os=s₁.os/\AllBare s'.gens) s₁:=by
 have rv:=zCC hi
 have lenV:=hi.length
 have core:∀ H:Hp,zLW H->SqL K H a (ns.map V.int)->HOk P w H s₁.heap->(∀ b,H b ≠ none->b=a)->(H a ≠ none->K.lookup a=none) ->
   codeAny (model P w) callerA (.call (.ref fa) ⟨[.ref a],[]⟩) (fun r s'=>r=.ok (.ret (.bool true))/\OldK s₁.heap s'.heap/\s'.os=s₁.os/\AllBare s'.gens) s₁:=by
  intro H hO hS hok hA hK
  have base_of:∀ {b:Addr} {o:Obj},s₁.heap.get? b=some o->H b=none->(zC6 s₁.heap H).get? b=some o:=fun e n=>zIF e n
  have noA:∀ {b:Addr} {o:Obj} {es:Array DictEntry} {ep:Nat},s₁.heap.get? b=some o->o.data=.dict es ep->H b=none:=fun {b o es ep} e d=>by
   cases q:H b with
   | none=>rfl
   | some u =>
    have e':b=a:=hA b (by rw[q];simp)
    subst e'
    rw[ha] at e;cases e
    have d':Data.seq vs.toArray _=Data.dict es ep:=d
    cases d'
  have nsK:∀ {b:Addr} {m:Str->Option Value},s₁.heap.Ns b m->(zC6 s₁.heap H).Ns b m:=fun {b m} ⟨o,es,ep,e,d,r⟩=>⟨o,es,ep,base_of e (noA e d),d,r⟩
  have hKb:K.In (zC6 s₁.heap H):=fun b o e=>base_of (KX b o e) (by
   cases q:H b with
   | none=>rfl
   | some u =>
    have e':b=a:=hA b (by rw[q];simp)
    subst e'
    rw[hK (by rw[q];simp)] at e;cases e)
  have hM:Mod K mg (zC6 s₁.heap H):=⟨hKb,nsK hns,⟨mb,nsK hb,hbb⟩,let ⟨mc,h1,h2⟩:=hlim;⟨mc,nsK h1,h2⟩⟩
  have e0:Env0 P w K mg (zC6 s₁.heap H) callerA [] s₁ H:=⟨rfl,hM,fun b o e=>zJq e,Nat.le_of_eq (zG4 _ _),trivial,fun b hb=>absurd (show b∈([]:List Addr) from hb) (by simp),hok,.of_eq hg⟩
  refine codeAny_mono ((F _ hKb (nsK hns)).run callerA [] s₁ H ⟨[.ref a],[]⟩ [.ref a] [.ref a] _ _ hr e0 (hbind s₁ (.ref a)) (.cons rfl .nil) (hsp H hO hS)) fun r s' h=>?_
  cases r with
  | error e=>exact (hCX H e s' h).elim
  | ok fl =>
   cases fl with
   | next=>exact False.elim h
   | brk=>exact False.elim h
   | cont=>exact False.elim h
   | ret u =>
    obtain⟨v,H',os,bare,un,hok',r',q⟩:=h
    have q':v=.bl true:=q
    subst q'
    obtain rfl:u=Value.bool true:=r'
    refine⟨rfl,OldK.of_keep fun b o e=>?_,os,bare⟩
    cases q:H b with
    | none=>exact un.keep b o e q (by intro z;exact absurd (show b∈([]:List Addr) from z) (by simp)) (by simp)
    | some u =>
     rcases hO b with z | ⟨ob,xs,z⟩
     ·rw[q] at z;cases z
     ·have z2:=un.frzs b ob _ z
      obtain⟨e1,_⟩:=hok b _ z
      obtain⟨e2,_⟩:=hok' b _ z2
      rw[e] at e1;cases e1
      exact e2
 cases hk:K.lookup a with
 | some o =>
  have e:=KX a o hk
  rw[ha] at e
  cases e
  refine core (fun _=>none) (fun _=>.inl rfl) (.inr ⟨_,vs.toArray,_,hk,rfl,rfl,rfl,by rw[List.size_toArray,lenV];exact hl,by simpa using rv⟩) (fun b u z=>by have z':(none:Option HO)=some u:=z;cases z') (fun b z=>absurd rfl z) fun z=>absurd rfl z
 | none =>
  refine core (fun b=>if b=a then some (.frz { cls:=.type "list",data:=.seq vs.toArray } (.lst (ns.map V.int))) else none) (fun b=>?_) (.inl (.inr ⟨{ cls:=.type "list",data:=.seq vs.toArray },if_pos rfl⟩)) (fun b u z=>?_) (fun b z=>?_) fun _=>hk
  ·by_cases hb:b=a
   ·exact .inr ⟨_,_,if_pos hb⟩
   ·exact .inl (if_neg hb)
  ·by_cases hb:b=a
   ·have z':=(if_pos hb).symm.trans z
    cases z'
    subst hb
    exact⟨ha,by rw[List.length_map];exact hl,vs,_,rv,ha⟩
   ·have z':=(if_neg hb).symm.trans z
    cases z'
  ·by_cases hb:b=a
   ·exact hb
   ·exact absurd (if_neg hb) z
end L2
namespace L2
open PySem PySem.Spec PyProof.Rows
end L2
namespace L2
open PySem PySem.Spec PyProof.Rows
def Qg (s:Stmt) (j:Nat):Stmt:=match s with
 | .ClassDef _ _ _ body _ _ _ _ _ _ _=>body.getD j (.Pass ⟨0,0,0,0⟩)
 | _=>.Pass ⟨0,0,0,0⟩
def YE (s:Stmt):Arguments:=match s with
 | .FunctionDef _ a _ _ _ _ _ _ _ _=>a
 | _=>{ posonlyargs:=[],args:=[],vararg:=none,kwonlyargs:=[],kw_defaults:=[],kwarg:=none,defaults:=[] }
def Q5 (s:Stmt):List Stmt:=match s with
 | .FunctionDef _ _ b _ _ _ _ _ _ _=>b
 | _=>[]
def QJ (s:Stmt):Scope:=match s with
 | .FunctionDef _ _ _ _ _ _ sc _ _ _=>sc
 | _=>{ kind:=.function,names:=[],isGenerator:=false,isCoroutine:=false }
abbrev CX0:CXT:=fun _ _ _ _ _ _=>False
abbrev E0:XK:=fun _ _ _=>False
theorem QR {X:Cx}:Yo CX0 X E0:=fun _ _ _ _ _ _ _ h=>h.elim
structure Fun (K:W.Frag) (x qual:Str) (st:Stmt) (f:Addr) (fd:FuncData):Prop where
 ex:∃ (oc:Value) (od:Option Addr) (kV doc pm:Value) (an:Option Addr) (cdv ct:Value) (osl:Array (Option Value)),
  fd=W.fnOf x qual (YE st) (Q5 st) (QJ st) .none kV doc pm an cdv ct/\K.lookup f=some ⟨oc,od,.func fd,osl⟩/\W.codeIn K cdv qual=true
 kp:W.keepIn K (.ref f)=true
section
variable {P:Program} {w:World} {K:W.Frag} {mg:Str->Option Value} {base:Heap}
theorem Fun.ok {x qual:Str} {st:Stmt} {f:Addr} {fd:FuncData} {N ps:List Str} {k:Nat} {sp:Sp} (F:Fun K x qual st f fd) (S:FnScope N ps (QJ st)) (len:∀ vs H Q E,sp vs H Q E->vs.length=ps.length)
  (hbody:∀ (cdv:Value) (A:Around) (outer:List Env) (s:Shared) (H:Hp) (vs:List V) (Q:VK) (E:XK),Room k (A.deeper (envOfC qual (QJ st) s.heap.objs.size f cdv))->sp vs H Q E ->
   ∃ t,PSs (zBn CX0 P w K mg base N qual (QJ st) f cdv A outer s H E).nox (Q5 st) t/\t { nx:=fun _ H'=>Q .non H',rt:=Q } (WD N vs) H):FnOk P w K mg base CX0 (k+1) f fd ps sp:=by
 obtain⟨oc,od,kV,doc,pm,an,cdv,ct,osl,rfl,lk,hcd⟩:=F.ex
 refine zHv lk hcd S len fun A outer s H vs Q E hr hsp=>?_
 obtain⟨t,h,q⟩:=hbody cdv A outer s H vs Q E hr hsp
 exact⟨t,h.nox,q⟩
theorem Fun.binds {x qual:Str} {st:Stmt} {f:Addr} {fd:FuncData} {ps:List Str} (F:Fun K x qual st f fd)
  (h:∀ (kV doc pm:Value) (an:Option Addr) (cdv ct:Value) (us:List Value),us.length=ps.length->bindArgs (W.fnOf x qual (YE st) (Q5 st) (QJ st) .none kV doc pm an cdv ct) ⟨us,[]⟩=pure (ps.zip us)):Binds K fd ps []:=by
 obtain⟨oc,od,kV,doc,pm,an,cdv,ct,osl,rfl,lk,hcd⟩:=F.ex
 exact .all (h kV doc pm an cdv ct)
theorem zMA {x qual:Str} {st:Stmt} {f:Addr} {oc:Value} {od an:Option Addr} {osl:Array (Option Value)} {kV doc pm cdv ct:Value} (l:K.lookup f=some ⟨oc,od,.func (W.fnOf x qual (YE st) (Q5 st) (QJ st) .none kV doc pm an cdv ct),osl⟩)
  (c:W.codeIn K cdv qual=true) (k:W.keepIn K (.ref f)=true):Fun K x qual st f (W.fnOf x qual (YE st) (Q5 st) (QJ st) .none kV doc pm an cdv ct):=⟨⟨oc,od,kV,doc,pm,an,cdv,ct,osl,rfl,l,c⟩,k⟩
end
theorem zB7 {n:Nat} (h:n<=1000):n < sizeLine:=Nat.lt_of_le_of_lt h (by decide)
section
variable {X:Cx}
theorem pv (i:Nat) {x:Str} {pos:Pos} (hN:X.N[i]? = some x:=by rfl) (hv:Vis X.env.scope x:=by first | exact Or.inl rfl | exact Or.inr (Or.inl rfl) | exact Or.inr (Or.inr rfl)) (hd:(x == ("__debug__" : Str))=false:=by decide)
  (hcd:(x == ("__classdict__" : Str))=false:=by decide):PE X (.Name x pos) (zJI i):=zLd hN hv hd hcd
end
theorem zHn {A B:Prop} (h:B):if false=true then A else B:=by
 rw[if_neg Bool.false_ne_true]
 exact h
theorem zMl {A B:Prop} (h:A):if true=true then A else B:=by
 rw[if_pos rfl]
 exact h
theorem YZ {c A B:Prop} [Decidable c] (h1:c->A) (h2:¬ c->B):if c then A else B:=by
 by_cases h:c
 ·rw[if_pos h]
  exact h1 h
 ·rw[if_neg h]
  exact h2 h
def Same (H H':Hp):Prop:=∀ b o,H b=some o->H' b=some o
theorem Same.refl (H:Hp):Same H H:=fun _ _ h=>h
theorem Same.trans {H H1 H2:Hp} (a:Same H H1) (b:Same H1 H2):Same H H2:=fun c o h=>b c o (a c o h)
theorem Same.free {H H':Hp} (e:Same H H') {l:Addr} (h:H' l=Option.none):H l=Option.none:=by
 cases q:H l with
 | none=>rfl
 | some o =>
  rw[e l o q] at h
  cases h
theorem Same.seq {K:W.Frag} {H H':Hp} {a:Addr} {xs:List V} (e:Same H H') (h:SqL K H a xs):SqL K H' a xs:=by
 rcases h with (h | ⟨o,h⟩) | h
 ·exact .inl (.inl (e _ _ h))
 ·exact .inl (.inr ⟨o,e _ _ h⟩)
 ·exact .inr h
end L2
namespace L2
open PySem PySem.Spec PyProof.Rows
section
variable {X:Cx}
def Yc (K:W.Frag):List V->Hp->VK->Prop:=fun xs H Q=>∃ x T t b,xs=[x,.ty T]/\TyOf K H x (.type t)/\W.kitOne K (.type t) (.type T)=some b/\Q (.bl b) H
theorem QZ:ZD X (.builtin "isinstance") (Yc X.K):=by
 intro pins s σ H xs us Q I r h
 obtain⟨x,T,t,b,rfl,ty,e,q⟩:=h
 obtain⟨u,w',rfl,r1,r2⟩:=zK3 r
 cases (show w'=Value.type T from r2)
 exact zHC I r1 ty e fun tk=>⟨.bl b,H,I.tok _,rfl,q⟩
end
section
variable {K:W.Frag} {H:Hp} {Q:VK} {T t:String}
theorem Qu {x:V} {b:Bool} (ty:TyOf K H x (.type t)) (one:∀ t',TyOf K H x (.type t')->t'=t) (e:W.kitOne K (.type t) (.type T)=some b):Yc K [x,.ty T] H Q=Q (.bl b) H:=by
 refine propext ⟨fun h=>?_,fun q=>⟨x,T,t,b,rfl,ty,e,q⟩⟩
 obtain⟨y,T',t',b',e1,ty',e',q⟩:=h
 obtain⟨rfl,e2⟩:=List.cons.inj e1
 obtain⟨e3,_⟩:=List.cons.inj e2
 cases e3
 rw[one t' ty',e] at e'
 cases e'
 exact q
theorem zAb {i:Int}:∀ t',TyOf K H (.int i) (.type t')->t' = "int" := fun _ h=>by cases h;rfl
theorem zDI {i:Bool}:∀ t',TyOf K H (.bl i) (.type t')->t' = "bool" := fun _ h=>by cases h;rfl
theorem zAZ {i:Str}:∀ t',TyOf K H (.str i) (.type t')->t' = "str" := fun _ h=>by cases h;rfl
theorem zAX:∀ t',TyOf K H .non (.type t')->t' = "NoneType" := fun _ h=>by cases h;rfl
theorem zAc {a:Addr} {xs:List V} (e:H a=some (.tup xs)):∀ t',TyOf K H (.ref a) (.type t')->t' = "tuple" := fun _ h=>by
 cases h with
 | lst q=>rw[e] at q;cases q
 | frz q=>rw[e] at q;cases q
 | tup q=>rfl
 | dK q=>rw[e] at q;cases q
 | dT q=>rw[e] at q;cases q
theorem zC4 {a:Addr} {xs:List V} (e:H a=some (.lst xs)):∀ t',TyOf K H (.ref a) (.type t')->t' = "list" := fun _ h=>by
 cases h with
 | lst q=>rfl
 | frz q=>rfl
 | tup q=>rw[e] at q;cases q
 | dK q=>rw[e] at q;cases q
 | dT q=>rw[e] at q;cases q
theorem zES {a:Addr} {xs:List (Key × V)} (e:H a=some (.dK xs)):∀ t',TyOf K H (.ref a) (.type t')->t' = "dict" := fun _ h=>by
 cases h with
 | lst q=>rw[e] at q;cases q
 | frz q=>rw[e] at q;cases q
 | tup q=>rw[e] at q;cases q
 | dK q=>rfl
 | dT q=>rfl
theorem zD1 {i:Int}:Yc K [.int i,.ty "str"] H Q=Q (.bl false) H:=Qu (.int i) zAb rfl
theorem zBr {i:Int}:Yc K [.int i,.ty "tuple"] H Q=Q (.bl false) H:=Qu (.int i) zAb rfl
theorem zEK {i:Int}:Yc K [.int i,.ty "int"] H Q=Q (.bl true) H:=Qu (.int i) zAb rfl
theorem zCz {i:Int}:Yc K [.int i,.ty "bool"] H Q=Q (.bl false) H:=Qu (.int i) zAb rfl
theorem zE7 {i:Bool}:Yc K [.bl i,.ty "str"] H Q=Q (.bl false) H:=Qu (.bl i) zDI rfl
theorem zCs {i:Bool}:Yc K [.bl i,.ty "tuple"] H Q=Q (.bl false) H:=Qu (.bl i) zDI rfl
theorem zEg {i:Bool}:Yc K [.bl i,.ty "int"] H Q=Q (.bl true) H:=Qu (.bl i) zDI rfl
theorem zDV {i:Bool}:Yc K [.bl i,.ty "bool"] H Q=Q (.bl true) H:=Qu (.bl i) zDI rfl
theorem zD2 {i:Str}:Yc K [.str i,.ty "str"] H Q=Q (.bl true) H:=Qu (.str i) zAZ rfl
theorem zBb {i:Str}:Yc K [.str i,.ty "tuple"] H Q=Q (.bl false) H:=Qu (.str i) zAZ rfl
theorem zD5 {i:Str}:Yc K [.str i,.ty "int"] H Q=Q (.bl false) H:=Qu (.str i) zAZ rfl
theorem zC0 {i:Str}:Yc K [.str i,.ty "bool"] H Q=Q (.bl false) H:=Qu (.str i) zAZ rfl
theorem zEG:Yc K [.non,.ty "str"] H Q=Q (.bl false) H:=Qu .non zAX rfl
theorem zBl:Yc K [.non,.ty "tuple"] H Q=Q (.bl false) H:=Qu .non zAX rfl
theorem zEP:Yc K [.non,.ty "int"] H Q=Q (.bl false) H:=Qu .non zAX rfl
theorem zCS:Yc K [.non,.ty "bool"] H Q=Q (.bl false) H:=Qu .non zAX rfl
theorem YX {a:Addr} {xs:List V} (e:H a=some (.tup xs)):Yc K [.ref a,.ty "str"] H Q=Q (.bl false) H:=Qu (.tup e) (zAc e) rfl
theorem Qt {a:Addr} {xs:List V} (e:H a=some (.tup xs)):Yc K [.ref a,.ty "tuple"] H Q=Q (.bl true) H:=Qu (.tup e) (zAc e) rfl
theorem Zw {a:Addr} {xs:List V} (e:H a=some (.tup xs)):Yc K [.ref a,.ty "int"] H Q=Q (.bl false) H:=Qu (.tup e) (zAc e) rfl
theorem JO {a:Addr} {xs:List V} (e:H a=some (.tup xs)):Yc K [.ref a,.ty "bool"] H Q=Q (.bl false) H:=Qu (.tup e) (zAc e) rfl
theorem Z0 {a:Addr} {xs:List V} (e:H a=some (.lst xs)):Yc K [.ref a,.ty "str"] H Q=Q (.bl false) H:=Qu (.lst e) (zC4 e) rfl
theorem ZL {a:Addr} {xs:List V} (e:H a=some (.lst xs)):Yc K [.ref a,.ty "tuple"] H Q=Q (.bl false) H:=Qu (.lst e) (zC4 e) rfl
theorem WA {a:Addr} {xs:List V} (e:H a=some (.lst xs)):Yc K [.ref a,.ty "int"] H Q=Q (.bl false) H:=Qu (.lst e) (zC4 e) rfl
theorem Wj {a:Addr} {xs:List (Key × V)} (e:H a=some (.dK xs)):Yc K [.ref a,.ty "str"] H Q=Q (.bl false) H:=Qu (.dK e) (zES e) rfl
theorem Zg {a:Addr} {xs:List (Key × V)} (e:H a=some (.dK xs)):Yc K [.ref a,.ty "tuple"] H Q=Q (.bl false) H:=Qu (.dK e) (zES e) rfl
theorem JB {a:Addr} {xs:List (Key × V)} (e:H a=some (.dK xs)):Yc K [.ref a,.ty "int"] H Q=Q (.bl false) H:=Qu (.dK e) (zES e) rfl
theorem zCl {i j:Int}:rEq (.int i) (.int j) H Q=Q (.bl (decide (i=j))) H:=by
 unfold rEq;rw[show zGZ (.int i) (.int j)=true from rfl];simp
theorem zJ6 {i j:Int}:rNe (.int i) (.int j) H Q=Q (.bl (!decide (i=j))) H:=by
 unfold rNe;rw[show zGZ (.int i) (.int j)=true from rfl];simp
theorem zMR {i j:Bool}:rNe (.bl i) (.bl j) H Q=Q (.bl (!decide (i=j))) H:=by
 unfold rNe;rw[show zGZ (.bl i) (.bl j)=true from rfl];simp
theorem zJx {i j:Str}:rEq (.str i) (.str j) H Q=Q (.bl (decide (i=j))) H:=by
 unfold rEq;rw[show zGZ (.str i) (.str j)=true from rfl];simp
theorem zJb {j:Int}:zMT 10 j=(0<=j/\j<=1000000):=propext ⟨fun h=>⟨h.1,h.2.1⟩,fun h=>⟨h.1,h.2,by decide⟩⟩
theorem zLR {CX:CXT} {P:Program} {w:World} {K:W.Frag} {mg:Str->Option Value} {base:Heap} {N:List Str} {qual:Str} {scope:Scope} {f:Addr} {cd:Value} {A:Around} {outer:List Env} {s:Shared} {H:Hp} {E:XK}:(zBn CX P w K mg base N qual scope f cd A outer s H E).K=K:=rfl
def zGj (J:It) (g:TG) (tb:TS) (D:Ends) (σ:St) (H1:Hp):Prop:=∃ W:Nat->Nat->St->Hp->Prop,(∃ m,W 0 m σ H1)/\∀ i m σ H,W i m σ H ->
 (J.stop i H/\D.nx σ H)\/(J.go i H/\∃ N:St->Hp->Prop,(∀ σ' H',N σ' H'->∃ m',m' < m/\W (i+1) m' σ' H')/\∀ x H',J.yld i H x H'->g x σ H' fun σ2 H2=>tb { D with nx:=N,ct:=N,bk:=D.nx } σ2 H2)
theorem zKb {wi:TI} {g:TG} {tb:TS} {D:Ends} {σ:St} {H:Hp}:zMo wi g tb D σ H=wi σ H fun J H1=>zGj J g tb D σ H1:=rfl
theorem Jz {K:W.Frag} {a:Addr} {xs:List V} {g:TG} {tb:TS} {D:Ends} {σ:St} {H:Hp} (Pv:Nat->St->Hp->Prop) (h0:Pv 0 σ H) (hl:∀ i σ H,i<=xs.length->Pv i σ H->SqL K H a xs)
  (hs:∀ i x σ H,xs[i]? = some x->Pv i σ H->g x σ H fun σ2 H2=>tb { D with nx:=Pv (i+1),ct:=Pv (i+1),bk:=D.nx } σ2 H2) (hd:∀ σ H,Pv xs.length σ H->D.nx σ H):zGj (Itl K a) g tb D σ H:=zI8 Pv h0 hl hs hd
theorem zHj {K:W.Frag} {a:Addr} {xs:List V} {g:TG} {tb:TS} {D:Ends} {σ:St} {H:Hp} (Pv:Nat->St->Hp->Prop) (h0:Pv 0 σ H) (hl:∀ i σ H,i<=xs.length->Pv i σ H->SqT K H a xs)
  (hs:∀ i x σ H,xs[i]? = some x->Pv i σ H->g x σ H fun σ2 H2=>tb { D with nx:=Pv (i+1),ct:=Pv (i+1),bk:=D.nx } σ2 H2) (hd:∀ σ H,Pv xs.length σ H->D.nx σ H):zGj (Itt K a) g tb D σ H:=zJ8 Pv h0 hl hs hd
theorem Zh {lo:Int} {n:Nat} {g:TG} {tb:TS} {D:Ends} {σ:St} {H:Hp} (Pv:Nat->St->Hp->Prop) (h0:Pv 0 σ H)
  (hs:∀ i σ H,i < n->Pv i σ H->g (.int (lo+i)) σ H fun σ2 H2=>tb { D with nx:=Pv (i+1),ct:=Pv (i+1),bk:=D.nx } σ2 H2) (hd:∀ σ H,Pv n σ H->D.nx σ H):zGj (Itr lo n) g tb D σ H:=zGv Pv h0 hs hd
end
end L2
namespace L2
open PySem PySem.Spec PyProof.Rows
def cxC (X:Cx) (scope:Scope) (cl:List (Str × Addr)) (x:Str) (cs:List Str) (C:Addr) (s₀:Shared) (H₀:Hp) (fp:List Addr):Cx where
 prog:=X.prog
 w:=X.w
 K:=X.K
 mg:=X.mg
 base:=X.base
 A:=X.A
 N:=x::cs
 s₀:=s₀
 H₀:=H₀
 env:=compEnvC scope cl C X.env
 outer:=X.stack
 stack:=X.stack
 ex:=fp
 fn:=fun y=>y == x
 calm:=X.calm
 pn:=[]
 xe:=fun _ _=>False
def Y6 (σ:St) (js:List Nat):St:=js.map fun j=>(σ[j]?).getD none
structure CScope (X:Cx) (scope:Scope) (cl:List (Str × Addr)) (x:Str) (cs:List Str) (js:List Nat):Prop where
 clos:closureFor scope X.env=pure cl
 kind:scope.kind=.function
 nocell:∀ y∈scope.names,y.2 ≠ .cell
 names:∀ y∈scope.names,y.2=.local->scope.names.lookup y.1=some .local
 lx:scope.names.lookup x=some .local
 sub:∀ y c,cl.lookup y=some c->X.env.cells.lookup y=some c
 has:∀ y,((relabel scope X.env).names.lookup y=some .cell\/(relabel scope X.env).names.lookup y=some .free)->∃ c,cl.lookup y=some c
 nox:cl.lookup x=none
 nd:(x::cs).Nodup
 cap:Paired (fun y j=>X.N[j]? = some y) cs js
 capk:∀ y∈cs,(X.env.kindOf y=some .cell\/X.env.kindOf y=some .free)/\((relabel scope X.env).names.lookup y=some .cell\/(relabel scope X.env).names.lookup y=some .free)
def zCG (J:It) (tc:TT) (te:TE) (τ:St) (fin:List V->Hp->Prop) (H1:Hp):Prop:=∃ W:Nat->Nat->List V->Hp->Prop,(∃ m,W 0 m [] H1)/\∀ i m ys H,W i m ys H ->
 (J.stop i H/\fin ys H)\/(J.go i H/\ys.length < sizeLine/\∃ N:List V->Hp->Prop,(∀ ys' H',N ys' H'->∃ m',m' < m/\W (i+1) m' ys' H')/\∀ v H',J.yld i H v H'->tc (some v::τ) H' fun b H2=>if b=true then te (some v::τ) H2 (fun y H3=>N (ys++[y]) H3) else N ys H2)
def zCH (wi:TI) (js:List Nat) (tc:TT) (te:TE):TE:=fun σ H Q=>wi σ H fun J H1=>zCG J tc te (Y6 σ js) (fun ys H2=>∀ p,H2 p=none->Q (.ref p) (upd H2 p (.lst ys))) H1
def zIs:TT:=fun _ H Q=>Q true H
def zBm (X:Cx) (ifs:List Expr) (t:TT):Prop :=
 ∀ (pins:List (Addr × Obj)) (s:Shared) (σ:St) (H:Hp) (Q:Bool->Hp->Prop),Inv X pins σ H s->t σ H Q ->
  wpAny (model X.prog X.w) X.A (forIn ifs true fun c r=>if r=true then do let ok ← isTrue c X.env (eval c X.env);pure (ForInStep.yield ok) else pure (ForInStep.yield r)) (TP X pins σ Q) X.xe s
theorem zEN {X:Cx}:zBm X [] zIs:=fun _ _ _ H _ I h=>wpAny_tests_nil ⟨H,I,h⟩
theorem zA5 {X:Cx} {c:Expr} {t:TT} (h:PT X c t):zBm X [c] t:=fun pins s σ H Q I q=>wpAny_tests_one (h pins s σ H Q I q)
theorem HOk.track {P:Program} {w:World} {H:Hp} {h:Heap} {a:Addr} {o:HO} (x:HOk P w H h) (hn:H a=none) (new:ObjOk P w (upd H a o) h a o):HOk P w (upd H a o) h:=fun b u e=>by
 by_cases hb:b=a
 ·subst hb;rw[QF] at e;cases e;exact new
 ·rw[QG hb] at e
  exact (x b u e).stay (fun c v _ q=>q) (fun c q=>by rw[QG (QI q hn)];exact q) fun c xs q=>by rw[QG (QI q hn)];exact q
section
variable {X:Cx} {scope:Scope} {cl:List (Str × Addr)} {x:Str} {cs:List Str} {js:List Nat} {pins:List (Addr × Obj)} {σ:St} {H:Hp} {s:Shared}
theorem zLY {C:Addr} {fp:List Addr} (S:CScope X scope cl x cs js) (I:Inv X pins σ H s) (hC:s.heap.objs.size<=C) (hf:∀ b∈fp,Zv X pins H b) (hlt:∀ b∈fp,b < s.heap.objs.size) :
  (cxC X scope cl x cs C s H fp).Ok where
 mod:=I.ok.mod
 kind:=S.kind
 glob:=I.ok.glob
 blt:=I.ok.blt
 above:=hC
 inj:=fun y z c h1 h2=>I.ok.inj y z c (S.sub y c h1) (S.sub z c h2)
 has:=fun y h=>S.has y h
 cab:=fun y c h1 h2=>by
  have e:y=x:=eq_of_beq h1
  subst e
  have h2':cl.lookup y=some c:=h2
  rw[S.nox] at h2'
  cases h2'
 hd:=I.ok.hd
 frames:=I.ok.frames
 stk:=.inl rfl
 exf:=fun b hb=>⟨fun e=>absurd (hlt b hb) (Nat.not_lt.mpr (by rw[show b=C from e];exact hC)),fun y c h=>(hf b hb).2.2.2.2.1 y c (S.sub y c h)⟩
 bs:=fun b o e=>⟨(I.bs b o e).1,(I.bs b o e).2⟩
 bsz:=Nat.le_trans I.ok.bsz I.sz
 noex:=fun b o e hb=>by
  rcases (hf b hb).2.2.2.1 with z | z
  ·exact I.ok.noex b o e z
  ·exact absurd (Nat.lt_of_lt_of_le (Heap.lt_size e) (Nat.le_trans I.ok.bsz z)) (Nat.lt_irrefl _)
 exfs:=fun b hb z=>by
  rcases List.mem_cons.mp (I.stkSub b z) with e | e
  ·exact (hf b hb).2.1 e
  ·exact (hf b hb).2.2.1 e
 funs:=I.stack
 frf:=fun b hb=>I.stkFree b hb
theorem Y4 {α β:Type} {F:α->β->Prop}:∀ {l:List α} {l':List β} {k:Nat} {a:α},Paired F l l'->l[k]? = some a->∃ b,l'[k]? = some b/\F a b
 | _,_,_,_,.nil,e=>by simp at e
 | _,_,0,_,.cons r _,e=>by simp at e;subst e;exact⟨_,rfl,r⟩
 | _,_,k+1,a,.cons _ t,e=>by
  obtain⟨b,h1,h2⟩:=Y4 (k:=k) (a:=a) t (by simpa using e)
  exact⟨b,by simpa using h1,h2⟩
theorem zDb {σ:St} {js:List Nat}:(Y6 σ js).length=js.length:=by unfold Y6;rw[List.length_map]
theorem Inv.newfs (I:Inv X pins σ H s) {a:Addr} (h:s.heap.objs.size<=a):a ∉ frs X.stack:=fun hb=>by
 rcases List.mem_cons.mp (I.stkSub a hb) with e | e
 ·exact absurd I.lt (Nat.not_lt.mpr (by rw[← e];exact h))
 ·exact I.nofs h e
theorem zEc {C D:Addr} {fp:List Addr} {h₁:Heap} {tk:Nat} {oD:Obj} (S:CScope X scope cl x cs js) (I:Inv X pins σ H s) (hf:∀ b∈fp,Zv X pins H b) (hlt:∀ b∈fp,b < s.heap.objs.size)
  (hD:s.heap.objs.size<=D) (hC:s.heap.objs.size<=C) (hDC:D ≠ C) (hns:h₁.Ns C (fun _=>none)) (keep:∀ b o,s.heap.get? b=some o->h₁.get? b=some o) (eD:h₁.get? D=some oD) (hoD:∀ v,oD.data ≠ .cell v) :
  Inv (cxC X scope cl x cs C s H fp) [(D,oD)] (none::Y6 σ js) H { s with heap:=h₁,toks:=tk }:=by
 refine⟨zLY S I hC hf hlt,rfl,I.bare,Un.kept keep,⟨_,hns,fun i y v h1 h2 h3=>?_⟩,fun y c e=>?_,I.hok.fresh hC,fun y c e=>I.freeC y c (S.sub y c e),fun p hp=>?_,I.hok.kept keep,?_⟩
 ·cases i with
  | zero=>simp at h2
  | succ k =>
   have h1':cs[k]? = some y:=by
    have z:(x::cs)[k+1]? = some y:=h1
    simpa using z
   have h2':(Y6 σ js)[k]? = some (some v):=by simpa using h2
   obtain⟨j,ej,ey⟩:=Y4 S.cap h1'
   have e2:σ[j]? = some (some v):=by
    unfold Y6 at h2'
    rw[List.getElem?_map,ej] at h2'
    have h3':(σ[j]?).getD none=some v:=by simpa using h2'
    cases q:σ[j]? with
    | none=>rw[q] at h3';cases h3'
    | some w'=>rw[q] at h3';exact congrArg some h3'
   obtain⟨k1,k2⟩:=S.capk y (List.mem_of_getElem? h1')
   obtain⟨m,hn,hl⟩:=I.loc
   obtain⟨u,r,l⟩:=hl j y v ey e2 (by
    rcases k1 with z | z
    ·exact .inr (.inl z)
    ·exact .inr (.inr z))
   refine⟨u,r,.inr ⟨k2,?_⟩⟩
   obtain⟨c',e'⟩:=S.has y k2
   rcases l with ⟨z,_⟩ | ⟨_,c,ec,z⟩
   ·rcases k1 with k1 | k1 <;> (rw[k1] at z;cases z)
   ·have e3:=S.sub y c' e'
    rw[ec] at e3
    cases e3
    obtain⟨o,eo,d⟩:=z
    exact⟨_,e',o,keep _ _ eo,d⟩
 ·obtain⟨v,o,eo,d⟩:=I.cell y c (S.sub y c e)
  exact⟨v,o,keep _ _ eo,d⟩
 ·have e:p=(D,oD):=by
   rcases List.mem_append.mp hp with z | z
   ·exact absurd z (by show p ∉ ([]:List (Addr × Obj));simp)
   ·simpa using z
  subst e
  exact⟨eD,I.hok.fresh hD,hDC,I.newfs hD,hoD⟩
 ·show (none::Y6 σ js).length=(x::cs).length
  rw[List.length_cons,List.length_cons,zDb,Paired.length S.cap]
abbrev YJ (us:List Value) (n:Nat):Obj:={ cls:=.type "list",data:=.seq us.toArray n }
theorem zGk {elt iter:Expr} {px pos:Pos} {ifs:List Expr} {tc:TT} {te:TE} {C D it:Addr} {fp:List Addr} {tn:Nat->Heap->Prop} {J:It} {s₂:Shared} {H₂:Hp} {R:Result->Shared->Prop} {fin:List V->Hp->Prop} {s₃:Shared} {o₀:Option V}
  (hc:X.calm=true) (S:CScope X scope cl x cs js) (hC:s₂.heap.objs.size<=C) (hD:s₂.heap.objs.size<=D) (hDC:D ≠ C) (hlt:∀ b∈fp,b < s₂.heap.objs.size)
  (T:Turn X.prog X.w X.K (.Name x px) J fp it tn)
  (hcells:∀ y c,cl.lookup y=some c->c < s₂.heap.objs.size)
  (hfs:∀ b∈fp,b ∉ frs X.stack) (hDfs:D ∉ frs X.stack)
  (hcf:∀ b∈fp,∀ y c,cl.lookup y=some c->c ≠ b)
  (ht:zBm (cxC X scope cl x cs C s₂ H₂ fp) ifs tc) (he:PE (cxC X scope cl x cs C s₂ H₂ fp) elt te)
  (I₃:Inv (cxC X scope cl x cs C s₂ H₂ fp) [] (o₀::Y6 σ js) H₂ s₃) (st:tn 0 s₃.heap) (hn:∀ b∈fp,H₂ b=none) (eD:s₃.heap.get? D=some (YJ [] 0)) (hDn:H₂ D=none)
  (hW:zCG J tc te (Y6 σ js) fin H₂)
  (hR:∀ s' σ' H' ys us n,Inv (cxC X scope cl x cs C s₂ H₂ fp) [] σ' H' s'->Vals ys us->ys.length<=sizeLine->s'.heap.get? D=some (YJ us n)->H' D=none->fin ys H'->R (.ok .next) s') :
  codeAny (model X.prog X.w) X.A (.compLoop (.ListComp elt [⟨.Name x px,iter,ifs,0⟩] scope pos) 0 (.ref it) (.ref D) (compEnvC scope cl C X.env)) R s₃:=by
 obtain⟨W,⟨m0,w0⟩,turn⟩:=hW
 have bC:∀ b∈fp,b ≠ C:=fun b hb e=>absurd (hlt b hb) (Nat.not_lt.mpr (by rw[e];exact hC))
 have bD:∀ b∈fp,b ≠ D:=fun b hb e=>absurd (hlt b hb) (Nat.not_lt.mpr (by rw[e];exact hD))
 have cD:∀ y c,cl.lookup y=some c->c ≠ D:=fun y c h e=>absurd (hcells y c h) (Nat.not_lt.mpr (by rw[e];exact hD))
 have pinD:∀ {τ:St} {H':Hp} {s':Shared} {us:List Value} {k:Nat},Inv (cxC X scope cl x cs C s₂ H₂ fp) [] τ H' s'->s'.heap.get? D=some (YJ us k)->H' D=none->Inv (cxC X scope cl x cs C s₂ H₂ fp) [(D,YJ us k)] τ H' s' :=
  fun {τ H' s' us k} I e hn=>I.pins_of fun p hp=>by
   have ep:p=(D,YJ us k):=by simpa using hp
   subst ep
   exact⟨e,hn,hDC,hDfs,fun v z=>by
    have z':Data.seq us.toArray k=Data.cell v:=z
    cases z'⟩
 have fpk:∀ {H':Hp} {us:List Value} {k:Nat},(∀ b∈fp,H' b=none)->∀ b∈fp,Zv (cxC X scope cl x cs C s₂ H₂ fp) [(D,YJ us k)] H' b:=fun {H' us k} hn b hb =>
  ⟨hn b hb,bC b hb,hfs b hb,.inl hb,fun y c e=>hcf b hb y c e,fun p hp=>by
   have ep:p=(D,YJ us k):=by
    rcases List.mem_append.mp hp with z | z
    ·exact absurd (show p∈([]:List (Addr × Obj)) from z) (by simp)
    ·simpa using z
   subst ep
   exact Ne.symm (bD b hb)⟩
 refine codeAny_compLoop_tests (env:=compEnvC scope cl C X.env) (fun n s'=>∃ i o H' ys us k,Inv (cxC X scope cl x cs C s₂ H₂ fp) [] (o::Y6 σ js) H' s'/\tn i s'.heap/\(∀ b∈fp,H' b=none)/\Vals ys us/\ys.length<=sizeLine/\s'.heap.get? D=some (YJ us k)/\H' D=none/\W i n ys H') ?_ m0
  ⟨0,o₀,H₂,[],[],0,I₃,st,hn,.nil,Nat.zero_le _,eD,hDn,w0⟩
 rintro n s4 ⟨i,o,H4,ys,us,k,I4,st4,fr4,rv,hz,eD4,hD4,w4⟩
 have I4':=pinD I4 eD4 hD4
 rcases turn i n ys H4 w4 with ⟨stop,f⟩ | ⟨go,hlen,N,hN,step⟩
 ·refine wpAny_mono (T.done (cxC X scope cl x cs C s₂ H₂ fp) rfl rfl rfl hc i [(D,YJ us k)] s4 _ H4 (fun _ _=>False) I4' (fpk fr4) st4 stop) (fun r s5 ⟨hr,I5⟩=>?_) (fun _ _ z=>z.elim)
  subst hr
  show R (.ok .next) s5
  exact hR s5 _ H4 ys us k (I5.pins_of fun p hp=>absurd hp (by simp)) rv hz (I5.pin (D,YJ us k) (List.mem_append_right _ (by simp))).1 hD4 f
 ·refine wpAny_mono (T.item (cxC X scope cl x cs C s₂ H₂ fp) rfl rfl rfl hc i [(D,YJ us k)] s4 _ H4 (fun _ _=>False) I4' (fpk fr4) st4 go) (fun r s5 ⟨u,hr,h5⟩=>?_) (fun _ _ z=>z.elim)
  subst hr
  show wpAny _ _ (letOwnedTupleGo (.Name x px) (.ref it) u >>= fun _=>assign (.Name x px) (compEnvC scope cl C X.env) u) _ _ s5
  refine wpAny_bind (wpAny_mono h5 (fun _ s6 ⟨v,H6,I6,r6,y6,st6,fr6⟩=>?_) (fun _ _ z=>z.elim))
  have I6':=I6.pinned (fpk fr6) (T.obj _ _ st6)
  refine wpAny_assign_Name (JY (X:=cxC X scope cl x cs C s₂ H₂ fp) (i:=0) I6' S.nd rfl (.inl (lookup_relabel_local S.lx)) r6 (fun s7 I7=>?_) (.inl (beq_self_eq_true x)))
  have st7:∀ {τ:St} {H':Hp} {s':Shared},Inv (cxC X scope cl x cs C s₂ H₂ fp) ([(D,YJ us k)]++Zz fp s6.heap) τ H' s'->tn (i+1) s'.heap/\∀ b∈fp,H' b=none:=fun {τ H' s'} I=>by
   refine⟨T.keep _ _ _ st6 fun b hb o e=>(I.pin (b,o) (List.mem_append_right _ (List.mem_append_right _ (Yg hb e)))).1,fun b hb=>?_⟩
   obtain⟨o,e,d⟩:=T.obj _ _ st6 b hb
   exact (I.pin (b,o) (List.mem_append_right _ (List.mem_append_right _ (Yg hb e)))).2.1
  have dD:∀ {τ:St} {H':Hp} {s':Shared},Inv (cxC X scope cl x cs C s₂ H₂ fp) ([(D,YJ us k)]++Zz fp s6.heap) τ H' s'->s'.heap.get? D=some (YJ us k)/\H' D=none:=fun {τ H' s'} I=>by
   have q:=I.pin (D,YJ us k) (List.mem_append_right _ (List.mem_append_left _ (by simp)))
   exact⟨q.1,q.2.1⟩
  refine wpAny_mono (ht _ s7 _ H6 _ I7 (step v H6 y6)) (fun ok s8 ⟨H8,I8,q8⟩=>?_) (fun _ _ z=>False.elim z)
  cases ok with
  | false =>
   obtain⟨m',hm,w8⟩:=hN _ _ q8
   exact⟨m',hm,i+1,some v,H8,ys,us,k,I8.pins_of fun p hp=>absurd hp (by simp),(st7 I8).1,(st7 I8).2,rv,hz,(dD I8).1,(dD I8).2,w8⟩
  | true =>
   rw[if_pos rfl]
   refine wpAny_mono (he _ s8 _ H8 _ I8 q8) (fun xv s9 ⟨y,H9,I9,r9,n9⟩=>?_) (fun _ _ z=>False.elim z)
   obtain⟨m',hm,w9⟩:=hN _ _ n9
   obtain⟨eD9,hD9⟩:=dD I9
   have hl:=rv.length
   refine call_meets F.slot_list_append ⟨_,eD9,rfl⟩ F.entry_list_append (F.args_list_append_2 _ _) (PySem.list_append D us.toArray k xv (by rw[List.size_toArray];omega)) ⟨eD9,?_⟩
   have I9':Inv (cxC X scope cl x cs C s₂ H₂ fp) [] (some v::Y6 σ js) H9 s9:=I9.pins_of fun p hp=>absurd hp (by simp)
   have q:=PySem.IsL.update eD9 (·.push xv)
   have e1:us.toArray.push xv=(us++[xv]).toArray:=by simp
   rw[e1] at q
   have I10:=I9'.turned (h':=s9.heap.update D (Obj.mapSeq (·.push xv))) (t':=s9.toks) (it:=D) (fun b o hb e=>(Heap.get?_update_other s9.heap _ (Ne.symm hb)).trans e) hD9 hDC (.inr hD) (fun y c e=>cD y c e) (fun p hp=>absurd (show p∈([]:List (Addr × Obj)) from hp) (by simp))
   refine⟨m',hm,i+1,some v,H9,ys++[y],us++[xv],_,I10,?_,(st7 I9).2,rv.append (.cons r9 .nil),?_,q,hD9,w9⟩
   ·exact T.keep _ _ _ (st7 I9).1 fun b hb o e=>(Heap.get?_update_other s9.heap _ (Ne.symm (bD b hb))).trans e
   ·rw[List.length_append,List.length_singleton]
    omega
structure Off (X:Cx) (pins:List (Addr × Obj)) (H:Hp) (C:Addr):Prop where
 n:H C=none
 l:C ≠ X.env.locals
 y:X.s₀.heap.objs.size<=C
 c:∀ x c,X.env.cells.lookup x=some c->c ≠ C
 p:∀ p∈X.pn++pins,p.1 ≠ C
theorem Inv.off {h':Heap} {t':Nat} {C:Addr} (I:Inv X pins σ H s) (O:Off X pins H C) (k:Heap.SameBut C s.heap h'):Inv X pins σ H { s with heap:=h',toks:=t' } :=
 I.turned (fun b o hb e=>(k.2 b hb).trans e) O.n O.l (.inr O.y) O.c O.p
theorem zAs {elt iter:Expr} {px pos:Pos} {ifs:List Expr} {tc:TT} {te:TE} {it:Addr} {fp:List Addr} {tn:Nat->Heap->Prop} {J:It} {E:Value->Shared->Prop} {fin:List V->Hp->Prop} {RR:Value->Addr->Result->Shared->Prop}
  (hc:X.calm=true) (S:CScope X scope cl x cs js) (I:Inv X pins σ H s) (T:Turn X.prog X.w X.K (.Name x px) J fp it tn) (st:tn 0 s.heap) (hf:∀ b∈fp,Zv X pins H b)
  (ht:∀ C s₁ H₁,zBm (cxC X scope cl x cs C s₁ H₁ fp) ifs tc) (he:∀ C s₁ H₁,PE (cxC X scope cl x cs C s₁ H₁ fp) elt te) (hW:zCG J tc te (Y6 σ js) fin H)
  (hRR:∀ D C s' ys H' m,Inv X pins σ (upd H' D (.lst ys)) s'->s'.heap.Ns C m->Off X pins (upd H' D (.lst ys)) C->H' D=none->fin ys H'->RR (.ref D) C (.ok .next) s') :
  wpAny (model X.prog X.w) X.A (newList []) (fun acc s₃=>wpAny (model X.prog X.w) X.A (newFunctionEnv scope X.env.globals cl [] X.env.qual none .none (some X.env)) (fun cenv s₄ =>
   codeAny (model X.prog X.w) X.A (.compStart (.ListComp elt [⟨.Name x px,iter,ifs,0⟩] scope pos) 0 (.ref it) acc { cenv with scope:=relabel scope X.env }) (RR acc cenv.locals) s₄) E s₃) E s:=by
 have hlt:∀ b∈fp,b < s.heap.objs.size:=fun b hb=>by
  obtain⟨o,e,_⟩:=T.obj _ _ st b hb
  exact Heap.lt_size e
 refine wpAny_newObj_type (wpAny_newFunctionEnv S.nocell (by intro y hy;simp at hy) (fun h₁ hns₁ hsb₁=>?_) S.kind)
 dsimp only at hns₁ hsb₁ ⊢
 generalize hH2:s.heap.push { cls:=.type "list",dict:=none,data:=.seq ([]:List Value).toArray }=H2 at hns₁ hsb₁ ⊢
 have hC:H2.objs.size=s.heap.objs.size+1:=by rw[← hH2,Heap.size_push]
 have hDC:s.heap.objs.size ≠ H2.objs.size:=by rw[hC];exact Nat.ne_of_lt (Nat.lt_succ_self _)
 have hCle:s.heap.objs.size<=H2.objs.size:=by rw[hC];exact Nat.le_succ _
 have below:∀ b,b < s.heap.objs.size->b ≠ H2.objs.size/\b ≠ s.heap.objs.size:=fun b hb=>⟨by rw[hC];exact Nat.ne_of_lt (Nat.lt_succ_of_lt hb),Nat.ne_of_lt hb⟩
 have old:∀ b o,s.heap.get? b=some o->h₁.get? b=some o:=fun b o e=>hsb₁.extBut b o (below b (Heap.lt_size e)).1 (Heap.get?_push_of_some _ (hH2 ▸ Heap.get?_push_of_some _ e))
 have hacc:h₁.get? s.heap.objs.size=some (YJ [] 0):=hsb₁.extBut _ _ hDC (Heap.get?_push_of_some _ (hH2 ▸ Heap.get?_push_size _ rfl))
 have hDn:H s.heap.objs.size=none:=I.hok.fresh (Nat.le_refl _)
 have I₁:=zEc (C:=H2.objs.size) (D:=s.heap.objs.size) (tk:=s.toks+([]:List (Str × Value)).length) (oD:=YJ [] 0) S I hf hlt (Nat.le_refl _) hCle hDC hns₁ old hacc (fun v z=>by
  have z':Data.seq ([]:List Value).toArray 0=Data.cell v:=z
  cases z')
 have I₁':=I₁.pins_of (pins':=[]) fun p hp=>absurd hp (by simp)
 have stk:tn 0 h₁:=T.keep _ _ _ st fun b _ o e=>old b o e
 have loop:codeAny (model X.prog X.w) X.A (.compLoop (.ListComp elt [⟨.Name x px,iter,ifs,0⟩] scope pos) 0 (.ref it) (.ref s.heap.objs.size) (compEnvC scope cl H2.objs.size X.env)) (RR (.ref s.heap.objs.size) H2.objs.size)
   { s with heap:=h₁,toks:=s.toks+([]:List (Str × Value)).length }:=by
  refine zGk (s₂:=s) (H₂:=H) (fp:=fp) (fin:=fin) hc S hCle (Nat.le_refl _) hDC hlt T (fun y c e=>?_) (fun b hb z=>?_) (I.newfs (Nat.le_refl _)) (fun b hb y c e=>(hf b hb).2.2.2.2.1 y c (S.sub y c e)) (ht _ _ _) (he _ _ _) I₁' stk (fun b hb=>(hf b hb).1) hacc hDn hW ?_
  ·obtain⟨v,q⟩:=I.cell y c (S.sub y c e)
   exact q.lt
  ·rcases List.mem_cons.mp (I.stkSub b z) with e | e
   ·exact (hf b hb).2.1 e
   ·exact (hf b hb).2.2.1 e
  ·intro s' σ' H' ys us n I' rv hz eD hDn' hfin
   have u':Un (frs X.stack) fp H H' s.heap s'.heap:=I'.base
   have u:Un (frs X.stack) fp H (upd H' s.heap.objs.size (.lst ys)) s.heap s'.heap:=⟨u'.keep,u'.slot,fun b o e n hx=>by rw[QG (below b (Heap.lt_size e)).2];exact u'.free b o e n hx,u'.there,
    fun b xs e=>by rw[QG (QI e hDn)];exact u'.tups b xs e,fun b o w' e=>by rw[QG (QI e hDn)];exact u'.frzs b o w' e,fun b ps e=>by
     obtain⟨more,q⟩:=u'.tbls b ps e
     exact⟨more,by rw[QG (QI e hDn)];exact q⟩⟩
   have hok:HOk X.prog X.w (upd H' s.heap.objs.size (.lst ys)) s'.heap:=HOk.track I'.hok hDn' ⟨hz,us,n,rv,eD⟩
   have I2:Inv X pins σ (upd H' s.heap.objs.size (.lst ys)) s':=I.call' (ch:=fp) I'.os u hok I'.bare fun b hb=>⟨(hf b hb).2.2.2.1,(hf b hb).2.1,(hf b hb).2.2.2.2.1,(hf b hb).2.2.2.2.2⟩
   obtain⟨m,hm,_⟩:=I'.loc
   refine hRR _ _ s' ys H' m I2 hm ⟨?_,Ne.symm (below _ I.lt).1,Nat.le_trans I.sz hCle,fun y c e=>?_,fun p hp=>?_⟩ hDn' hfin
   ·rw[QG (Ne.symm hDC)];exact I'.free
   ·obtain⟨v,q⟩:=I.cell y c e
    exact (below _ q.lt).1
   ·exact (below _ (Heap.lt_size (I.pin p hp).1)).1
 exact codeAny_compStart_list loop (T.self X.A 0 _ _ _ stk loop)
theorem zDf {elt iter:Expr} {px pos:Pos} {ifs:List Expr} {wi:TI} {tc:TT} {te:TE} (hc:X.calm=true) (S:CScope X scope cl x cs js) (hi:PI X (.Name x px) iter wi)
  (ht:∀ C s₁ H₁ fp,zBm (cxC X scope cl x cs C s₁ H₁ fp) ifs tc) (he:∀ C s₁ H₁ fp,PE (cxC X scope cl x cs C s₁ H₁ fp) elt te)
  (hs:∀ x,foldedSetIterable iter X.env x=pure x:=by intro _;rfl):PE X (.ListComp elt [⟨.Name x px,iter,ifs,0⟩] scope pos) (zCH wi js tc te):=by
 intro pins s σ H Q I h
 rw[eval_ListComp]
 refine wpAny_comprehension_free (use:=none) rfl hs S.clos S.kind S.names (thn (hi pins s σ H _ I h) fun v s1 h1=>thn h1 fun itv s2 h2=>?_)
 obtain⟨it,fp,tn,J,H2,e,I2,T,st2,f2,hW⟩:=h2
 subst e
 refine zAs (RR:=fun acc C=>compPost (model X.prog X.w) X.A X.xe none (EP X pins σ Q) acc C) hc S I2 T st2 f2 (fun C s₁ H₁=>ht C s₁ H₁ fp) (fun C s₁ H₁=>he C s₁ H₁ fp) hW ?_
 intro D C s' ys H' m I' hm O hD hfin
 exact⟨m,hm,fun h' k=>⟨.ref D,_,I'.off (t':=s'.toks) O k,rfl,hfin D hD⟩⟩
theorem zJD {i:Nat} {y:Str} {py spos:Pos} {elt iter:Expr} {px pos:Pos} {ifs:List Expr} {wi:TI} {tc:TT} {te:TE} (hN:X.N.Nodup) (hi':X.N[i]? = some y) (hy:Loc X.env.scope y) (hc:X.calm=true) (S:CScope X scope cl x cs js) (hi:PI X (.Name x px) iter wi)
  (ht:∀ C s₁ H₁ fp,zBm (cxC X scope cl x cs C s₁ H₁ fp) ifs tc) (he:∀ C s₁ H₁ fp,PE (cxC X scope cl x cs C s₁ H₁ fp) elt te)
  (hsw:swapsWith (.ListComp elt [⟨.Name x px,iter,ifs,0⟩] scope pos) (some (.Name y py)) spos.line X.env=pure true:=by rfl)
  (hf:X.fn y=true\/X.env.scope.names.lookup y=some .local:=by first | exact .inl rfl | exact .inr rfl | assumption)
  (hs:∀ x,foldedSetIterable iter X.env x=pure x:=by intro _;rfl):PS X (.Assign [.Name y py] (.ListComp elt [⟨.Name x px,iter,ifs,0⟩] scope pos) spos) (zEM (zCH wi js tc te) (Wb i)):=by
 intro pins s σ H D I h
 rw[exec_Assign_Name_used _ _ _ _ hsw]
 refine wpAny_bind (wpAny_standAt (wpAny_bind ?_))
 show wpAny _ X.A (do let _ ← comprehension (.ListComp elt [⟨.Name x px,iter,ifs,0⟩] scope pos) scope X.env _ (newList []) false (eval iter X.env) (some (assign (.Name y py) X.env))) _ _ s
 refine wpAny_bind (wpAny_mono (wpAny_comprehension_free (use:=some (assign (.Name y py) X.env)) (Q:=fun _ s'=>SP X pins D .next s') rfl hs S.clos S.kind S.names
  (thn (hi pins s σ H _ I h) fun v s1 h1=>thn h1 fun itv s2 h2=>?_)) (fun _ s' hq=>wpAny_pure (wpAny_pure hq)) fun _ _ e=>e)
 obtain⟨it,fp,tn,J,H2,e,I2,T,st2,f2,hW⟩:=h2
 subst e
 refine zAs (RR:=fun acc C=>compPost (model X.prog X.w) X.A X.xe (some (assign (.Name y py) X.env)) (fun _ s'=>SP X pins D .next s') acc C) hc S I2 T st2 f2 (fun C s₁ H₁=>ht C s₁ H₁ fp) (fun C s₁ H₁=>he C s₁ H₁ fp) hW ?_
 intro D' C s' ys H' m I' hm O hD hfin
 show wpAny _ X.A (assign (.Name y py) X.env (.ref D')) _ _ s'
 refine wpAny_assign_Name (J2 I' hN hi' hy (v:=.ref D') rfl (fun s'' I'' sb=>?_) hf)
 obtain⟨a,sb,ha⟩:=sb
 have hCa:C ≠ a:=by
  rcases ha with e | e
  ·rw[e];exact O.l
  ·exact fun z=>O.c y a e z.symm
 exact⟨m,hm.sameBut sb hCa,fun h' k=>⟨_,_,I''.off (t':=s''.toks) O k,hfin D' hD⟩⟩
end
def YM (env:Env):List (Str × NameKind)->List (Str × Addr)->List (Str × Addr)
 | [],acc=>acc
 | (n,k)::r,acc=>if k=.free then YM env r ((n,(env.cells.lookup n).getD 0)::acc) else YM env r acc
theorem Wa {scope:Scope} {env:Env} (h:∀ y∈scope.names,y.2=.free->(env.cells.lookup y.1).isSome=true):closureFor scope env=pure (YM env scope.names []):=by
 simp only[closureFor]
 generalize scope.names=l at h
 have key:∀ (l:List (Str × NameKind)) (acc:List (Str × Addr)),(∀ y∈l,y.2=.free->(env.cells.lookup y.1).isSome=true)->(do
   let r ← forIn l acc fun x r =>
    if (x.snd == NameKind.free)=true then do
     let c ← cellOf env x.fst
     pure (ForInStep.yield ((x.fst,c)::r))
    else pure (ForInStep.yield r)
   pure r)=(pure (YM env l acc):Sem (List (Str × Addr))):=by
  intro l
  induction l with
  | nil=>intro acc _;rfl
  | cons p r ih =>
   obtain⟨n,k⟩:=p
   intro acc h
   rw[List.forIn_cons]
   by_cases hk:k=.free
   ·have e:=h (n,k) List.mem_cons_self hk
    obtain⟨c,ec⟩:=Option.isSome_iff_exists.mp e
    have ec':env.cells.lookup n=some c:=ec
    have e1:cellOf env n=pure c:=by unfold cellOf;rw[ec']
    subst hk
    have e2:YM env ((n,NameKind.free)::r) acc=YM env r ((n,c)::acc):=by
     show (if NameKind.free=NameKind.free then YM env r ((n,(env.cells.lookup n).getD 0)::acc) else YM env r acc)=_
     rw[if_pos rfl,ec'];rfl
    rw[e2]
    rw[← ih ((n,c)::acc) fun y hy=>h y (List.mem_cons_of_mem _ hy)]
    simp only[beq_self_eq_true,if_true,e1]
    rfl
   ·have e2:YM env ((n,k)::r) acc=YM env r acc:=by
     show (if k=NameKind.free then YM env r ((n,(env.cells.lookup n).getD 0)::acc) else YM env r acc)=_
     rw[if_neg hk]
    rw[e2,← ih acc fun y hy=>h y (List.mem_cons_of_mem _ hy)]
    have hk':(k == NameKind.free)=false:=by simpa using hk
    simp only[hk',Bool.false_eq_true,if_false]
    rfl
 show (forIn l [] _ >>= fun s=>pure s)=_
 rw[key l [] h]
 rfl
theorem WO {env:Env} {y:Str} {c:Addr}:∀ (names:List (Str × NameKind)) (acc:List (Str × Addr)),(∀ z∈names,z.2=.free->(env.cells.lookup z.1).isSome=true)->(∀ z d,acc.lookup z=some d->env.cells.lookup z=some d) ->
  (YM env names acc).lookup y=some c->env.cells.lookup y=some c
 | [],acc,_,ha,h=>ha y c h
 | (n,k)::r,acc,hn,ha,h=>by
  unfold YM at h
  by_cases hk:k=.free
  ·rw[if_pos hk] at h
   refine WO r _ (fun z hz=>hn z (List.mem_cons_of_mem _ hz)) (fun z d hd=>?_) h
   obtain⟨c',ec⟩:=Option.isSome_iff_exists.mp (hn (n,k) List.mem_cons_self hk)
   have ec':env.cells.lookup n=some c':=ec
   rw[List.lookup_cons] at hd
   cases e:z == n with
   | true =>
    rw[e] at hd
    have e':z=n:=eq_of_beq e
    rw[e',ec']
    rw[ec'] at hd
    simpa using hd
   | false=>rw[e] at hd;exact ha z d hd
  ·rw[if_neg hk] at h
   exact WO r acc (fun z hz=>hn z (List.mem_cons_of_mem _ hz)) ha h
theorem JV {env:Env} {y:Str}:∀ (names:List (Str × NameKind)) (acc:List (Str × Addr)),((∃ z∈names,z=(y,.free))\/(acc.lookup y).isSome=true)->((YM env names acc).lookup y).isSome=true
 | [],acc,h=>by
  rcases h with ⟨z,hz,_⟩ | h
  ·cases hz
  ·exact h
 | (n,k)::r,acc,h=>by
  unfold YM
  by_cases hk:k=.free
  ·rw[if_pos hk]
   refine JV r _ ?_
   rcases h with ⟨z,hz,e⟩ | h
   ·rcases List.mem_cons.mp hz with q | q
    ·right
     have e1:n=y:=by
      have:(n,k)=(y,NameKind.free):=q.symm.trans e
      exact (Prod.mk.inj this).1
     subst e1
     rw[List.lookup_cons,beq_self_eq_true];rfl
    ·exact .inl ⟨z,q,e⟩
   ·right
    rw[List.lookup_cons]
    cases e:y == n with
    | true=>rfl
    | false=>exact h
  ·rw[if_neg hk]
   refine JV r _ ?_
   rcases h with ⟨z,hz,e⟩ | h
   ·rcases List.mem_cons.mp hz with q | q
    ·exact absurd (by
      have:(n,k)=(y,NameKind.free):=q.symm.trans e
      exact (Prod.mk.inj this).2) hk
    ·exact .inl ⟨z,q,e⟩
   ·exact .inr h
theorem WN {env:Env} {y:Str}:∀ (names:List (Str × NameKind)) (acc:List (Str × Addr)),(∀ z∈names,z.2=.free->z.1 ≠ y)->acc.lookup y=none->(YM env names acc).lookup y=none
 | [],acc,_,h=>h
 | (n,k)::r,acc,hn,h=>by
  unfold YM
  by_cases hk:k=.free
  ·rw[if_pos hk]
   refine WN r _ (fun z hz=>hn z (List.mem_cons_of_mem _ hz)) ?_
   rw[List.lookup_cons]
   have:n ≠ y:=hn (n,k) List.mem_cons_self hk
   have e:(y == n)=false:=by simpa using Ne.symm this
   rw[e];exact h
  ·rw[if_neg hk]
   exact WN r acc (fun z hz=>hn z (List.mem_cons_of_mem _ hz)) h
structure CompOk (sc scope:Scope) (N:List Str) (x:Str) (cs:List Str) (js:List Nat):Prop where
 k1:scope.kind=.function
 k2:sc.kind=.function
 nocell:∀ y∈scope.names,y.2 ≠ .cell
 names:∀ y∈scope.names,y.2=.local->scope.names.lookup y.1=some .local
 lx:scope.names.lookup x=some .local
 fr:∀ y∈scope.names,y.2=.free->sc.names.lookup y.1=some .cell/\y.1 ≠ x
 nd:(x::cs).Nodup
 cap:js.map (fun j=>N[j]?)=cs.map some
 capk:∀ y∈cs,sc.names.lookup y=some .cell/\scope.names.lookup y=some .free
theorem Jn {N:List Str}:∀ {js:List Nat} {cs:List Str},js.map (fun j=>N[j]?)=cs.map some->Paired (fun y j=>N[j]? = some y) cs js
 | [],[],_=>.nil
 | [],_::_,h=>by simp at h
 | _::_,[],h=>by simp at h
 | j::js,c::cs,h=>by
  rw[List.map_cons,List.map_cons] at h
  obtain⟨h1,h2⟩:=List.cons.inj h
  exact .cons h1 (Jn h2)
theorem Zo {env:Env} {y:Str} (hk:env.scope.kind=.function) (he:env.kindOf y=some .cell):∀ {l:List (Str × NameKind)},l.lookup y=some .free ->
  (l.map fun (n,k)=>if (k == NameKind.free && env.scope.kind == .function && env.kindOf n == some .cell) then (n,NameKind.cell) else (n,k)).lookup y=some .cell
 | [],h=>by cases h
 | (n,k)::r,h=>by
  have ih:=@Zo env y hk he r
  rw[List.lookup_cons] at h
  show List.lookup y ((if (k == NameKind.free && env.scope.kind == .function && env.kindOf n == some .cell)=true then (n,NameKind.cell) else (n,k))::_)=_
  cases e:y == n with
  | true =>
   rw[e] at h
   have e':y=n:=eq_of_beq e
   have e2:k=.free:=by simpa using h
   subst e2 e'
   rw[hk,he]
   simp[List.lookup_cons]
  | false =>
   rw[e] at h
   by_cases hc:(k == NameKind.free && env.scope.kind == .function && env.kindOf n == some .cell)=true
   ·rw[if_pos hc];simp only[List.lookup_cons,e];exact ih h
   ·rw[if_neg hc];simp only[List.lookup_cons,e];exact ih h
theorem ZZ {env:Env} {y:Str}:∀ {l:List (Str × NameKind)},(∀ z∈l,z.2 ≠ NameKind.cell) ->
  ((l.map fun (n,k)=>if (k == NameKind.free && env.scope.kind == .function && env.kindOf n == some .cell) then (n,NameKind.cell) else (n,k)).lookup y=some .cell \/
   (l.map fun (n,k)=>if (k == NameKind.free && env.scope.kind == .function && env.kindOf n == some .cell) then (n,NameKind.cell) else (n,k)).lookup y=some .free)->∃ z∈l,z=(y,NameKind.free)
 | [],_,h=>by rcases h with h | h <;> cases h
 | (n,k)::r,hn,h=>by
  have ih:=@ZZ env y r fun z hz=>hn z (List.mem_cons_of_mem _ hz)
  have h':List.lookup y ((if (k == NameKind.free && env.scope.kind == .function && env.kindOf n == some .cell)=true then (n,NameKind.cell) else (n,k))::r.map fun (n,k)=>if (k == NameKind.free && env.scope.kind == .function && env.kindOf n == some .cell) then (n,NameKind.cell) else (n,k))=some .cell \/
    List.lookup y ((if (k == NameKind.free && env.scope.kind == .function && env.kindOf n == some .cell)=true then (n,NameKind.cell) else (n,k))::r.map fun (n,k)=>if (k == NameKind.free && env.scope.kind == .function && env.kindOf n == some .cell) then (n,NameKind.cell) else (n,k))=some .free:=h
  by_cases hc:(k == NameKind.free && env.scope.kind == .function && env.kindOf n == some .cell)=true
  ·rw[if_pos hc] at h'
   simp only[List.lookup_cons] at h'
   cases e:y == n with
   | true =>
    have e':y=n:=eq_of_beq e
    have ek:k=.free:=by
     rw[Bool.and_eq_true,Bool.and_eq_true] at hc
     simpa using hc.1.1
    exact⟨(n,k),List.mem_cons_self,by rw[e',ek]⟩
   | false =>
    rw[e] at h'
    obtain⟨z,hz,ez⟩:=ih h'
    exact⟨z,List.mem_cons_of_mem _ hz,ez⟩
  ·rw[if_neg hc] at h'
   simp only[List.lookup_cons] at h'
   cases e:y == n with
   | true =>
    rw[e] at h'
    have e':y=n:=eq_of_beq e
    have hkc:k ≠ .cell:=hn (n,k) List.mem_cons_self
    have ek:k=.free:=by
     rcases h' with q | q
     ·exact absurd (by simpa using q) hkc
     ·simpa using q
    exact⟨(n,k),List.mem_cons_self,by rw[e',ek]⟩
   | false =>
    rw[e] at h'
    obtain⟨z,hz,ez⟩:=ih h'
    exact⟨z,List.mem_cons_of_mem _ hz,ez⟩
theorem Wq {X:Cx} {sc scope:Scope} {x:Str} {cs:List Str} {js:List Nat} {qual:Str} {L f:Addr} {cd:Value} (hE:X.env=envOfC qual sc L f cd) (c:CompOk sc scope X.N x cs js):CScope X scope (YM X.env scope.names []) x cs js:=by
 have hcs:∀ y,sc.names.lookup y=some .cell->(X.env.cells.lookup y).isSome=true:=fun y h=>by
  rw[hE]
  exact PySem.W.cellsFrom_some _ _ _ (.inl h)
 have hn:∀ y∈scope.names,y.2=.free->(X.env.cells.lookup y.1).isSome=true:=fun y hy h=>hcs _ (c.fr y hy h).1
 have hk:X.env.scope.kind=.function:=by rw[hE];exact c.k2
 have kd:∀ y,X.env.kindOf y=sc.names.lookup y:=fun y=>by rw[hE];rfl
 refine⟨Wa hn,c.k1,c.nocell,c.names,c.lx,fun y d h=>WO _ _ hn (fun z d h=>by cases h) h,fun y h=>?_,WN _ _ (fun z hz h=>(c.fr z hz h).2) rfl,c.nd,Jn c.cap,fun y hy=>?_⟩
 ·exact Option.isSome_iff_exists.mp (JV _ _ (.inl (ZZ c.nocell h)))
 ·have q:=c.capk y hy
  have q1:X.env.kindOf y=some .cell:=(kd y).trans q.1
  exact⟨.inl q1,.inl (Zo hk q1 q.2)⟩
end L2
namespace L2
open PySem PySem.Spec PyProof.Rows
section
variable {X:Cx}
theorem zFm (x:Str) (cs:List Str) (js:List Nat) {sc scope:Scope} {qual:Str} {L f:Addr} {cd:Value} {elt iter:Expr} {px pos:Pos} {wi:TI} {te:TE} (hE:X.env=envOfC qual sc L f cd) (c:CompOk sc scope X.N x cs js) (hc:X.calm=true) (hi:PI X (.Name x px) iter wi)
  (he:∀ C s₁ H₁ fp,PE (cxC X scope (YM X.env scope.names []) x cs C s₁ H₁ fp) elt te)
  (hs:∀ x,foldedSetIterable iter X.env x=pure x:=by intro _;rfl):PE X (.ListComp elt [⟨.Name x px,iter,[],0⟩] scope pos) (zCH wi js zIs te) :=
 zDf hc (Wq hE c) hi (fun _ _ _ _=>zEN) he hs
theorem zID (x:Str) (cs:List Str) (js:List Nat) {sc scope:Scope} {qual:Str} {L f:Addr} {cd:Value} {elt iter t:Expr} {px pos:Pos} {wi:TI} {tc:TT} {te:TE} (hE:X.env=envOfC qual sc L f cd) (c:CompOk sc scope X.N x cs js) (hc:X.calm=true) (hi:PI X (.Name x px) iter wi)
  (ht:∀ C s₁ H₁ fp,PT (cxC X scope (YM X.env scope.names []) x cs C s₁ H₁ fp) t tc) (he:∀ C s₁ H₁ fp,PE (cxC X scope (YM X.env scope.names []) x cs C s₁ H₁ fp) elt te)
  (hs:∀ x,foldedSetIterable iter X.env x=pure x:=by intro _;rfl):PE X (.ListComp elt [⟨.Name x px,iter,[t],0⟩] scope pos) (zCH wi js tc te) :=
 zDf hc (Wq hE c) hi (fun _ _ _ _=>zA5 (ht _ _ _ _)) he hs
end
def one (c:Nat):V:=.str ⟨#[c]⟩
def Its (x:Str):It:=⟨fun i _=>i < x.cps.size,fun i H v H'=>H'=H/\∃ c,x.cps[i]? = some c/\v=one c,fun i _=>x.cps.size<=i⟩
theorem zIS {P:Program} {w:World} {K:W.Frag} {tg:Expr} (x:Str) (t:Tok) (it:Addr) (ty:String) (hty:ty = "str_ascii_iterator" \/ ty = "str_iterator") :
  Turn P w K tg (Its x) [it] it (fun i h=>h.IsStrIter it ty x t i/\i<=x.cps.size) where
 mem:=by simp
 obj:=fun i h st b hb=>by
  have e:b=it:=by simpa using hb
  subst e
  obtain⟨⟨o,e,c,d⟩,_⟩:=st
  exact⟨o,e,fun v z=>by rw[d] at z;cases z⟩
 keep:=fun i h h' st k=>by
  obtain⟨⟨o,e,r⟩,hi⟩:=st
  exact⟨⟨o,k it (by simp) o e,r⟩,hi⟩
 item:=by
  intro X hP hw hK hc i pins s σ H E I hf st hg
  subst hP hw hK
  obtain⟨f0,f1,f2,f3,f4,f5⟩:=hf it (by simp)
  have W:Walks X.prog X.w X.A it [it] [it] x.cps.size (SignAt x) (fun i h=>h.IsStrIter it ty x t i):=by
   rcases hty with e | e
   ·subst e;exact Walks.strAscii (I.ok.hd hc) it x t
   ·subst e;exact Walks.strWide (I.ok.hd hc) it x t
  have hg':i < x.cps.size:=hg
  refine W.item i s _ _ hg' st.1 fun v h' tk hv st' kk=>?_
  obtain⟨c,u,hcx,rfl⟩:=hv
  have I1:Inv X pins σ H { s with heap:=h',toks:=tk }:=I.turned (fun b o hb e=>kk b o (by simpa using hb) e) f0 f1 f3 f4 f5
  obtain⟨o,e,oc,od⟩:=id st'
  refine⟨_,rfl,zFz (s:={ s with heap:=h',toks:=tk }) (n:=ty) e oc od (by rcases hty with e | e <;> (subst e;decide)) ⟨one c,H,I1,⟨u,rfl⟩,⟨rfl,c,hcx,rfl⟩,⟨st',by omega⟩,fun b hb=>(hf b hb).1⟩⟩
 done:=by
  intro X hP hw hK hc i pins s σ H E I hf st hg
  subst hP hw hK
  obtain⟨f0,f1,f2,f3,f4,f5⟩:=hf it (by simp)
  have W:Walks X.prog X.w X.A it [it] [it] x.cps.size (SignAt x) (fun i h=>h.IsStrIter it ty x t i):=by
   rcases hty with e | e
   ·subst e;exact Walks.strAscii (I.ok.hd hc) it x t
   ·subst e;exact Walks.strWide (I.ok.hd hc) it x t
  have hg':x.cps.size<=i:=hg
  have ei:i=x.cps.size:=Nat.le_antisymm st.2 hg'
  exact W.done s _ _ (ei ▸ st.1) fun h' tk kk=>⟨rfl,I.turned (fun b o hb e=>kk b o (by simpa using hb) e) f0 f1 f3 f4 f5⟩
 self:=fun A i s Q E st h=>by
  rcases hty with e | e
  ·subst e;exact wpAny_pyIter_striter_ascii st.1 h
  ·subst e;exact wpAny_pyIter_striter_wide st.1 h
section
variable {X:Cx} {tg:Expr}
def zM8 (tl:TE):TI:=fun σ H R=>tl σ H fun x H1=>∃ z,x=.str z/\R (Its z) H1
theorem zML {l:Expr} {tl:TE} (hl:PE X l tl):PI X tg l (zM8 tl):=by
 intro pins s σ H R I h
 refine thn (hl pins s σ H _ I h) fun v s1 ⟨x,H1,I1,r1,q1⟩=>?_
 obtain⟨z,e,q⟩:=q1
 subst e
 obtain⟨t,rfl⟩:=r1
 have fin:∀ (ty:String),(ty = "str_ascii_iterator" \/ ty = "str_iterator")->PIE X pins σ tg R (.ref s1.heap.objs.size) { s1 with heap:=s1.heap.push { cls:=.type ty,data:=.fields #[.str z t,.int 0 0] } }:=fun ty hty=>by
  refine⟨s1.heap.objs.size,[s1.heap.objs.size],_,_,H1,rfl,I1.kept (t':=s1.toks) fun b o e=>Heap.get?_push_of_some _ e,zIS z t _ ty hty,⟨⟨_,Heap.get?_push_size _ rfl,rfl,rfl⟩,Nat.zero_le _⟩,fun b hb=>?_,q⟩
  have e:b=s1.heap.objs.size:=by simpa using hb
  subst e
  exact I1.fpOk (Nat.le_refl _) (I1.hok.fresh (Nat.le_refl _))
 cases ha:z.cps.all (· < 128)
 ·exact wpAny_pyIter_wide ha (fin _ (.inr rfl))
 ·exact wpAny_pyIter_ascii ha (fin _ (.inl rfl))
theorem zIV {z:Str} {g:TG} {tb:TS} {D:Ends} {σ:St} {H:Hp} (Pv:Nat->St->Hp->Prop) (h0:Pv 0 σ H)
  (hs:∀ (i:Nat) (c:Nat) σ H,z.cps.toList[i]? = some c->Pv i σ H->g (one c) σ H fun σ2 H2=>tb { D with nx:=Pv (i+1),ct:=Pv (i+1),bk:=D.nx } σ2 H2) (hd:∀ σ H,Pv z.cps.size σ H->D.nx σ H):zGj (Its z) g tb D σ H:=by
 refine⟨fun i m σ H=>m=z.cps.size - i/\i<=z.cps.size/\Pv i σ H,⟨z.cps.size,by simp,Nat.zero_le _,h0⟩,?_⟩
 rintro i m σ H ⟨rfl,hi,p⟩
 by_cases hlt:i < z.cps.size
 ·refine .inr ⟨hlt,Pv (i+1),fun σ' H' p'=>⟨z.cps.size - (i+1),by omega,rfl,hlt,p'⟩,fun x H' y=>?_⟩
  obtain⟨e,c,hc,rfl⟩:=y
  subst e
  exact hs i c σ _ (by simpa using hc) p
 ·have e:i=z.cps.size:=by omega
  subst e
  exact .inl ⟨Nat.le_refl _,hd σ H p⟩
theorem Zr {K:W.Frag} {a:Addr} {xs:List V} {tc:TT} {te:TE} {τ:St} {fin:List V->Hp->Prop} {H:Hp} (Pv:Nat->List V->Hp->Prop) (h0:Pv 0 [] H) (hl:∀ i ys H,i<=xs.length->Pv i ys H->SqL K H a xs) (hz:∀ i ys H,i < xs.length->Pv i ys H->ys.length < sizeLine)
  (hs:∀ (i:Nat) x ys H,xs[i]? = some x->Pv i ys H->tc (some x::τ) H fun b H2=>if b=true then te (some x::τ) H2 (fun y H3=>Pv (i+1) (ys++[y]) H3) else Pv (i+1) ys H2) (hd:∀ ys H,Pv xs.length ys H->fin ys H):zCG (Itl K a) tc te τ fin H:=by
 refine⟨fun i m ys H=>m=xs.length - i/\i<=xs.length/\Pv i ys H,⟨xs.length,by simp,Nat.zero_le _,h0⟩,?_⟩
 rintro i m ys H ⟨rfl,hi,p⟩
 have q:=hl i ys H hi p
 by_cases hlt:i < xs.length
 ·refine .inr ⟨⟨xs,xs[i],q,by simp[hlt]⟩,hz i ys H hlt p,Pv (i+1),fun ys' H' p'=>⟨xs.length - (i+1),by omega,rfl,hlt,p'⟩,fun x H' y=>?_⟩
  obtain⟨e,y⟩:=y
  subst e
  exact hs i x ys _ (y xs q) p
 ·have e:i=xs.length:=by omega
  subst e
  exact .inl ⟨⟨xs,q,Nat.le_refl _⟩,hd ys H p⟩
theorem zGc {K:W.Frag} {a:Addr} {xs:List V} {tc:TT} {te:TE} {τ:St} {fin:List V->Hp->Prop} {H:Hp} (Pv:Nat->List V->Hp->Prop) (h0:Pv 0 [] H) (hl:∀ i ys H,i<=xs.length->Pv i ys H->SqT K H a xs) (hz:∀ i ys H,i < xs.length->Pv i ys H->ys.length < sizeLine)
  (hs:∀ (i:Nat) x ys H,xs[i]? = some x->Pv i ys H->tc (some x::τ) H fun b H2=>if b=true then te (some x::τ) H2 (fun y H3=>Pv (i+1) (ys++[y]) H3) else Pv (i+1) ys H2) (hd:∀ ys H,Pv xs.length ys H->fin ys H):zCG (Itt K a) tc te τ fin H:=by
 refine⟨fun i m ys H=>m=xs.length - i/\i<=xs.length/\Pv i ys H,⟨xs.length,by simp,Nat.zero_le _,h0⟩,?_⟩
 rintro i m ys H ⟨rfl,hi,p⟩
 have q:=hl i ys H hi p
 by_cases hlt:i < xs.length
 ·refine .inr ⟨⟨xs,xs[i],q,by simp[hlt]⟩,hz i ys H hlt p,Pv (i+1),fun ys' H' p'=>⟨xs.length - (i+1),by omega,rfl,hlt,p'⟩,fun x H' y=>?_⟩
  obtain⟨e,y⟩:=y
  subst e
  exact hs i x ys _ (y xs q) p
 ·have e:i=xs.length:=by omega
  subst e
  exact .inl ⟨⟨xs,q,Nat.le_refl _⟩,hd ys H p⟩
end
end L2
namespace L2
open PySem PySem.Spec PyProof.Rows
theorem zJr {c d:Nat}:(one c=one d)=(c=d):=by
 unfold one
 refine propext ⟨fun h=>?_,fun h=>by rw[h]⟩
 injection h with h1
 injection h1 with h2
 simpa using h2
def zMV:List V->Hp->VK->Prop:=fun xs H Q=>∃ c:Nat,xs=[one c]/\Q (.int c) H
theorem zGe {X:Cx}:ZD X (.builtin "ord") zMV:=by
 intro pins s σ H xs us Q I r h
 obtain⟨c,rfl,q⟩:=h
 exact zH6 pins s σ H _ us Q I r ⟨⟨#[c]⟩,rfl,rfl,q⟩
def tst (cs:List Nat):Int:=cs.foldl (fun (h:Int) (c:Nat)=>(31*h+(c:Int)) % 2147483647) 7
theorem zFL (cs:List Nat):∀ h:Int,0<=h->h < 2147483647->0<=cs.foldl (fun (h:Int) (c:Nat)=>(31*h+(c:Int)) % 2147483647) h/\cs.foldl (fun (h:Int) (c:Nat)=>(31*h+(c:Int)) % 2147483647) h < 2147483647:=by
 induction cs with
 | nil=>intro h h0 h1;exact⟨h0,h1⟩
 | cons c r ih =>
  intro h h0 h1
  rw[List.foldl_cons]
  exact ih _ (by omega) (by omega)
theorem zGS (cs:List Nat):0<=tst cs/\tst cs < 2147483647:=zFL cs 7 (by decide) (by decide)
theorem zH9 (cs:List Nat) (c:Nat):tst (cs++[c])=(31*tst cs+(c:Int)) % 2147483647:=by unfold tst;rw[List.foldl_append];rfl
theorem Y0 {α:Type} {l:List α} {i:Nat} {c:α} (h:l[i]? = some c):l.take (i+1)=l.take i++[c]:=by
 rw[List.take_add_one,h];rfl
inductive Kd where
 | num (i:Int)
 | txt (x:Str)
 | tup (ks:List Kd)
mutual
def Kd.st:Kd->Int
 | .num i=>i % 2147483647
 | .txt x=>tst x.cps.toList
 | .tup ks=>Kd.stL 11 ks
def Kd.stL:Int->List Kd->Int
 | h,[]=>h
 | h,k::r=>Kd.stL ((Builtin.bitXor (1000003*h) k.st) % 2147483647) r
end
mutual
def Kd.deep:Kd->Nat
 | .num _=>0
 | .txt _=>0
 | .tup ks=>Kd.deepL ks+1
def Kd.deepL:List Kd->Nat
 | []=>0
 | k::r=>max k.deep (Kd.deepL r)
end
mutual
def IsK (H:Hp):Kd->V->Prop
 | .num i,v=>v=.int i
 | .txt x,v=>v=.str x
 | .tup ks,v=>∃ a vs,v=.ref a/\H a=some (.tup vs)/\vs.length<=1000/\IsKs H ks vs
def IsKs (H:Hp):List Kd->List V->Prop
 | [],vs=>vs=[]
 | k::r,vs=>∃ v vr,vs=v::vr/\IsK H k v/\IsKs H r vr
end
def TupS (H H':Hp):Prop:=∀ b xs,H b=some (.tup xs)->H' b=some (.tup xs)
theorem Same.tups {H H':Hp} (s:Same H H'):TupS H H':=fun b xs h=>s b _ h
theorem TupS.trans {H H1 H2:Hp} (a:TupS H H1) (b:TupS H1 H2):TupS H H2:=fun c xs h=>b c xs (a c xs h)
theorem Q7 {H:Hp} {a:Addr} {o:HO} {ys:List V} (h:H a=some (.lst ys)):TupS H (upd H a o):=fun b xs e=>by
 rw[QG (YN e h (by intro z;cases z))];exact e
theorem QH {H:Hp} {a:Addr} {o:HO} (h:H a=none):Same H (upd H a o):=fun b u e=>by rw[QG (QI e h)];exact e
theorem Same.upd {H0 H:Hp} {a:Addr} {o:HO} (s:Same H0 H) (h:H0 a=none):Same H0 (upd H a o):=fun b u e=>by rw[QG (QI e h)];exact s b u e
mutual
theorem IsK.same {H H':Hp} (s:TupS H H'):∀ {k:Kd} {v:V},IsK H k v->IsK H' k v
 | .num _,_,h=>by unfold IsK at h ⊢;exact h
 | .txt _,_,h=>by unfold IsK at h ⊢;exact h
 | .tup ks,_,h=>by
  unfold IsK at h ⊢
  obtain⟨a,vs,e,ha,hz,hk⟩:=h
  exact⟨a,vs,e,s _ _ ha,hz,IsKs.same s hk⟩
theorem IsKs.same {H H':Hp} (s:TupS H H'):∀ {ks:List Kd} {vs:List V},IsKs H ks vs->IsKs H' ks vs
 | [],_,h=>by unfold IsKs at h ⊢;exact h
 | k::r,_,h=>by
  unfold IsKs at h ⊢
  obtain⟨v,vr,e,h1,h2⟩:=h
  exact⟨v,vr,e,IsK.same s h1,IsKs.same s h2⟩
end
theorem IsKs.length {H:Hp}:∀ {ks:List Kd} {vs:List V},IsKs H ks vs->vs.length=ks.length
 | [],_,h=>by unfold IsKs at h;rw[h];rfl
 | k::r,_,h=>by
  unfold IsKs at h
  obtain⟨v,vr,rfl,_,h2⟩:=h
  rw[List.length_cons,List.length_cons,IsKs.length h2]
theorem IsKs.get {H:Hp}:∀ {ks:List Kd} {vs:List V} {i:Nat} {v:V},IsKs H ks vs->vs[i]? = some v->∃ k,ks[i]? = some k/\IsK H k v
 | [],_,i,v,h,e=>by unfold IsKs at h;rw[h] at e;simp at e
 | k::r,_,0,v,h,e=>by
  unfold IsKs at h
  obtain⟨w,vr,rfl,h1,_⟩:=h
  simp at e;subst e
  exact⟨k,rfl,h1⟩
 | k::r,_,i+1,v,h,e=>by
  unfold IsKs at h
  obtain⟨w,vr,rfl,_,h2⟩:=h
  obtain⟨k',e1,e2⟩:=IsKs.get (i:=i) h2 (by simpa using e)
  exact⟨k',by simpa using e1,e2⟩
theorem IsKs.nil {H:Hp}:IsKs H [] []:=by unfold IsKs;rfl
theorem Kd.deep_le {k:Kd}:∀ {ks:List Kd},k∈ks->k.deep<=Kd.deepL ks
 | [],h=>by cases h
 | k'::r,h=>by
  unfold Kd.deepL
  rcases List.mem_cons.mp h with e | e
  ·subst e;exact Nat.le_max_left _ _
  ·exact Nat.le_trans (Kd.deep_le e) (Nat.le_max_right _ _)
theorem Kd.stL_snoc (k:Kd):∀ (ks:List Kd) (h:Int),Kd.stL h (ks++[k])=(Builtin.bitXor (1000003*Kd.stL h ks) k.st) % 2147483647
 | [],h=>by rw[List.nil_append];unfold Kd.stL;unfold Kd.stL;rfl
 | k'::r,h=>by
  rw[List.cons_append]
  show Kd.stL _ (r++[k])=_
  rw[Kd.stL_snoc k r]
  rfl
theorem Kd.stL_range:∀ (ks:List Kd) (h:Int),0<=h->h < 2147483647->0<=Kd.stL h ks/\Kd.stL h ks < 2147483647
 | [],h,h0,h1=>by unfold Kd.stL;exact⟨h0,h1⟩
 | k::r,h,h0,h1=>by unfold Kd.stL;exact Kd.stL_range r _ (by omega) (by omega)
theorem Kd.st_range (k:Kd):0<=k.st/\k.st < 2147483647:=by
 cases k with
 | num i=>unfold Kd.st;omega
 | txt x=>unfold Kd.st;exact zGS _
 | tup ks=>unfold Kd.st;exact Kd.stL_range ks 11 (by decide) (by decide)
end L2
namespace L2
open PySem PySem.Spec PyProof.Rows
def mx:Option Int->List Int->Option Int
 | o,[]=>o
 | none,x::r=>mx (some x) r
 | some b,x::r=>mx (some (if x > b then x else b)) r
section
variable {X:Cx}
def We (n:Nat) (lo hi:Option Int):Prop:=HT.sIx n 0 lo=0/\HT.sIx n n hi=n
instance {n:Nat} {lo hi:Option Int}:Decidable (We n lo hi):=by unfold We;exact inferInstance
end
theorem zIK {c:TT} {tb:TS} {D:Ends} {σ:St} {H:Hp} (Pv:St->Hp->Prop) (μ:St->Hp->Nat) (h0:Pv σ H)
  (hs:∀ σ H,Pv σ H->c σ H fun b H1=>if b=true then ∃ N:St->Hp->Prop,(∀ σ' H',N σ' H'->∃ m',m' < μ σ H/\m'=μ σ' H'/\Pv σ' H')/\tb { D with nx:=N,ct:=N,bk:=D.nx } σ H1 else D.nx σ H1):zIm c tb D σ H:=by
 refine⟨fun m σ H=>m=μ σ H/\Pv σ H,⟨_,rfl,h0⟩,?_⟩
 rintro m σ H ⟨rfl,p⟩
 exact hs σ H p
end L2
namespace L2
open PySem PySem.Spec PyProof.Rows
def RowAt (H:Hp) (r:Addr) (ks:List Kd):Prop:=∃ vs,H r=some (.lst vs)/\IsKs H ks vs
structure Stk (H0 H:Hp) (R:Addr) (rs:List Addr) (kss:List (List Kd)):Prop where
 hR:H R=some (.lst (rs.map V.ref))
 R0:H0 R=none
 rs0:∀ r∈rs,H0 r=none
 nR:R ∉ rs
 nd:rs.Nodup
 rows:Paired (RowAt H) rs kss
 same:Same H0 H
theorem Yf {α β:Type} {F G:α->β->Prop}:∀ {l:List α} {l':List β},Paired F l l'->(∀ a∈l,∀ b,F a b->G a b)->Paired G l l'
 | _,_,.nil,_=>.nil
 | _,_,.cons r t,h=>.cons (h _ List.mem_cons_self _ r) (Yf t fun a ha b=>h a (List.mem_cons_of_mem _ ha) b)
theorem ZB {α β:Type} {F:α->β->Prop} {a:α} {b:β}:∀ {l:List α} {l':List β},Paired F l l'->F a b->Paired F (l++[a]) (l'++[b])
 | _,_,.nil,h=>.cons h .nil
 | _,_,.cons r t,h=>.cons r (ZB t h)
section
variable {H0 H H':Hp} {R r:Addr} {rs:List Addr} {kss:List (List Kd)} {ks:List Kd} {k:Kd} {v:V} {vs:List V}
theorem RowAt.ts (h:RowAt H r ks) (e:∀ vs,H r=some (.lst vs)->H' r=some (.lst vs)) (t:TupS H H'):RowAt H' r ks:=by
 obtain⟨vs,h1,h2⟩:=h
 exact⟨vs,e vs h1,h2.same t⟩
end
structure Shape (kss:List (List Kd)):Prop where
 lo:1<=kss.length
 hi:kss.length<=3
 deep:∀ (j:Nat) ks,kss[j]? = some ks->∀ k∈ks,k.deep+j<=2
 len:∀ (j:Nat) ks,kss[j]? = some ks->ks.length<=6
 room:∀ (j:Nat) ks,kss[j]? = some ks->j+1 < kss.length->ks.length<=5
end L2
namespace L2
open PySem PySem.Spec PyProof.Rows
theorem zLK {α:Type} {l:List α} {i:Int} (h0:0<=i) (h1:i < l.length):∃ c,atI l i=some c:=by
 have hk:i.toNat < l.length:=by omega
 refine⟨l[i.toNat],?_⟩
 have e:i=((i.toNat:Nat):Int):=by omega
 have q:atI l ((i.toNat:Nat):Int)=some l[i.toNat]:=ZA (by simp[hk])
 rw[← e] at q
 exact q
end L2
namespace L2
open PySem PySem.Spec PyProof.Rows
def zIT:List V->Hp->VK->Prop
 | [.ref p],H,Q=>match H p with
  | some (.lst xs)=>Q (.int xs.length) H
  | some (.tup xs)=>Q (.int xs.length) H
  | _=>False
 | [.str z],H,Q=>z.length<=sizeLine/\Q (.int z.length) H
 | _,_,_=>False
def ixC:R2
 | .ref p,.int i,H,Q=>match H p with
  | some (.lst xs)=>(match atI xs i with | some v=>Q v H | none=>False)
  | some (.tup xs)=>(match atI xs i with | some v=>Q v H | none=>False)
  | _=>False
 | _,_,_,_=>False
def zLg:V->List V->Hp->VK->Prop
 | .ref l,[y],H,Q=>match H l with
  | some (.lst xs)=>xs.length < sizeLine/\Q .non (upd H l (.lst (xs++[y])))
  | _=>False
 | _,_,_,_=>False
section
variable {X:Cx}
theorem Qd:ZD X (.builtin "len") zIT:=by
 intro pins s σ H xs us Q I r h
 match xs,h with
 | [.ref p],h =>
  have h':(match H p with | some (.lst xs)=>Q (.int xs.length) H | some (.tup xs)=>Q (.int xs.length) H | _=>False):=h
  cases e:H p with
  | none=>rw[e] at h';exact h'.elim
  | some o =>
   rw[e] at h'
   cases o with
   | lst ys=>exact Zs pins s σ H _ us Q I r ⟨p,ys,rfl,.inl (SqL.of e),h'⟩
   | tup ys=>exact Zs pins s σ H _ us Q I r ⟨p,ys,rfl,.inr (SqT.of e),h'⟩
   | _=>exact h'.elim
 | [.str z],h =>
  have h':z.length<=sizeLine/\Q (.int z.length) H:=h
  exact zC3 pins s σ H _ us Q I r ⟨z,rfl,h'.1,h'.2⟩
theorem Qs:IxR X ixC:=by
 intro value slice pins s σ H x y v u Q I rx ry h hs
 match x,y,h with
 | .ref p,.int i,h =>
  have h':(match H p with | some (.lst xs)=>(match atI xs i with | some v=>Q v H | none=>False) | some (.tup xs)=>(match atI xs i with | some v=>Q v H | none=>False) | _=>False):=h
  cases e:H p with
  | none=>rw[e] at h';exact h'.elim
  | some o =>
   rw[e] at h'
   cases o with
   | lst ys =>
    have h2:(match atI ys i with | some v=>Q v H | none=>False):=h'
    cases e2:atI ys i with
    | none=>rw[e2] at h2;exact h2.elim
    | some z=>rw[e2] at h2;exact zFT value slice pins s σ H _ _ v u Q I rx ry ⟨p,ys,i,z,rfl,rfl,SqL.of e,e2,h2⟩ hs
   | tup ys =>
    have h2:(match atI ys i with | some v=>Q v H | none=>False):=h'
    cases e2:atI ys i with
    | none=>rw[e2] at h2;exact h2.elim
    | some z=>rw[e2] at h2;exact zL5 value slice pins s σ H _ _ v u Q I rx ry ⟨p,ys,i,z,rfl,rfl,SqT.of e,e2,h2⟩ hs
   | _=>exact h'.elim
theorem JU:MtR X "list.append" zLg:=by
 intro pins s σ H x xs v us Q I rx rv h
 match x,xs,h with
 | .ref l,[y],h =>
  have h':(match H l with | some (.lst xs)=>xs.length < sizeLine/\Q .non (upd H l (.lst (xs++[y]))) | _=>False):=h
  cases e:H l with
  | none=>rw[e] at h';exact h'.elim
  | some o =>
   rw[e] at h'
   cases o with
   | lst ys=>exact zGO pins s σ H _ _ v us Q I rx rv ⟨l,ys,y,rfl,rfl,e,h'.1,h'.2⟩
   | _=>exact h'.elim
end
section
variable {H:Hp} {Q:VK} {p:Addr} {xs:List V} {i:Int} {v y:V} {K:W.Frag}
theorem Qw (h:H p=some (.lst xs)):zIT [.ref p] H Q=Q (.int xs.length) H:=by
 show (match H p with | some (.lst xs)=>Q (.int xs.length) H | some (.tup xs)=>Q (.int xs.length) H | _=>False)=_
 rw[h]
theorem zBE (h:H p=some (.tup xs)):zIT [.ref p] H Q=Q (.int xs.length) H:=by
 show (match H p with | some (.lst xs)=>Q (.int xs.length) H | some (.tup xs)=>Q (.int xs.length) H | _=>False)=_
 rw[h]
theorem QV (h:H p=some (.lst xs)) (e:atI xs i=some v):ixC (.ref p) (.int i) H Q=Q v H:=by
 show (match H p with | some (.lst xs)=>(match atI xs i with | some v=>Q v H | none=>False) | some (.tup xs)=>(match atI xs i with | some v=>Q v H | none=>False) | _=>False)=_
 rw[h];dsimp only;rw[e]
theorem Q2 (h:H p=some (.tup xs)) (e:atI xs i=some v):ixC (.ref p) (.int i) H Q=Q v H:=by
 show (match H p with | some (.lst xs)=>(match atI xs i with | some v=>Q v H | none=>False) | some (.tup xs)=>(match atI xs i with | some v=>Q v H | none=>False) | _=>False)=_
 rw[h];dsimp only;rw[e]
theorem Zx (h:H p=some (.lst xs)):zLg (.ref p) [y] H Q=(xs.length < sizeLine/\Q .non (upd H p (.lst (xs++[y])))):=by
 show (match H p with | some (.lst xs)=>xs.length < sizeLine/\Q .non (upd H p (.lst (xs++[y]))) | _=>False)=_
 rw[h]
theorem zAV (h:H p=some (.lst xs)):tyV K "list" (.ref p) H=True:=eq_true (.inl ⟨rfl,xs,SqL.of h⟩)
end
end L2
namespace L2
open PySem PySem.Spec PyProof.Rows
@[reducible] def itT:Bool->String | true => "tuple_iterator" | false => "list_iterator"
def SI:Bool->Heap->Addr->Addr->Nat->Prop
 | true,h,it,a,i=>h.IsTupleIter it a i
 | false,h,it,a,i=>h.IsListIter it a i
def SQ:Bool->Heap->Addr->Array Value->Prop
 | true,h,a,xs=>h.IsTuple a xs
 | false,h,a,xs=>h.IsList a xs
theorem SI.at {b:Bool} {h h':Heap} {it a:Addr} {i:Nat} (x:SI b h it a i) (e:∀ o,h.get? it=some o->h'.get? it=some o):SI b h' it a i:=by
 cases b with
 | true=>obtain⟨o,ho,r⟩:=x;exact⟨o,e _ ho,r⟩
 | false=>obtain⟨o,ho,r⟩:=x;exact⟨o,e _ ho,r⟩
theorem SQ.at {b:Bool} {h h':Heap} {a:Addr} {xs:Array Value} (x:SQ b h a xs) (e:∀ o,h.get? a=some o->h'.get? a=some o):SQ b h' a xs:=by
 cases b with
 | true=>obtain⟨o,ho,r⟩:=x;exact⟨o,e _ ho,r⟩
 | false=>obtain⟨o,ho,r⟩:=x;exact⟨o,e _ ho,r⟩
theorem SI.obj {b:Bool} {h:Heap} {it a:Addr} {i:Nat} (x:SI b h it a i):∃ o,h.get? it=some o/\∀ v,o.data ≠ .cell v:=by
 cases b with
 | true=>obtain⟨o,ho,_,d⟩:=x;exact⟨o,ho,fun v z=>by rw[d] at z;cases z⟩
 | false=>obtain⟨o,ho,_,d⟩:=x;exact⟨o,ho,fun v z=>by rw[d] at z;cases z⟩
theorem SQ.lt {b:Bool} {h:Heap} {a:Addr} {xs:Array Value} (x:SQ b h a xs):a < h.objs.size:=by
 cases b with
 | true=>obtain⟨o,ho,_⟩:=x;exact Heap.lt_size ho
 | false=>obtain⟨o,ho,_⟩:=x;exact Heap.lt_size ho
section
variable {prog:Program} {w:World} {A:Around} {E:Value->Shared->Prop} {s:Shared}
theorem WB {M:Model} {a:Addr} {Q:Option Obj->Shared->Prop} (h:Q (s.heap.get? a) s):wpAny M A (loadIfAlive a) Q E s:=fun _ _ _=>h
theorem Y3 {b:Bool} {a:Addr} {items:Array Value} {Q:Value->Shared->Prop} (ha:SQ b s.heap a items)
  (hQ:Q (.ref s.heap.objs.size) { s with heap:=s.heap.push { cls:=.type (itT b),data:=.fields #[.ref a,.int 0 0] } }):wpAny (model prog w) A (pyIter (.ref a)) Q E s:=by
 cases b with
 | true=>exact wpAny_pyIter_tuple ha hQ
 | false=>exact wpAny_pyIter_list ha hQ
theorem zAB {b:Bool} {it a:Addr} {i:Nat} {items:Array Value} {x:Value} {Q:Value->Shared->Prop} (hit:SI b s.heap it a i) (hl:SQ b s.heap a items) (hx:items[i]? = some x)
  (hQ:∀ h',SI b h' it a (i+1)->Heap.SameBut it s.heap h'->Q x { s with heap:=h' }):wpAny (model prog w) A (Builtin.SmallTypes.nextOf (.ref it)) Q E s:=by
 cases b with
 | false=>exact wpAny_nextOf_list_item hit hl hx hQ
 | true =>
  replace hit:s.heap.IsTupleIter it a i:=hit
  obtain⟨o,ho,hc,hd⟩:=id hit
  obtain⟨ol,hol,_,nl,hdl⟩:=hl
  unfold Builtin.SmallTypes.nextOf
  refine wpAny_bind (wpAny_callSpecial?_slot (name:=Str.ofString "__next__") hit.typeIs F.slot_tuple_iterator_next
   (wpAny_call_entry F.slot_tuple_iterator_next hit.typeIs F.entry_tuple_iterator_next ?_ (F.args_tuple_iterator_next_1 _)))
  show wpAny _ _ (field (.ref it) 0 >>= _) _ _ s
  refine wpAny_bind (wpAny_field ho hd (x:=.ref a) rfl ?_)
  show wpAny _ _ (if (Value.ref a == Value.none)=true then _ else _) _ _ s
  rw[if_neg (show ¬ ((Value.ref a == Value.none)=true) from Bool.false_ne_true)]
  show wpAny _ _ (field (.ref it) 1 >>= _) _ _ s
  refine wpAny_bind (wpAny_field ho hd (x:=.int i 0) rfl ?_)
  show wpAny _ _ (seqItems? (.ref a) >>= _) _ _ s
  refine wpAny_bind (wpAny_seqItems hol hdl ?_)
  simp only[Int.toNat_natCast,hx]
  refine wpAny_bind (wpAny_setField ho hd (by simp) (wpAny_pure ⟨x,rfl,wpAny_pure (hQ _ ?_ (Heap.SameBut.update ..))⟩))
  exact⟨_,Heap.get?_update_self _ ho (Obj.isFreed_of_fields (Obj.data_mapFields hd _)),(Obj.cls_mapFields ..).trans hc,by
   rw[Obj.data_mapFields hd];simp[rawInt]⟩
theorem zAr {b:Bool} {it a:Addr} {i:Nat} {items:Array Value} {Q:Value->Shared->Prop} (hh:A.handled=none) (hit:SI b s.heap it a i) (hl:SQ b s.heap a items) (hx:items[i]? = none)
  (hE:∀ h' e,Heap.ExtBut it s.heap h'->(∃ o,h'.get? e=some o/\o.cls=.type "StopIteration")->E (.ref e) { s with heap:=h' }):wpAny (model prog w) A (Builtin.SmallTypes.nextOf (.ref it)) Q E s:=by
 cases b with
 | false=>exact wpAny_nextOf_list_end hh hit hl hx hE
 | true =>
  replace hit:s.heap.IsTupleIter it a i:=hit
  obtain⟨o,ho,hc,hd⟩:=id hit
  obtain⟨ol,hol,_,nl,hdl⟩:=hl
  unfold Builtin.SmallTypes.nextOf
  refine wpAny_bind (wpAny_callSpecial?_slot (name:=Str.ofString "__next__") hit.typeIs F.slot_tuple_iterator_next
   (wpAny_call_entry F.slot_tuple_iterator_next hit.typeIs F.entry_tuple_iterator_next ?_ (F.args_tuple_iterator_next_1 _)))
  show wpAny _ _ (field (.ref it) 0 >>= _) _ _ s
  refine wpAny_bind (wpAny_field ho hd (x:=.ref a) rfl ?_)
  show wpAny _ _ (if (Value.ref a == Value.none)=true then _ else _) _ _ s
  rw[if_neg (show ¬ ((Value.ref a == Value.none)=true) from Bool.false_ne_true)]
  show wpAny _ _ (field (.ref it) 1 >>= _) _ _ s
  refine wpAny_bind (wpAny_field ho hd (x:=.int i 0) rfl ?_)
  show wpAny _ _ (seqItems? (.ref a) >>= _) _ _ s
  refine wpAny_bind (wpAny_seqItems hol hdl ?_)
  simp only[Int.toNat_natCast,hx]
  refine wpAny_bind (wpAny_rule (wpAny_bind (wpAny_setField ho hd (by simp) ?_)))
  show wpAny _ _ (newExc (.type "StopIteration") [] >>= _) _ _ _
  refine wpAny_bind ?_
  simp only[newExc,newTuple]
  refine wpAny_bind (wpAny_newObj_type ?_ (by size_fits))
  refine wpAny_bind (m:=firstArgMember _ _) (wpAny_of_eq (a:=Value.none) (by first | rfl | (simp only[firstArgMember];rfl)) ?_)
  refine wpAny_newObj_type ?_ (by size_fits)
  simp only[raiseNew]
  refine wpAny_bind (wpAny_handled ?_)
  first | rw[show A.in1.handled=none from hh] | rw[hh]
  refine wpAny_bind (wpAny_pure (wpAny_throw ?_))
  exact hE _ _ (((Heap.SameBut.update ..).extBut.push _).push _) ⟨_,Heap.get?_push_size _ rfl,rfl⟩
theorem Zi {M:Model} {α β:Type} {f:α->β->Sem (ForInStep β)} (I:Nat->β->Shared->Prop):∀ (l:List α) (k:Nat) (b:β) (s:Shared) (Q:β->Shared->Prop),I k b s ->
  (∀ j x b s,l[j]? = some x->I (k+j) b s->wpAny M A (f x b) (fun r s'=>∃ b',r=.yield b'/\I (k+j+1) b' s') E s)->(∀ b s,I (k+l.length) b s->Q b s)->wpAny M A (forIn l b f) Q E s
 | [],k,b,s,Q,h0,_,hd=>by
  rw[List.forIn_nil]
  exact wpAny_pure (hd b s h0)
 | x::l,k,b,s,Q,h0,hs,hd=>by
  rw[List.forIn_cons]
  refine wpAny_bind (wpAny_mono (hs 0 x b s rfl h0) (fun r s' ⟨b',e,h1⟩=>?_) fun _ _ e=>e)
  subst e
  refine Zi I l (k+1) b' s' Q h1 (fun j y b s e h=>?_) (fun b s h=>hd b s ?_)
  ·have e1:k+1+j=k+(j+1):=by omega
   rw[e1] at h ⊢
   exact hs (j+1) y b s (by simpa using e) h
  ·have e1:k+1+l.length=k+(x::l).length:=by rw[List.length_cons];omega
   rw[e1] at h
   exact h
end
abbrev zBd (f0 f1:Value) (TI TO:Addr):Obj:={ cls:=.type "zip",dict:=none,data:=.fields #[f0,f1,.bool false,.ref TI,.ref TO],slots := #[] }
abbrev Jl (vs:Array Value):Obj:={ cls:=.type "tuple",data:=.seq vs }
abbrev Qz (qs:List (Bool × Addr × Addr)):List Addr:=qs.map (·.2.1)
structure Zp (h:Heap) (z TI TO:Addr) (qs:List (Bool × Addr × Addr)) (i:Nat) (f0 f1:Value):Prop where
 hz:h.get? z=some (zBd f0 f1 TI TO)
 ti:h.get? TI=some (Jl ((Qz qs).map Value.ref).toArray)
 to:∃ ws:Array Value,ws.size=qs.length/\h.get? TO=some (Jl ws)
 it:∀ q∈qs,SI q.1 h q.2.1 q.2.2 i
structure Apart (z TI TO:Addr) (qs:List (Bool × Addr × Addr)):Prop where
 nd:(z::TI::TO::Qz qs).Nodup
 sep:∀ q∈qs,q.2.2 ∉ (z::TI::TO::Qz qs)
 pos:0 < qs.length
 few:qs.length<=8
section
variable {prog:Program} {w:World} {A:Around} {E:Value->Shared->Prop} {s:Shared} {z TI TO:Addr} {qs:List (Bool × Addr × Addr)} {i:Nat} {f0 f1:Value}
theorem Apart.zit (D:Apart z TI TO qs) {q} (hq:q∈qs):z ≠ q.2.1/\TI ≠ q.2.1/\TO ≠ q.2.1:=by
 have nd:=D.nd
 rw[List.nodup_cons,List.nodup_cons,List.nodup_cons] at nd
 have m:q.2.1∈Qz qs:=List.mem_map.mpr ⟨q,hq,rfl⟩
 refine⟨fun e=>nd.1 ?_,fun e=>nd.2.1 ?_,fun e=>nd.2.2.1 ?_⟩
 ·rw[e];simp[m]
 ·rw[e];simp[m]
 ·rw[e];exact m
theorem Apart.zz (D:Apart z TI TO qs):z ≠ TI/\z ≠ TO/\TI ≠ TO:=by
 have nd:=D.nd
 rw[List.nodup_cons,List.nodup_cons,List.nodup_cons] at nd
 refine⟨fun e=>nd.1 ?_,fun e=>nd.1 ?_,fun e=>nd.2.1 ?_⟩ <;> (rw[e];simp)
theorem Apart.its (D:Apart z TI TO qs) {j k:Nat} {q r} (hj:qs[j]? = some q) (hk:qs[k]? = some r) (hn:j ≠ k):q.2.1 ≠ r.2.1:=by
 have nd:=D.nd
 rw[List.nodup_cons,List.nodup_cons,List.nodup_cons] at nd
 intro e
 have e1:(Qz qs)[j]? = some q.2.1:=by rw[List.getElem?_map,hj];rfl
 have e2:(Qz qs)[k]? = some q.2.1:=by rw[List.getElem?_map,hk,e];rfl
 exact hn (nodup_ixA nd.2.2.2 e1 e2)
where
 nodup_ixA {N:List Addr} (hN:N.Nodup) {i j:Nat} {x:Addr} (a:N[i]? = some x) (b:N[j]? = some x):i=j:=by
  obtain⟨h1,e1⟩:=List.getElem?_eq_some_iff.mp a
  obtain⟨h2,e2⟩:=List.getElem?_eq_some_iff.mp b
  exact (List.getElem_inj hN).mp (e1.trans e2.symm)
theorem Apart.seq (D:Apart z TI TO qs) {q} (hq:q∈qs):q.2.2 ≠ z/\q.2.2 ≠ TO/\∀ r∈qs,q.2.2 ≠ r.2.1:=by
 have n:=D.sep q hq
 refine⟨fun e=>n ?_,fun e=>n ?_,fun r hr e=>n ?_⟩
 ·rw[e];simp
 ·rw[e];simp
 ·rw[e]
  have m:r.2.1∈Qz qs:=List.mem_map.mpr ⟨r,hr,rfl⟩
  simp[m]
structure Mid (fr:Bool) (h₀ h:Heap) (z TI TO:Addr) (qs:List (Bool × Addr × Addr)) (i k:Nat) (vals:List Value):Prop where
 hz:∃ f0 f1,h.get? z=some (zBd f0 f1 TI TO)/\(fr=false->f0=.none\/∃ T:Addr,f0=rawInt T)
 to:∃ ws:Array Value,ws.size=qs.length/\h.get? TO=some (Jl ws)/\(fr=true->∀ j,j < k->ws[j]? = vals[j]?)
 it:∀ (j:Nat) (q:Bool × Addr × Addr),qs[j]? = some q->SI q.1 h q.2.1 q.2.2 (if j < k then i+1 else i)
 sz:h.objs.size=h₀.objs.size
 keep:∀ c o,c ≠ z->c ≠ TO->c ∉ Qz qs->h₀.get? c=some o->h.get? c=some o
def Due (h:Heap) (qs:List (Bool × Addr × Addr)) (i:Nat) (vals:List Value):Prop:=vals.length=qs.length/\∀ (j:Nat) (q:Bool × Addr × Addr),qs[j]? = some q->∃ items x,SQ q.1 h q.2.2 items/\items[i]? = some x/\vals[j]? = some x
theorem Mid.drawn {fr:Bool} {h₀ h h2:Heap} {k:Nat} {vals:List Value} {q:Bool × Addr × Addr} (D:Apart z TI TO qs) (m:Mid fr h₀ h z TI TO qs i k vals) (hq:qs[k]? = some q) (hs:SI q.1 h2 q.2.1 q.2.2 (i+1)) (hb:Heap.SameBut q.2.1 h h2)
  (hfr:fr=false):Mid fr h₀ h2 z TI TO qs i (k+1) vals:=by
 have mq:=List.mem_of_getElem? hq
 obtain⟨d1,d2,d3⟩:=D.zit mq
 obtain⟨f0,f1,hz,hz2⟩:=m.hz
 obtain⟨ws,w1,w2,w3⟩:=m.to
 refine⟨⟨f0,f1,hb.extBut _ _ d1 hz,hz2⟩,⟨ws,w1,hb.extBut _ _ d3 w2,fun e=>by rw[hfr] at e;cases e⟩,fun j r hj=>?_,hb.1.trans m.sz,fun c o c1 c2 c3 e=>hb.extBut _ _ (fun x=>c3 (by rw[x];exact List.mem_map.mpr ⟨q,mq,rfl⟩)) (m.keep c o c1 c2 c3 e)⟩
 by_cases hjk:j=k
 ·subst hjk
  rw[hq] at hj
  cases hj
  rw[if_pos (Nat.lt_succ_self _)]
  exact hs
 ·have z:=m.it j r hj
  have e:(if j < k then i+1 else i)=(if j < k+1 then i+1 else i):=by
   by_cases h:j < k
   ·rw[if_pos h,if_pos (by omega)]
   ·rw[if_neg h,if_neg (by omega)]
  rw[e] at z
  exact z.at fun o x=>hb.extBut _ _ (D.its hj hq hjk) x
theorem Mid.kept {h₀ h h2 h3:Heap} {k:Nat} {vals:List Value} {q:Bool × Addr × Addr} {ws:Array Value} {x:Value} (D:Apart z TI TO qs) (m:Mid true h₀ h z TI TO qs i k vals) (hq:qs[k]? = some q) (hs:SI q.1 h2 q.2.1 q.2.2 (i+1)) (hb:Heap.SameBut q.2.1 h h2)
  (w1:ws.size=qs.length) (w3:∀ j,j < k->ws[j]? = vals[j]?) (hx:vals[k]? = some x) (hto:h3.get? TO=some (Jl (ws.setIfInBounds k x))) (hb3:Heap.SameBut TO h2 h3):Mid true h₀ h3 z TI TO qs i (k+1) vals:=by
 have mq:=List.mem_of_getElem? hq
 obtain⟨d1,d2,d3⟩:=D.zit mq
 obtain⟨zi,zo,io⟩:=D.zz
 obtain⟨f0,f1,hz,hz2⟩:=m.hz
 have hk:k < qs.length:=(List.getElem?_eq_some_iff.mp hq).1
 refine⟨⟨f0,f1,hb3.extBut _ _ zo (hb.extBut _ _ d1 hz),fun e=>by cases e⟩,⟨_,by simp[w1],hto,fun _ j hj=>?_⟩,fun j r hj=>?_,(hb3.1.trans hb.1).trans m.sz,
  fun c o c1 c2 c3 e=>hb3.extBut _ _ c2 (hb.extBut _ _ (fun x=>c3 (by rw[x];exact List.mem_map.mpr ⟨q,mq,rfl⟩)) (m.keep c o c1 c2 c3 e))⟩
 ·by_cases hjk:j=k
  ·subst hjk
   rw[hx]
   simp[w1,hk]
  ·rw[Array.getElem?_setIfInBounds,if_neg (Ne.symm hjk)]
   exact w3 j (by omega)
 ·have mr:=List.mem_of_getElem? hj
  obtain⟨r1,r2,r3⟩:=D.zit mr
  by_cases hjk:j=k
  ·subst hjk
   rw[hq] at hj
   cases hj
   rw[if_pos (Nat.lt_succ_self _)]
   exact hs.at fun o x=>hb3.extBut _ _ (Ne.symm r3) x
  ·have z:=m.it j r hj
   have e:(if j < k then i+1 else i)=(if j < k+1 then i+1 else i):=by
    by_cases h:j < k
    ·rw[if_pos h,if_pos (by omega)]
    ·rw[if_neg h,if_neg (by omega)]
   rw[e] at z
   exact z.at fun o x=>hb3.extBut _ _ (Ne.symm r3) (hb.extBut _ _ (D.its hj hq hjk) x)
theorem zII {n:Nat} (h:n<=8):n<=sizeLine:=Nat.le_trans h (by decide)
theorem zH5 {vals:List Value} {Q:Value->Shared->Prop} (D:Apart z TI TO qs) (Z:Zp s.heap z TI TO qs i f0 f1) (hf:f0=.none\/∃ T:Addr,f0=rawInt T) (hv:Due s.heap qs i vals)
  (hQ:∀ h' g0 g1,Zp h' z TI TO qs (i+1) g0 g1->(g0=.none\/∃ T:Addr,g0=rawInt T)->h'.get? s.heap.objs.size=some (Jl vals.toArray)->h'.objs.size=s.heap.objs.size+1 ->
   (∀ c o,c ≠ z->c ≠ TO->c ∉ Qz qs->s.heap.get? c=some o->h'.get? c=some o)->Q (.ref s.heap.objs.size) { s with heap:=h' }) :
  wpAny (model prog w) A (Builtin.«zip.__next__» ⟨[.ref z],[]⟩) (fun fin s'=>∃ v,fin=.done (.ret v)/\Q v s') E s:=by
 obtain⟨hl,hv⟩:=hv
 obtain⟨zi,zo,io⟩:=D.zz
 have tin:TI ∉ Qz qs:=fun m=>by
  obtain⟨q,hq,e⟩:=List.mem_map.mp m
  exact (D.zit hq).2.1 e.symm
 have sq:∀ {c:Nat} {q} {h:Heap} {k:Nat} {fr:Bool},qs[c]? = some q->Mid fr s.heap h z TI TO qs i k vals->∃ items x,SQ q.1 h q.2.2 items/\items[i]? = some x/\vals[c]? = some x:=fun {c q h k fr} e m=>by
  obtain⟨items,x,a,b,d⟩:=hv c q e
  obtain⟨e1,e2,e3⟩:=D.seq (List.mem_of_getElem? e)
  refine⟨items,x,a.at fun o y=>m.keep _ o e1 e2 (fun mm=>?_) y,b,d⟩
  obtain⟨r,hr,er⟩:=List.mem_map.mp mm
  exact e3 r hr er.symm
 have alls:qs.length<=sizeLine:=zII D.few
 have gets:∀ {j:Nat} {v:Value},((Qz qs).map Value.ref)[j]? = some v->∃ q,qs[j]? = some q/\v=.ref q.2.1:=fun {j v} e=>by
  rw[List.getElem?_map,List.getElem?_map] at e
  cases q:qs[j]? with
  | none=>rw[q] at e;cases e
  | some r=>rw[q] at e;simp at e;exact⟨r,rfl,e.symm⟩
 show wpAny _ _ (field (.ref z) 2 >>= _) _ _ _
 refine wpAny_bind (wpAny_field Z.hz rfl (x:=.bool false) rfl ?_)
 show wpAny _ _ (field (.ref z) 3 >>= _) _ _ _
 refine wpAny_bind (wpAny_field Z.hz rfl (x:=.ref TI) rfl ?_)
 refine wpAny_bind (wpAny_seqItems Z.ti rfl ?_)
 show wpAny _ _ (if (((Qz qs).map Value.ref).toArray.isEmpty)=true then _ else _) _ _ _
 rw[if_neg (by
  have:=D.pos
  simp
  intro e
  rw[e] at this
  simp at this)]
 show wpAny _ _ (Builtin.SmallTypes.ownedTupleIsFree (.ref z) >>= _) _ _ _
 refine wpAny_bind (wpAny_mono (Q:=fun b s1=>(b=true/\s1=s)\/(b=false/\∃ h1 g1,s1={ s with heap:=h1 }/\h1.get? z=some (zBd f0 g1 TI TO)/\Heap.SameBut z s.heap h1)) ?look (fun b s1 hb=>?_) (fun _ _ e=>e))
 case look =>
  unfold Builtin.SmallTypes.ownedTupleIsFree
  refine wpAny_bind (wpAny_field Z.hz rfl (x:=f0) rfl ?_)
  rcases hf with rfl | ⟨T,rfl⟩
  ·exact wpAny_pure (.inl ⟨rfl,rfl⟩)
  ·show wpAny _ _ (loadIfAlive (Int.toNat (T:Int)) >>= _) _ _ _
   refine wpAny_bind (WB ?_)
   cases s.heap.get? (Int.toNat (T:Int)) with
   | none=>exact wpAny_pure (.inl ⟨rfl,rfl⟩)
   | some o =>
    show wpAny _ _ (field (.ref z) 1 >>= _) _ _ _
    refine wpAny_bind (wpAny_field Z.hz rfl (x:=f1) rfl ?_)
    by_cases hb:(f1 != Value.bool true)=true
    ·rw[if_pos hb]
     refine wpAny_bind (wpAny_setField_rec Z.hz (by simp) fun h1 hz1 hs1=>wpAny_pure (.inr ⟨rfl,h1,.bool true,rfl,hz1,hs1⟩))
    ·rw[if_neg hb]
     exact wpAny_pure (.inr ⟨rfl,s.heap,f1,rfl,Z.hz,rfl,fun _ _=>rfl⟩)
 rcases hb with ⟨rfl,rfl⟩ | ⟨rfl,h1,g1,rfl,hz1,hs1⟩
 ·-- the tuple kept is free
  rw[if_pos rfl]
  refine wpAny_bind (wpAny_rule ?_)
  refine wpAny_bind (wpAny_field Z.hz rfl (x:=.ref TO) rfl ?_)
  refine wpAny_bind (wpAny_setField_rec Z.hz (by simp) fun h1 hz1 hs1=>?_)
  have m0:Mid true s1.heap h1 z TI TO qs i 0 vals:=by
   obtain⟨ws,w1,w2⟩:=Z.to
   refine⟨⟨_,_,hz1,fun e=>by cases e⟩,⟨ws,w1,hs1.extBut _ _ (Ne.symm zo) w2,fun _ j hj=>absurd hj (Nat.not_lt_zero _)⟩,fun j q hj=>?_,hs1.1,fun c o c1 _ _ e=>hs1.extBut _ _ c1 e⟩
   have mq:=List.mem_of_getElem? hj
   rw[if_neg (Nat.not_lt_zero _)]
   exact (Z.it q mq).at fun o e=>hs1.extBut _ _ (Ne.symm (D.zit mq).1) e
  refine wpAny_bind (Zi (fun k b s'=>b=(none,())/\∃ h,s'={ s1 with heap:=h }/\Mid true s1.heap h z TI TO qs i k vals) _ 0 _ _ _ ⟨rfl,h1,rfl,m0⟩ (fun j x b s' hx hI=>?_) (fun b s' hI=>?_))
  ·obtain⟨rfl,h,rfl,m⟩:=hI
   rw[Nat.zero_add] at m ⊢
   have hx2:∃ q,qs[j]? = some q/\x=(Value.ref q.2.1,j):=by
    rw[List.getElem?_zipIdx,List.toList_toArray] at hx
    cases e:((Qz qs).map Value.ref)[j]? with
    | none=>rw[e] at hx;cases hx
    | some v =>
     rw[e] at hx
     obtain⟨q,hq,rfl⟩:=gets e
     simp at hx
     exact⟨q,hq,hx.symm⟩
   obtain⟨q,hq,rfl⟩:=hx2
   obtain⟨items,y,hs,hy,hvy⟩:=sq hq m
   have hit:=m.it j q hq
   rw[if_neg (Nat.lt_irrefl _)] at hit
   refine wpAny_bind (wpAny_onRaise ?_)
   show wpAny _ _ (Builtin.SmallTypes.nextOf (.ref q.2.1) >>= _) _ _ _
   refine wpAny_bind (zAB hit hs hy fun h2 hit2 hb2=>wpAny_pure ?_)
   obtain⟨ws,w1,w2,w3⟩:=m.to
   have w2':=hb2.extBut _ _ (D.zit (List.mem_of_getElem? hq)).2.2 w2
   refine wpAny_bind (wpAny_seqItems w2' rfl ?_)
   refine wpAny_bind (wpAny_updateSeq w2' rfl ?_ (by rw[w1];exact alls) (by rw[Array.size_setIfInBounds,w1];exact Nat.le_succ_of_le alls))
   refine wpAny_bind (wpAny_letGo (wpAny_pure ⟨_,rfl,rfl,_,rfl,m.kept D hq hit2 hb2 w1 (w3 rfl) hvy ?_ (Heap.SameBut.update ..)⟩))
   rw[Heap.get?_update_self _ w2' rfl]
   simp[Obj.mapSeq]
  ·obtain⟨rfl,h,rfl,m⟩:=hI
   rw[Nat.zero_add,List.length_zipIdx,List.toList_toArray,List.length_map,List.length_map] at m
   obtain⟨ws,w1,w2,w3⟩:=m.to
   have ew:ws.toList=vals:=by
    refine List.ext_getElem? fun j=>?_
    by_cases hj:j < qs.length
    ·rw[Array.getElem?_toList];exact w3 rfl j hj
    ·rw[List.getElem?_eq_none (by simp;omega),List.getElem?_eq_none (by omega)]
   show wpAny _ _ (seqItems? (.ref TO) >>= _) _ _ _
   refine wpAny_bind (wpAny_seqItems w2 rfl ?_)
   show wpAny _ _ (newTuple ws.toList >>= _) _ _ _
   rw[ew]
   refine wpAny_bind (wpAny_newTuple ?_ (by rw[hl];exact alls))
   show wpAny _ _ (Builtin.SmallTypes.ownedTupleHandOut (.ref z) (.ref h.objs.size) >>= _) _ _ _
   refine wpAny_bind ?_
   unfold Builtin.SmallTypes.ownedTupleHandOut
   obtain⟨g0,g1,hz5,_⟩:=m.hz
   have hzlt:z < h.objs.size:=Heap.lt_size hz5
   have hz6:(h.push { cls:=.type "tuple",data:=.seq vals.toArray }).get? z=some (zBd g0 g1 TI TO):=Heap.get?_push_of_some _ hz5
   refine wpAny_bind (wpAny_setField_rec hz6 (by simp) fun h7 hz7 hs7=>?_)
   refine wpAny_setField_rec hz7 (by simp) fun h8 hz8 hs8=>?_
   have up:∀ c o,c ≠ z->h.get? c=some o->h8.get? c=some o:=fun c o c1 e=>hs8.extBut _ _ c1 (hs7.extBut _ _ c1 (Heap.get?_push_of_some _ e))
   have hT8:h8.get? h.objs.size=some (Jl vals.toArray):=hs8.extBut _ _ (Nat.ne_of_gt hzlt) (hs7.extBut _ _ (Nat.ne_of_gt hzlt) (Heap.get?_push_size _ rfl))
   have h8s:h8.objs.size=h.objs.size+1:=by rw[hs8.1,hs7.1,Heap.size_push]
   have hsz:=m.sz
   refine wpAny_pure ⟨_,rfl,?_⟩
   show Q (.ref h.objs.size) _
   rw[hsz] at hT8 h8s ⊢
   refine hQ h8 (rawInt h.objs.size) (.bool false) ⟨hz8,up _ _ (Ne.symm zi) (m.keep _ _ (Ne.symm zi) io tin Z.ti),⟨ws,w1,up _ _ (Ne.symm zo) w2⟩,fun q hq=>?_⟩ (.inr ⟨_,rfl⟩) hT8 h8s fun c o c1 c2 c3 e=>up c o c1 (m.keep c o c1 c2 c3 e)
   obtain⟨j,hj⟩:=List.mem_iff_getElem?.mp hq
   have z9:=m.it j q hj
   rw[if_pos (List.getElem?_eq_some_iff.mp hj).1] at z9
   exact z9.at fun o e=>up _ o (Ne.symm (D.zit hq).1) e
 ·-- it is held
  rw[if_neg (by decide)]
  have m0:Mid false s.heap h1 z TI TO qs i 0 vals:=by
   obtain⟨ws,w1,w2⟩:=Z.to
   refine⟨⟨_,_,hz1,fun _=>hf⟩,⟨ws,w1,hs1.extBut _ _ (Ne.symm zo) w2,fun e=>by cases e⟩,fun j q hj=>?_,hs1.1,fun c o c1 _ _ e=>hs1.extBut _ _ c1 e⟩
   have mq:=List.mem_of_getElem? hj
   rw[if_neg (Nat.not_lt_zero _)]
   exact (Z.it q mq).at fun o e=>hs1.extBut _ _ (Ne.symm (D.zit mq).1) e
  show wpAny _ _ (forIn ((Qz qs).map Value.ref).toArray (none,#[]) _ >>= _) _ _ _
  rw[← Array.forIn_toList]
  refine wpAny_bind (Zi (fun k b s'=>b=(none,(vals.take k).toArray)/\∃ h,s'={ s with heap:=h }/\Mid false s.heap h z TI TO qs i k vals) _ 0 _ _ _ ⟨rfl,h1,rfl,m0⟩ (fun j x b s' hx hI=>?_) (fun b s' hI=>?_))
  ·obtain⟨rfl,h,rfl,m⟩:=hI
   rw[Nat.zero_add] at m ⊢
   rw[List.toList_toArray] at hx
   obtain⟨q,hq,rfl⟩:=gets hx
   obtain⟨items,y,hs,hy,hvy⟩:=sq hq m
   have hit:=m.it j q hq
   rw[if_neg (Nat.lt_irrefl _)] at hit
   refine wpAny_bind (wpAny_holding ?_)
   show wpAny _ _ (Builtin.SmallTypes.nextOf (.ref q.2.1) >>= _) _ _ _
   refine wpAny_bind (zAB hit hs hy fun h2 hit2 hb2=>wpAny_pure ?_)
   refine wpAny_pure ⟨_,rfl,?_,_,rfl,m.drawn D hq hit2 hb2 rfl⟩
   rw[List.take_add_one,hvy]
   simp
  ·obtain⟨rfl,h,rfl,m⟩:=hI
   rw[Nat.zero_add,List.toList_toArray,List.length_map,List.length_map] at m ⊢
   rw[List.take_of_length_le (by omega)]
   show wpAny _ _ (newTuple (vals.toArray.toList) >>= _) _ _ _
   rw[List.toList_toArray]
   refine wpAny_bind (wpAny_newTuple ?_ (by rw[hl];exact alls))
   refine wpAny_pure ⟨_,rfl,?_⟩
   obtain⟨g0,g2,hz5,hg⟩:=m.hz
   obtain⟨ws,w1,w2,w3⟩:=m.to
   have up:∀ c o,h.get? c=some o->(h.push { cls:=.type "tuple",data:=.seq vals.toArray }).get? c=some o:=fun c o e=>Heap.get?_push_of_some _ e
   have hT8:(h.push { cls:=.type "tuple",data:=.seq vals.toArray }).get? h.objs.size=some (Jl vals.toArray):=Heap.get?_push_size _ rfl
   have h8s:(h.push { cls:=.type "tuple",data:=.seq vals.toArray }).objs.size=h.objs.size+1:=Heap.size_push ..
   have hsz:=m.sz
   show Q (.ref h.objs.size) _
   rw[hsz] at hT8 h8s ⊢
   refine hQ _ g0 g2 ⟨up _ _ hz5,up _ _ (m.keep _ _ (Ne.symm zi) io tin Z.ti),⟨ws,w1,up _ _ w2⟩,fun q hq=>?_⟩ (hg rfl) hT8 h8s fun c o c1 c2 c3 e=>up c o (m.keep c o c1 c2 c3 e)
   obtain⟨j,hj⟩:=List.mem_iff_getElem?.mp hq
   have z9:=m.it j q hj
   rw[if_pos (List.getElem?_eq_some_iff.mp hj).1] at z9
   exact z9.at fun o e=>up _ o e
theorem zJH {q:Bool × Addr × Addr} {qr:List (Bool × Addr × Addr)} {items:Array Value} {Q:Fin->Shared->Prop} (hh:A.handled=none) (D:Apart z TI TO (q::qr)) (Z:Zp s.heap z TI TO (q::qr) i f0 f1) (hf:f0=.none\/∃ T:Addr,f0=rawInt T)
  (hs:SQ q.1 s.heap q.2.2 items) (hx:items[i]? = none)
  (hE:∀ h' e,(∀ c o,c ≠ z->c ∉ Qz (q::qr)->s.heap.get? c=some o->h'.get? c=some o)->(∃ o,h'.get? e=some o/\o.cls=.type "StopIteration")->E (.ref e) { s with heap:=h' }) :
  wpAny (model prog w) A (Builtin.«zip.__next__» ⟨[.ref z],[]⟩) Q E s:=by
 have mq:q∈q::qr:=List.mem_cons_self
 have qz:=(D.zit mq).1
 have lz:=(D.seq mq).1
 have notin:∀ {c:Addr},c ∉ Qz (q::qr)->c ≠ q.2.1:=fun {c} h e=>h (by rw[e];exact List.mem_map.mpr ⟨q,mq,rfl⟩)
 show wpAny _ _ (field (.ref z) 2 >>= _) _ _ _
 refine wpAny_bind (wpAny_field Z.hz rfl (x:=.bool false) rfl ?_)
 show wpAny _ _ (field (.ref z) 3 >>= _) _ _ _
 refine wpAny_bind (wpAny_field Z.hz rfl (x:=.ref TI) rfl ?_)
 refine wpAny_bind (wpAny_seqItems Z.ti rfl ?_)
 show wpAny _ _ (if (((Qz (q::qr)).map Value.ref).toArray.isEmpty)=true then _ else _) _ _ _
 rw[if_neg (by simp)]
 show wpAny _ _ (Builtin.SmallTypes.ownedTupleIsFree (.ref z) >>= _) _ _ _
 refine wpAny_bind (wpAny_mono (Q:=fun b s1=>(b=true/\s1=s)\/(b=false/\∃ h1 g1,s1={ s with heap:=h1 }/\h1.get? z=some (zBd f0 g1 TI TO)/\Heap.SameBut z s.heap h1)) ?look (fun b s1 hb=>?_) (fun _ _ e=>e))
 case look =>
  unfold Builtin.SmallTypes.ownedTupleIsFree
  refine wpAny_bind (wpAny_field Z.hz rfl (x:=f0) rfl ?_)
  rcases hf with rfl | ⟨T,rfl⟩
  ·exact wpAny_pure (.inl ⟨rfl,rfl⟩)
  ·show wpAny _ _ (loadIfAlive (Int.toNat (T:Int)) >>= _) _ _ _
   refine wpAny_bind (WB ?_)
   cases s.heap.get? (Int.toNat (T:Int)) with
   | none=>exact wpAny_pure (.inl ⟨rfl,rfl⟩)
   | some o =>
    show wpAny _ _ (field (.ref z) 1 >>= _) _ _ _
    refine wpAny_bind (wpAny_field Z.hz rfl (x:=f1) rfl ?_)
    by_cases hb:(f1 != Value.bool true)=true
    ·rw[if_pos hb]
     refine wpAny_bind (wpAny_setField_rec Z.hz (by simp) fun h1 hz1 hs1=>wpAny_pure (.inr ⟨rfl,h1,.bool true,rfl,hz1,hs1⟩))
    ·rw[if_neg hb]
     exact wpAny_pure (.inr ⟨rfl,s.heap,f1,rfl,Z.hz,rfl,fun _ _=>rfl⟩)
 rcases hb with ⟨rfl,rfl⟩ | ⟨rfl,h1,g1,rfl,hz1,hs1⟩
 ·rw[if_pos rfl]
  refine wpAny_bind (wpAny_rule ?_)
  refine wpAny_bind (wpAny_field Z.hz rfl (x:=.ref TO) rfl ?_)
  refine wpAny_bind (wpAny_setField_rec Z.hz (by simp) fun h1 hz1 hs1=>?_)
  refine wpAny_bind ?_
  rw[List.toList_toArray]
  simp only[Qz,List.map_cons,List.zipIdx_cons,List.forIn_cons]
  refine wpAny_bind (wpAny_bind (wpAny_onRaise ?_))
  show wpAny _ _ (Builtin.SmallTypes.nextOf (.ref q.2.1) >>= _) _ _ _
  refine wpAny_bind (zAr hh ((Z.it q mq).at fun o e=>hs1.extBut _ _ (Ne.symm qz) e) (hs.at fun o e=>hs1.extBut _ _ lz e) hx fun h2 e hs2 he=>?_)
  obtain⟨oe,hoe,hce⟩:=he
  have hz2:=hs2 _ _ qz hz1
  have hez:e ≠ z:=fun x=>by subst x;rw[hz2] at hoe;cases hoe;simp at hce
  exact wpAny_setField_rec hz2 (by simp) fun h3 _ hs3=>hE h3 e (fun c o c1 c2 x=>hs3.extBut _ _ c1 (hs2 _ _ (notin c2) (hs1.extBut _ _ c1 x))) ⟨oe,hs3.extBut _ _ hez hoe,hce⟩
 ·rw[if_neg (by decide)]
  show wpAny _ _ (forIn ((Qz (q::qr)).map Value.ref).toArray (none,#[]) _ >>= _) _ _ _
  rw[← Array.forIn_toList,List.toList_toArray]
  refine wpAny_bind ?_
  simp only[Qz,List.map_cons,List.forIn_cons]
  refine wpAny_bind (wpAny_bind (wpAny_holding ?_))
  show wpAny _ _ (Builtin.SmallTypes.nextOf (.ref q.2.1) >>= _) _ _ _
  exact wpAny_bind (zAr hh ((Z.it q mq).at fun o e=>hs1.extBut _ _ (Ne.symm qz) e) (hs.at fun o e=>hs1.extBut _ _ lz e) hx fun h2 e hs2 he=>hE h2 e (fun c o c1 c2 x=>hs2 _ _ (notin c2) (hs1.extBut _ _ c1 x)) he)
theorem zAM {vals:List Value} {Q:Option Value->Shared->Prop} (D:Apart z TI TO qs) (Z:Zp s.heap z TI TO qs i f0 f1) (hf:f0=.none\/∃ T:Addr,f0=rawInt T) (hv:Due s.heap qs i vals)
  (hQ:∀ h' g0 g1,Zp h' z TI TO qs (i+1) g0 g1->(g0=.none\/∃ T:Addr,g0=rawInt T)->h'.get? s.heap.objs.size=some (Jl vals.toArray)->h'.objs.size=s.heap.objs.size+1 ->
   (∀ c o,c ≠ z->c ≠ TO->c ∉ Qz qs->s.heap.get? c=some o->h'.get? c=some o)->Q (some (.ref s.heap.objs.size)) { s with heap:=h' }) :
  wpAny (model prog w) A (pyNext (.ref z)) Q E s:=by
 have hT:s.TypeIs (.ref z) "zip" := ⟨_,Z.hz,rfl⟩
 unfold pyNext
 exact wpAny_bind (wpAny_attempt (wpAny_callSpecial?_slot (name:=Str.ofString "__next__") hT F.slot_zip_next
  (wpAny_call_entry F.slot_zip_next hT F.entry_zip_next
   (zH5 D Z hf hv fun h' g0 g1 a1 a2 a3 a4 a5=>wpAny_pure (hQ h' g0 g1 a1 a2 a3 a4 a5)) (F.args_zip_next_1 _))))
theorem zBA {q:Bool × Addr × Addr} {qr:List (Bool × Addr × Addr)} {items:Array Value} {Q:Option Value->Shared->Prop} (hh:A.handled=none) (D:Apart z TI TO (q::qr)) (Z:Zp s.heap z TI TO (q::qr) i f0 f1) (hf:f0=.none\/∃ T:Addr,f0=rawInt T)
  (hs:SQ q.1 s.heap q.2.2 items) (hx:items[i]? = none)
  (hQ:∀ h',(∀ c o,c ≠ z->c ∉ Qz (q::qr)->s.heap.get? c=some o->h'.get? c=some o)->Q none { s with heap:=h' }):wpAny (model prog w) A (pyNext (.ref z)) Q E s:=by
 have hT:s.TypeIs (.ref z) "zip" := ⟨_,Z.hz,rfl⟩
 unfold pyNext
 refine wpAny_bind (wpAny_attempt (wpAny_callSpecial?_slot (name:=Str.ofString "__next__") hT F.slot_zip_next
  (wpAny_call_entry F.slot_zip_next hT F.entry_zip_next (zJH hh D Z hf hs hx fun h' e hk he=>?_) (F.args_zip_next_1 _))))
 obtain⟨o,ho,hc⟩:=he
 refine wpAny_bind (wpAny_isInstance (T := "StopIteration") (b:=true) ⟨o,ho,hc⟩ isSubtype_stop ?_)
 exact wpAny_pure (hQ _ hk)
theorem Wz {Q:Value->Shared->Prop} (hz:s.heap.get? z=some (zBd f0 f1 TI TO)) (h:Q (.ref z) s):wpAny (model prog w) A (pyIter (.ref z)) Q E s:=by
 have hT:s.TypeIs (.ref z) "zip" := ⟨_,hz,rfl⟩
 refine wpAny_pyIter_slot hT F.slot_zip_iter (wpAny_call_entry F.slot_zip_iter hT F.entry_zip_iter ?_ (F.args_zip_iter_1 _))
 show wpAny _ _ (ret (.ref z)) _ _ s
 exact wpAny_pure ⟨_,rfl, "zip",_,hT,F.slot_zip_next.lookup,h⟩
theorem zMM {tg:Expr} {u:Value} {Q:Unit->Shared->Prop} (hz:s.heap.get? z=some (zBd f0 f1 TI TO)) (hQ:∀ h' g0,(g0=f0\/g0=.none)->h'.get? z=some (zBd g0 f1 TI TO)->Heap.SameBut z s.heap h'->Q () { s with heap:=h' }) :
  wpAny (model prog w) A (letOwnedTupleGo tg (.ref z) u) Q E s:=by
 have same:Q () s:=hQ s.heap f0 (.inl rfl) hz ⟨rfl,fun _ _=>rfl⟩
 unfold letOwnedTupleGo
 cases tg <;> first
  | exact wpAny_pure same
  | (cases u <;> first
    | exact wpAny_pure same
    | (refine wpAny_bind (wpAny_load hz ?_)
       show wpAny _ _ (if (["enumerate", "zip", "dict_itemiterator", "dict_reverseitemiterator", "odict_iterator", "itertools.zip_longest", "itertools.pairwise"].contains "zip" && (#[f0,f1,Value.bool false,.ref TI,.ref TO]:Array Value)[0]? == some (rawInt _))=true then _ else _) Q E s
       split
       . refine wpAny_bind (wpAny_rule ?_)
         show wpAny _ _ (setField (.ref z) 0 .none) Q E s
         exact wpAny_setField_rec hz (by simp) fun h' hz' hs'=>hQ h' .none (.inr rfl) hz' hs'
       . exact wpAny_pure same))
end
end L2
namespace L2
open PySem PySem.Spec PyProof.Rows
theorem zBi (a b c:Value):checkTypeCall "zip" ⟨[a,b,c],[]⟩=pure ():=by kernel_rfl
theorem zCP (a b c:Value):checkBuiltinCall "zip.__new__" ⟨[.type "zip",a,b,c],[]⟩=pure ():=by kernel_rfl
theorem zBu (a b c d:Value):argsOk "object.__init__" ⟨[a,b,c,d],[]⟩:=by
 unfold argsOk;rw[signature?_of (id := "object.__init__") (n:=['_','_','t','i','n','i','_','_']) (o:=['t','c','e','j','b','o']) (by kernel_rfl) F.owner_object];kernel_rfl
abbrev itO (b:Bool) (a:Addr):Obj:={ cls:=.type (itT b),data:=.fields #[.ref a,.int 0 0] }
theorem SI.new {b:Bool} {h:Heap} {it a:Addr} (e:h.get? it=some (itO b a)):SI b h it a 0:=by
 cases b with
 | true=>exact⟨_,e,rfl,rfl⟩
 | false=>exact⟨_,e,rfl,rfl⟩
abbrev zh1 (h:Heap) (b1:Bool) (l1:Addr):Heap:=h.push (itO b1 l1)
abbrev zh2 (h:Heap) (b1 b2:Bool) (l1 l2:Addr):Heap:=(zh1 h b1 l1).push (itO b2 l2)
abbrev zh3 (h:Heap) (b1 b2 b3:Bool) (l1 l2 l3:Addr):Heap:=(zh2 h b1 b2 l1 l2).push (itO b3 l3)
abbrev zt2 (h:Heap) (b1 b2:Bool) (l1 l2:Addr):Heap:=(zh2 h b1 b2 l1 l2).push (Jl #[.ref h.objs.size,.ref (zh1 h b1 l1).objs.size])
abbrev zo2 (h:Heap) (b1 b2:Bool) (l1 l2:Addr):Heap:=(zt2 h b1 b2 l1 l2).push (Jl #[.none,.none])
abbrev zz2 (h:Heap) (b1 b2:Bool) (l1 l2:Addr):Heap:=(zo2 h b1 b2 l1 l2).push (zBd .none (.bool false) (zh2 h b1 b2 l1 l2).objs.size (zt2 h b1 b2 l1 l2).objs.size)
abbrev zt3 (h:Heap) (b1 b2 b3:Bool) (l1 l2 l3:Addr):Heap:=(zh3 h b1 b2 b3 l1 l2 l3).push (Jl #[.ref h.objs.size,.ref (zh1 h b1 l1).objs.size,.ref (zh2 h b1 b2 l1 l2).objs.size])
abbrev zo3 (h:Heap) (b1 b2 b3:Bool) (l1 l2 l3:Addr):Heap:=(zt3 h b1 b2 b3 l1 l2 l3).push (Jl #[.none,.none,.none])
abbrev zz3 (h:Heap) (b1 b2 b3:Bool) (l1 l2 l3:Addr):Heap:=(zo3 h b1 b2 b3 l1 l2 l3).push (zBd .none (.bool false) (zh3 h b1 b2 b3 l1 l2 l3).objs.size (zt3 h b1 b2 b3 l1 l2 l3).objs.size)
theorem zEa (b1 b2:Bool) (l1 l2:Addr) (xs ys:Array Value) :
  Meets (Builtin.«zip.__new__» ⟨[.type "zip",.ref l1,.ref l2],[]⟩) (fun _ R s=>SQ b1 s.heap l1 xs/\SQ b2 s.heap l2 ys/\R (.ok (.ret (.ref (zo2 s.heap b1 b2 l1 l2).objs.size))) { s with heap:=zz2 s.heap b1 b2 l1 l2 }) :=
 .of_wp fun prog w A R s h=>by
  obtain⟨hp,g,d,tk,os⟩:=s;obtain⟨hl1,hl2,h⟩:=h
  have hsub:=sub_zip
  have hL1:SQ b1 (Shared.heap ⟨hp,g,d,tk,os⟩) l1 xs:=hl1
  have hL2:SQ b2 (Shared.heap ⟨hp.push (itO b1 l1),g,d,tk,os⟩) l2 ys:=hl2.at fun o e=>Heap.get?_push_of_some _ e
  wp_walk using Y3 hL1,Y3 hL2
  exact⟨_,rfl,h⟩
theorem zFH (b1 b2 b3:Bool) (l1 l2 l3:Addr) (xs ys zs:Array Value) :
  Meets (Builtin.«zip.__new__» ⟨[.type "zip",.ref l1,.ref l2,.ref l3],[]⟩) (fun _ R s=>SQ b1 s.heap l1 xs/\SQ b2 s.heap l2 ys/\SQ b3 s.heap l3 zs/\R (.ok (.ret (.ref (zo3 s.heap b1 b2 b3 l1 l2 l3).objs.size))) { s with heap:=zz3 s.heap b1 b2 b3 l1 l2 l3 }) :=
 .of_wp fun prog w A R s h=>by
  obtain⟨hp,g,d,tk,os⟩:=s;obtain⟨hl1,hl2,hl3,h⟩:=h
  have hsub:=sub_zip
  have hL1:SQ b1 (Shared.heap ⟨hp,g,d,tk,os⟩) l1 xs:=hl1
  have hL2:SQ b2 (Shared.heap ⟨hp.push (itO b1 l1),g,d,tk,os⟩) l2 ys:=hl2.at fun o e=>Heap.get?_push_of_some _ e
  have hL3:SQ b3 (Shared.heap ⟨(hp.push (itO b1 l1)).push (itO b2 l2),g,d,tk,os⟩) l3 zs:=hl3.at fun o e=>Heap.get?_push_of_some _ (Heap.get?_push_of_some _ e)
  wp_walk using Y3 hL1,Y3 hL2,Y3 hL3
  exact⟨_,rfl,h⟩
section
variable {prog:Program} {w:World} {A:Around} {E:Value->Shared->Prop} {s:Shared}
theorem zHA {b1 b2:Bool} {l1 l2:Addr} {xs ys:Array Value} {Q:Value->Shared->Prop} (hl1:SQ b1 s.heap l1 xs) (hl2:SQ b2 s.heap l2 ys)
  (h:∀ h',Zp h' (s.heap.objs.size+4) (s.heap.objs.size+2) (s.heap.objs.size+3) [(b1,s.heap.objs.size,l1),(b2,s.heap.objs.size+1,l2)] 0 .none (.bool false) ->
   (∀ c o,s.heap.get? c=some o->h'.get? c=some o)->Q (.ref (s.heap.objs.size+4)) { s with heap:=h' }) :
  wpAny (model prog w) A (call (.type "zip") [.ref l1,.ref l2]) Q E s:=by
 refine callType_new F.called_zip (by decide) (F.typeCall_zip_2 _ _) (F.newCall_zip_2 _ _) (fun obj=>F.args_object_init_3 obj _ _) F.entry_zip_new
  (zEa b1 b2 l1 l2 xs ys) ⟨hl1,hl2,?_⟩
 have z1:(zh1 s.heap b1 l1).objs.size=s.heap.objs.size+1:=Heap.size_push ..
 have z2:(zh2 s.heap b1 b2 l1 l2).objs.size=s.heap.objs.size+2:=by rw[Heap.size_push,z1]
 have z3:(zt2 s.heap b1 b2 l1 l2).objs.size=s.heap.objs.size+3:=by rw[Heap.size_push,z2]
 have z4:(zo2 s.heap b1 b2 l1 l2).objs.size=s.heap.objs.size+4:=by rw[Heap.size_push,z3]
 have g5:(zz2 s.heap b1 b2 l1 l2).get? (zo2 s.heap b1 b2 l1 l2).objs.size=some _:=Heap.get?_push_size _ rfl
 have g4:(zz2 s.heap b1 b2 l1 l2).get? (zt2 s.heap b1 b2 l1 l2).objs.size=some _:=Heap.get?_push_of_some _ (Heap.get?_push_size _ rfl)
 have g3:(zz2 s.heap b1 b2 l1 l2).get? (zh2 s.heap b1 b2 l1 l2).objs.size=some _:=Heap.get?_push_of_some _ (Heap.get?_push_of_some _ (Heap.get?_push_size _ rfl))
 have g2:(zz2 s.heap b1 b2 l1 l2).get? (zh1 s.heap b1 l1).objs.size=some (itO b2 l2):=Heap.get?_push_of_some _ (Heap.get?_push_of_some _ (Heap.get?_push_of_some _ (Heap.get?_push_size _ rfl)))
 have g1:(zz2 s.heap b1 b2 l1 l2).get? s.heap.objs.size=some (itO b1 l1):=Heap.get?_push_of_some _ (Heap.get?_push_of_some _ (Heap.get?_push_of_some _ (Heap.get?_push_of_some _ (Heap.get?_push_size _ rfl))))
 show _/\_
 rw[z2,z3,z4] at g5
 rw[z1,z2] at g3
 rw[z3] at g4
 rw[z1] at g2
 rw[z4]
 refine⟨⟨_,g5,rfl⟩,h _ ⟨g5,g3,⟨_,rfl,g4⟩,fun q hq=>?_⟩ fun c o x=>?_⟩
 ·rcases List.mem_cons.mp hq with rfl | hq
  ·exact .new g1
  ·rw[List.mem_singleton.mp hq];exact .new g2
 ·exact Heap.get?_push_of_some _ (Heap.get?_push_of_some _ (Heap.get?_push_of_some _ (Heap.get?_push_of_some _ (Heap.get?_push_of_some _ x))))
theorem zGx {b1 b2 b3:Bool} {l1 l2 l3:Addr} {xs ys zs:Array Value} {Q:Value->Shared->Prop} (hl1:SQ b1 s.heap l1 xs) (hl2:SQ b2 s.heap l2 ys) (hl3:SQ b3 s.heap l3 zs)
  (h:∀ h',Zp h' (s.heap.objs.size+5) (s.heap.objs.size+3) (s.heap.objs.size+4) [(b1,s.heap.objs.size,l1),(b2,s.heap.objs.size+1,l2),(b3,s.heap.objs.size+2,l3)] 0 .none (.bool false) ->
   (∀ c o,s.heap.get? c=some o->h'.get? c=some o)->Q (.ref (s.heap.objs.size+5)) { s with heap:=h' }) :
  wpAny (model prog w) A (call (.type "zip") [.ref l1,.ref l2,.ref l3]) Q E s:=by
 refine callType_new F.called_zip (by decide) (zBi _ _ _) (zCP _ _ _) (fun obj=>zBu obj _ _ _) F.entry_zip_new
  (zFH b1 b2 b3 l1 l2 l3 xs ys zs) ⟨hl1,hl2,hl3,?_⟩
 have z1:(zh1 s.heap b1 l1).objs.size=s.heap.objs.size+1:=Heap.size_push ..
 have z2:(zh2 s.heap b1 b2 l1 l2).objs.size=s.heap.objs.size+2:=by rw[Heap.size_push,z1]
 have z3:(zh3 s.heap b1 b2 b3 l1 l2 l3).objs.size=s.heap.objs.size+3:=by rw[Heap.size_push,z2]
 have z4:(zt3 s.heap b1 b2 b3 l1 l2 l3).objs.size=s.heap.objs.size+4:=by rw[Heap.size_push,z3]
 have z5:(zo3 s.heap b1 b2 b3 l1 l2 l3).objs.size=s.heap.objs.size+5:=by rw[Heap.size_push,z4]
 have g6:(zz3 s.heap b1 b2 b3 l1 l2 l3).get? (zo3 s.heap b1 b2 b3 l1 l2 l3).objs.size=some _:=Heap.get?_push_size _ rfl
 have g5:(zz3 s.heap b1 b2 b3 l1 l2 l3).get? (zt3 s.heap b1 b2 b3 l1 l2 l3).objs.size=some _:=Heap.get?_push_of_some _ (Heap.get?_push_size _ rfl)
 have g4:(zz3 s.heap b1 b2 b3 l1 l2 l3).get? (zh3 s.heap b1 b2 b3 l1 l2 l3).objs.size=some _:=Heap.get?_push_of_some _ (Heap.get?_push_of_some _ (Heap.get?_push_size _ rfl))
 have g3:(zz3 s.heap b1 b2 b3 l1 l2 l3).get? (zh2 s.heap b1 b2 l1 l2).objs.size=some (itO b3 l3):=Heap.get?_push_of_some _ (Heap.get?_push_of_some _ (Heap.get?_push_of_some _ (Heap.get?_push_size _ rfl)))
 have g2:(zz3 s.heap b1 b2 b3 l1 l2 l3).get? (zh1 s.heap b1 l1).objs.size=some (itO b2 l2):=Heap.get?_push_of_some _ (Heap.get?_push_of_some _ (Heap.get?_push_of_some _ (Heap.get?_push_of_some _ (Heap.get?_push_size _ rfl))))
 have g1:(zz3 s.heap b1 b2 b3 l1 l2 l3).get? s.heap.objs.size=some (itO b1 l1):=Heap.get?_push_of_some _ (Heap.get?_push_of_some _ (Heap.get?_push_of_some _ (Heap.get?_push_of_some _ (Heap.get?_push_of_some _ (Heap.get?_push_size _ rfl)))))
 show _/\_
 rw[z3,z4,z5] at g6
 rw[z1,z2,z3] at g4
 rw[z4] at g5
 rw[z2] at g3
 rw[z1] at g2
 rw[z5]
 refine⟨⟨_,g6,rfl⟩,h _ ⟨g6,g4,⟨_,rfl,g5⟩,fun q hq=>?_⟩ fun c o x=>?_⟩
 ·rcases List.mem_cons.mp hq with rfl | hq
  ·exact .new g1
  ·rcases List.mem_cons.mp hq with rfl | hq
   ·exact .new g2
   ·rw[List.mem_singleton.mp hq];exact .new g3
 ·exact Heap.get?_push_of_some _ (Heap.get?_push_of_some _ (Heap.get?_push_of_some _ (Heap.get?_push_of_some _ (Heap.get?_push_of_some _ (Heap.get?_push_of_some _ x)))))
end
def SqB (K:W.Frag):Bool->Hp->Addr->List V->Prop
 | true,H,a,xs=>SqT K H a xs
 | false,H,a,xs=>SqL K H a xs
def Itz (K:W.Frag) (ps:List (Bool × Addr)):It :=
 ⟨fun i H=>∀ p∈ps,∃ xs x,SqB K p.1 H p.2 xs/\xs[i]? = some x,fun i H v H'=>∃ a ys,v=.ref a/\H a=none/\H'=upd H a (.tup ys)/\Paired (fun y p=>∀ xs,SqB K p.1 H p.2 xs->xs[i]? = some y) ys ps,
  fun i H=>∃ p xs,ps.head? = some p/\SqB K p.1 H p.2 xs/\xs.length<=i⟩
section
variable {X:Cx} {pins:List (Addr × Obj)} {σ:St} {H:Hp} {s:Shared} {h':Heap}
theorem Inv.seqB {b:Bool} {a:Addr} {xs:List V} (I:Inv X pins σ H s) (h:SqB X.K b H a xs):∃ its:List Value,Vals xs its/\SQ b s.heap a its.toArray:=by
 cases b with
 | true=>obtain⟨its,rv,p,_⟩:=I.tuple h;exact⟨its,rv,p⟩
 | false=>obtain⟨its,rv,p,_⟩:=I.list h;exact⟨its,rv,p.isList⟩
theorem Inv.seqB_inj {b:Bool} {a:Addr} {xs ys:List V} (I:Inv X pins σ H s) (h:SqB X.K b H a xs) (h2:SqB X.K b H a ys):xs=ys:=by
 cases b with
 | true=>exact I.tuple_inj h h2
 | false=>exact I.list_inj h h2
theorem Inv.turnedN {t':Nat} {fp:List Addr} (I:Inv X pins σ H s) (k:∀ b o,b ∉ fp->s.heap.get? b=some o->h'.get? b=some o) (hf:∀ b∈fp,Zv X pins H b):Inv X pins σ H { s with heap:=h',toks:=t' }:=by
 have ne:∀ b u,H b=some u->b ∉ fp:=fun b u e z=>by rw[(hf b z).1] at e;cases e
 have nl:X.env.locals ∉ fp:=fun z=>(hf _ z).2.1 rfl
 refine I.step (g':=s.gens) (d':=s.drawn) (ch:=fp) (fun b hb=>?_) (fun b o _ _ hc q _=>k b o hc q) (fun b o _ _ hc q _=>⟨o.slots,k b o hc q⟩) (fun _ _ _ _ n=>n)
  (fun b o hc q=>⟨o,k b o hc q⟩) (fun _ _ e=>e) (fun _ _ _ e=>e) (fun b ps e=>⟨#[],by rw[e];simp⟩) (fun m hm=>?_) (fun b u q=>?_) I.bare
 ·obtain⟨f0,f1,f2,f3,f4,f5⟩:=hf b hb
  exact⟨f3,f1,f4,f5⟩
 ·obtain⟨o,es,ep,ho,r⟩:=hm
  exact⟨o,es,ep,k _ o nl ho,r⟩
 ·refine (I.hok b u q).stay (fun c v hc q2=>k c v ?_ q2) (fun _ q=>q) fun _ _ q=>q
  rcases hc with z | z
  ·rw[z];exact ne b u q
  ·exact ne c _ z
theorem Inv.turnedNT {t':Nat} {fp:List Addr} {ys:List V} {its:List Value} (I:Inv X pins σ H s) (k:∀ b o,b ∉ fp->s.heap.get? b=some o->h'.get? b=some o) (hf:∀ b∈fp,Zv X pins H b)
  (ht:IsTup h' s.heap.objs.size its.toArray) (hv:Vals ys its) (hz:ys.length<=sizeLine):Inv X pins σ (upd H s.heap.objs.size (.tup ys)) { s with heap:=h',toks:=t' }:=by
 have hn:H s.heap.objs.size=none:=I.hok.fresh (Nat.le_refl _)
 have ne:∀ b u,H b=some u->b ∉ fp:=fun b u e z=>by rw[(hf b z).1] at e;cases e
 have nl:X.env.locals ∉ fp:=fun z=>(hf _ z).2.1 rfl
 refine I.step (g':=s.gens) (d':=s.drawn) (ch:=fp) (fun b hb=>?_) (fun b o _ _ hc q _=>k b o hc q) (fun b o _ _ hc q _=>⟨o.slots,k b o hc q⟩) (fun b o _ q n=>?_)
  (fun b o hc q=>⟨o,k b o hc q⟩) (fun b xs q=>?_) (fun b _ _ q=>?_) (fun b ps q=>⟨#[],?_⟩) (fun m hm=>?_) (fun b u q=>?_) I.bare
 ·obtain⟨f0,f1,f2,f3,f4,f5⟩:=hf b hb
  exact⟨f3,f1,f4,f5⟩
 ·rw[QG (Nat.ne_of_lt (Heap.lt_size q))];exact n
 ·rw[QG (QI q hn)];exact q
 ·rw[QG (QI q hn)];exact q
 ·rw[QG (QI q hn),q];simp
 ·obtain⟨o,es,ep,ho,r⟩:=hm
  exact⟨o,es,ep,k _ o nl ho,r⟩
 ·by_cases hb:b=s.heap.objs.size
  ·subst hb
   rw[QF] at q
   cases q
   exact⟨hz,its,hv,ht⟩
  ·rw[QG hb] at q
   refine (I.hok b u q).stay (fun c v hc q2=>k c v ?_ q2) (fun c q=>by rw[QG (QI q hn)];exact q) fun c xs q=>by rw[QG (QI q hn)];exact q
   rcases hc with z | z
   ·rw[z];exact ne b u q
   ·exact ne c _ z
abbrev zMD (qs:List (Bool × Addr × Addr)):List (Bool × Addr):=qs.map fun q=>(q.1,q.2.2)
theorem zHg {i:Nat} (I:Inv X pins σ H s):∀ {qs:List (Bool × Addr × Addr)},(∀ p∈zMD qs,∃ xs x,SqB X.K p.1 H p.2 xs/\xs[i]? = some x) ->
  ∃ us ys,Vals ys us/\Due s.heap qs i us/\Paired (fun y p=>∀ xs,SqB X.K p.1 H p.2 xs->xs[i]? = some y) ys (zMD qs)
 | [],_=>⟨[],[],.nil,⟨rfl,fun j q h=>by simp at h⟩,.nil⟩
 | q::qr,h=>by
  obtain⟨us,ys,v,⟨d1,d2⟩,p⟩:=zHg I (qs:=qr) fun p hp=>h p (List.mem_cons_of_mem _ hp)
  obtain⟨xs,x,hq,hx⟩:=h (q.1,q.2.2) List.mem_cons_self
  obtain⟨its,rv,sq⟩:=I.seqB hq
  obtain⟨u,hu,ru⟩:=rv.get hx
  refine⟨u::us,x::ys,.cons ru v,⟨by simp[d1],fun j r hj=>?_⟩,.cons (fun zs hz=>by rw[I.seqB_inj hz hq];exact hx) p⟩
  cases j with
  | zero=>simp at hj;subst hj;exact⟨_,u,sq,by simpa using hu,rfl⟩
  | succ j=>exact d2 j r (by simpa using hj)
end
theorem zD4 {P:Program} {w:World} {K:W.Frag} {tg:Expr} {z TI TO:Addr} {qs:List (Bool × Addr × Addr)} (D:Apart z TI TO qs):Turn P w K tg (Itz K (zMD qs)) (z::TI::TO::Qz qs) z
  (fun i h=>∃ f0 f1,Zp h z TI TO qs i f0 f1/\(f0=.none\/∃ T:Addr,f0=rawInt T)) where
 mem:=List.mem_cons_self
 obj:=fun i h st b hb=>by
  obtain⟨f0,f1,Z,_⟩:=st
  rcases List.mem_cons.mp hb with e | hb
  ·subst e;exact⟨_,Z.hz,fun v z=>by cases z⟩
  rcases List.mem_cons.mp hb with e | hb
  ·subst e;exact⟨_,Z.ti,fun v z=>by cases z⟩
  rcases List.mem_cons.mp hb with e | hb
  ·subst e
   obtain⟨ws,_,h2⟩:=Z.to
   exact⟨_,h2,fun v z=>by cases z⟩
  ·obtain⟨q,hq,rfl⟩:=List.mem_map.mp hb
   exact (Z.it q hq).obj
 keep:=fun i h h' st k=>by
  obtain⟨f0,f1,Z,f⟩:=st
  obtain⟨ws,h1,h2⟩:=Z.to
  exact⟨f0,f1,⟨k _ (by simp) _ Z.hz,k _ (by simp) _ Z.ti,⟨ws,h1,k _ (by simp) _ h2⟩,fun q hq=>(Z.it q hq).at fun o e=>k _ (by
   have m:q.2.1∈Qz qs:=List.mem_map.mpr ⟨q,hq,rfl⟩
   simp[m]) o e⟩,f⟩
 item:=by
  intro X hP hw hK hc i pins s σ H E I hf st hg
  subst hP hw hK
  obtain⟨f0,f1,Z,f⟩:=st
  obtain⟨us,ys,rv,du,pa⟩:=zHg I hg
  refine zAM D Z f du fun h1 g0 g1 Z1 hg1 ht hsz hk=>?_
  refine⟨_,rfl,zMM Z1.hz fun h2 k0 hk0 hz2 hs2=>?_⟩
  have zlt:z < s.heap.objs.size:=Heap.lt_size Z.hz
  have hlt:∀ b∈(z::TI::TO::Qz qs),b < s.heap.objs.size:=fun b hb=>by
   rcases List.mem_cons.mp hb with e | hb
   ·subst e;exact zlt
   rcases List.mem_cons.mp hb with e | hb
   ·subst e;exact Heap.lt_size Z.ti
   rcases List.mem_cons.mp hb with e | hb
   ·subst e
    obtain⟨ws,_,h2⟩:=Z.to
    exact Heap.lt_size h2
   ·obtain⟨q,hq,rfl⟩:=List.mem_map.mp hb
    obtain⟨o,e,_⟩:=(Z.it q hq).obj
    exact Heap.lt_size e
  have hk2:∀ b o,b ∉ (z::TI::TO::Qz qs)->s.heap.get? b=some o->h2.get? b=some o:=fun b o nb e=>hs2.extBut _ _ (fun x=>nb (by rw[x];simp)) (hk b o (fun x=>nb (by rw[x];simp)) (fun x=>nb (by rw[x];simp)) (fun x=>nb (by simp[x])) e)
  have ht2:h2.get? s.heap.objs.size=some (Jl us.toArray):=hs2.extBut _ _ (Nat.ne_of_gt zlt) ht
  obtain⟨zi,zo,io⟩:=D.zz
  obtain⟨ws,w1,w2⟩:=Z1.to
  refine⟨.ref s.heap.objs.size,_,Inv.turnedNT (s:=s) (t':=s.toks) I hk2 hf ⟨_,ht2,rfl,_,rfl⟩ rv ?_,rfl,⟨_,ys,rfl,I.hok.fresh (Nat.le_refl _),rfl,pa⟩,?_,fun b hb=>?_⟩
  ·have e1:=rv.length
   have e2:=du.1
   have e3:=D.few
   exact zII (by omega)
  ·refine⟨k0,g1,⟨hz2,hs2.extBut _ _ (Ne.symm zi) Z1.ti,⟨ws,w1,hs2.extBut _ _ (Ne.symm zo) w2⟩,fun q hq=>(Z1.it q hq).at fun o e=>hs2.extBut _ _ (Ne.symm (D.zit hq).1) e⟩,?_⟩
   rcases hk0 with e | e
   ·rw[e];exact hg1
   ·exact .inl e
  ·rw[QG (Nat.ne_of_lt (hlt b hb))]
   exact (hf b hb).1
 done:=by
  intro X hP hw hK hc i pins s σ H E I hf st hg
  subst hP hw hK
  obtain⟨f0,f1,Z,f⟩:=st
  obtain⟨p,xs,hp,hq,hx⟩:=hg
  cases qs with
  | nil=>cases hp
  | cons q qr =>
   have e:(q.1,q.2.2)=p:=by simpa using hp
   subst e
   obtain⟨its,rv,sq⟩:=I.seqB hq
   have hl:=rv.length
   refine zBA (I.ok.hd hc) D Z f sq (by simp;omega) fun h' hk=>⟨rfl,I.turnedN (t':=s.toks) (fun b o nb e=>hk b o (fun x=>nb (by rw[x];simp)) (fun x=>nb (by
    have z:=List.mem_cons_of_mem z (List.mem_cons_of_mem TI (List.mem_cons_of_mem TO x))
    exact z)) e) hf⟩
 self:=fun _ _ _ _ _ st h=>by
  obtain⟨f0,f1,Z,_⟩:=st
  exact Wz Z.hz h
section
variable {X:Cx} {tg:Expr}
def zKs (K:W.Frag) (b1 b2:Bool) (ta:TA):TI:=fun σ H R=>ta σ H fun vs H1=>∃ a b,vs=[.ref a,.ref b]/\(∃ xs,SqB K b1 H1 a xs)/\(∃ ys,SqB K b2 H1 b ys)/\R (Itz K [(b1,a),(b2,b)]) H1
def zKx (K:W.Frag) (b1 b2 b3:Bool) (ta:TA):TI:=fun σ H R=>ta σ H fun vs H1=>∃ a b c,vs=[.ref a,.ref b,.ref c]/\(∃ xs,SqB K b1 H1 a xs)/\(∃ ys,SqB K b2 H1 b ys)/\(∃ zs,SqB K b3 H1 c zs)/\R (Itz K [(b1,a),(b2,b),(b3,c)]) H1
theorem Paired.invL {α β:Type} {R:α->β->Prop} {a:α} {l:List α} {m:List β} (h:Paired R (a::l) m):∃ b m',m=b::m'/\R a b/\Paired R l m':=by
 cases h with
 | cons r t=>exact⟨_,_,rfl,r,t⟩
theorem Paired.invN {α β:Type} {R:α->β->Prop} {m:List β} (h:Paired R [] m):m=[]:=by
 cases h;rfl
theorem Paired.invR {α β:Type} {R:α->β->Prop} {b:β} {l:List β} {m:List α} (h:Paired R m (b::l)):∃ a m',m=a::m'/\R a b/\Paired R m' l:=by
 cases h with
 | cons r t=>exact⟨_,_,rfl,r,t⟩
theorem Paired.invM {α β:Type} {R:α->β->Prop} {m:List α} (h:Paired R m ([]:List β)):m=[]:=by
 cases h;rfl
theorem Vals.three {x y z:V} {us:List Value} (h:Vals [x,y,z] us):∃ u v w,us=[u,v,w]/\RelV x u/\RelV y v/\RelV z w:=by
 obtain⟨u,_,rfl,r,h⟩:=Paired.invL h
 obtain⟨v,_,rfl,q,h⟩:=Paired.invL h
 obtain⟨w,_,rfl,t,h⟩:=Paired.invL h
 obtain rfl:=Paired.invN h
 exact⟨_,_,_,rfl,r,q,t⟩
theorem zGJ (b1 b2:Bool) {e1 e2:Expr} {ta:TA} {p pos:Pos} (hg:Gl X "zip") (hm:X.mg "zip" = none) (ha:PA X [e1,e2] ta)
  (he:starEach [e1,e2] X.env=(false,eval e1 X.env)::starEach [e2] X.env:=by rfl) (hpl:(backTo pos (starEach [e2] X.env)).any (·.1)=false:=by rfl):PI X tg (.Call (.Name "zip" p) [e1,e2] [] pos) (zKs X.K b1 b2 ta):=by
 intro pins s σ H R I h
 refine wpAny_Call_Name_kw (Zf I hg hm boot_zip ?_ (by decide) (by decide))
 refine PyProof.Rows.callWith_type1 (thn (ha pos pins s σ H _ I h) fun us s1 ⟨vs,H1,I1,r1,q1⟩=>?_) he hpl
 obtain⟨a,b,rfl,⟨xs,hx⟩,⟨ys,hy⟩,q⟩:=q1
 obtain⟨u,v,rfl,ru,rv⟩:=r1.two
 cases ru
 cases rv
 obtain⟨ix,rx,sx⟩:=I1.seqB hx
 obtain⟨iy,ry,sy⟩:=I1.seqB hy
 have lx:=sx.lt
 have ly:=sy.lt
 refine zHA sx sy fun h' Z hk=>?_
 have I2:Inv X pins σ H1 { s1 with heap:=h' }:=I1.kept (t':=s1.toks) hk
 refine Wz Z.hz ?_
 refine⟨s1.heap.objs.size+4,_,_,_,H1,rfl,I2,zD4 (z:=s1.heap.objs.size+4) (TI:=s1.heap.objs.size+2) (TO:=s1.heap.objs.size+3) (qs:=[(b1,s1.heap.objs.size,a),(b2,s1.heap.objs.size+1,b)]) ⟨?_,?_,Nat.succ_pos _,by show (_:List _).length<=8;simp⟩,⟨_,_,Z,.inl rfl⟩,fun b hb=>?_,q⟩
 ·generalize s1.heap.objs.size=n
  have h:∀ i j:Nat,i ≠ j->(n+i:Nat) ≠ n+j:=fun i j h=>by omega
  refine List.nodup_cons.mpr ⟨?_,List.nodup_cons.mpr ⟨?_,List.nodup_cons.mpr ⟨?_,List.nodup_cons.mpr ⟨?_,List.nodup_cons.mpr ⟨List.not_mem_nil,List.nodup_nil⟩⟩⟩⟩⟩ <;>
   (intro m;simp only[Qz,List.map_cons,List.map_nil,List.mem_cons,List.not_mem_nil,or_false] at m;revert m;show ¬ _;unfold Addr;omega)
 ·intro q hq m
  have hb:q.2.2 < s1.heap.objs.size:=by
   rcases List.mem_cons.mp hq with rfl | hq
   ·exact lx
   ·rw[List.mem_singleton.mp hq];exact ly
  have hm:s1.heap.objs.size<=q.2.2:=by
   simp only[Qz,List.map_cons,List.map_nil,List.mem_cons,List.not_mem_nil,or_false] at m
   rcases m with m | m | m | m | m <;> rw[m] <;> first | exact Nat.le_add_right _ _ | exact Nat.le_refl _
  exact absurd hb (Nat.not_lt.mpr hm)
 ·have hm:s1.heap.objs.size<=b:=by
   simp only[Qz,List.map_cons,List.map_nil,List.mem_cons,List.not_mem_nil,or_false] at hb
   rcases hb with m | m | m | m | m <;> rw[m] <;> first | exact Nat.le_add_right _ _ | exact Nat.le_refl _
  exact I1.fpOk hm (I1.hok.fresh hm)
theorem zKg (b1 b2 b3:Bool) {e1 e2 e3:Expr} {ta:TA} {p pos:Pos} (hg:Gl X "zip") (hm:X.mg "zip" = none) (ha:PA X [e1,e2,e3] ta)
  (he:starEach [e1,e2,e3] X.env=(false,eval e1 X.env)::starEach [e2,e3] X.env:=by rfl) (hpl:(backTo pos (starEach [e2,e3] X.env)).any (·.1)=false:=by rfl):PI X tg (.Call (.Name "zip" p) [e1,e2,e3] [] pos) (zKx X.K b1 b2 b3 ta):=by
 intro pins s σ H R I h
 refine wpAny_Call_Name_kw (Zf I hg hm boot_zip ?_ (by decide) (by decide))
 refine PyProof.Rows.callWith_type1 (thn (ha pos pins s σ H _ I h) fun us s1 ⟨vs,H1,I1,r1,q1⟩=>?_) he hpl
 obtain⟨a,b,c,rfl,⟨xs,hx⟩,⟨ys,hy⟩,⟨zs,hz⟩,q⟩:=q1
 obtain⟨u,v,w',rfl,ru,rv,rw'⟩:=r1.three
 cases ru
 cases rv
 cases rw'
 obtain⟨ix,rx,sx⟩:=I1.seqB hx
 obtain⟨iy,ry,sy⟩:=I1.seqB hy
 obtain⟨iz,rz,sz⟩:=I1.seqB hz
 have lx:=sx.lt
 have ly:=sy.lt
 have lz:=sz.lt
 refine zGx sx sy sz fun h' Z hk=>?_
 have I2:Inv X pins σ H1 { s1 with heap:=h' }:=I1.kept (t':=s1.toks) hk
 refine Wz Z.hz ?_
 refine⟨s1.heap.objs.size+5,_,_,_,H1,rfl,I2,zD4 (z:=s1.heap.objs.size+5) (TI:=s1.heap.objs.size+3) (TO:=s1.heap.objs.size+4) (qs:=[(b1,s1.heap.objs.size,a),(b2,s1.heap.objs.size+1,b),(b3,s1.heap.objs.size+2,c)]) ⟨?_,?_,Nat.succ_pos _,by show (_:List _).length<=8;simp⟩,⟨_,_,Z,.inl rfl⟩,fun b hb=>?_,q⟩
 ·generalize s1.heap.objs.size=n
  refine List.nodup_cons.mpr ⟨?_,List.nodup_cons.mpr ⟨?_,List.nodup_cons.mpr ⟨?_,List.nodup_cons.mpr ⟨?_,List.nodup_cons.mpr ⟨?_,List.nodup_cons.mpr ⟨List.not_mem_nil,List.nodup_nil⟩⟩⟩⟩⟩⟩ <;>
   (intro m;simp only[Qz,List.map_cons,List.map_nil,List.mem_cons,List.not_mem_nil,or_false] at m;revert m;show ¬ _;unfold Addr;omega)
 ·intro q hq m
  have hb:q.2.2 < s1.heap.objs.size:=by
   rcases List.mem_cons.mp hq with rfl | hq
   ·exact lx
   rcases List.mem_cons.mp hq with rfl | hq
   ·exact ly
   ·rw[List.mem_singleton.mp hq];exact lz
  have hm:s1.heap.objs.size<=q.2.2:=by
   simp only[Qz,List.map_cons,List.map_nil,List.mem_cons,List.not_mem_nil,or_false] at m
   rcases m with m | m | m | m | m | m <;> rw[m] <;> first | exact Nat.le_add_right _ _ | exact Nat.le_refl _
  exact absurd hb (Nat.not_lt.mpr hm)
 ·have hm:s1.heap.objs.size<=b:=by
   simp only[Qz,List.map_cons,List.map_nil,List.mem_cons,List.not_mem_nil,or_false] at hb
   rcases hb with m | m | m | m | m | m <;> rw[m] <;> first | exact Nat.le_add_right _ _ | exact Nat.le_refl _
  exact I1.fpOk hm (I1.hok.fresh hm)
end
end L2
namespace L2
open PySem PySem.Spec PyProof.Rows
theorem zCu {prog:Program} {w:World} {A:Around} {R:Result->Shared->Prop} {s:Shared} {elt target iter:Expr} {ifs:List Expr} {scope:Scope} {pos:Pos} {it acc:Value} {env:Env} (I:Nat->Shared->Prop)
  (turn:∀ n s,I n s->wpAny (model prog w) A (pyNext it) (fun r s₁=>match r with
   | none=>R (.ok .next) s₁
   | some v => wpAny (model prog w) A (letOwnedTupleGo target it v) (fun _ s₁ => wpAny (model prog w) A (assign target env v) (fun _ s₂ =>
     wpAny (model prog w) A (forIn ifs true fun c r=>if r=true then do let ok ← isTrue c env (eval c env);pure (ForInStep.yield ok) else pure (ForInStep.yield r)) (fun ok s₃ =>
      if ok=true then wpAny (model prog w) A (eval elt env) (fun x s₄ =>
       wpAny (model prog w) A (call (.builtin "list.append") [acc,x]) (fun _ s₅=>∃ m,m < n/\I m s₅) (notedBy (model prog w) A env fun e s'=>R (.error e) s') s₄) (notedBy (model prog w) A env fun e s'=>R (.error e) s') s₃
      else ∃ m,m < n/\I m s₃) (notedBy (model prog w) A env fun e s'=>R (.error e) s') s₂) (notedBy (model prog w) A env fun e s'=>R (.error e) s') s₁) (notedBy (model prog w) A env fun e s'=>R (.error e) s') s₁) (notedBy (model prog w) A env fun e s'=>R (.error e) s') s)
  (n:Nat) (h:I n s):codeAny (model prog w) A (.compLoop (.ListComp elt [⟨target,iter,ifs,0⟩] scope pos) 0 it acc env) R s:=by
 refine codeAny_loop rfl I (fun n s hI=>?_) n h
 show wpAny _ A ((compTurn (.ListComp elt [⟨target,iter,ifs,0⟩] scope pos) 0 it acc env).onRaise (fun x=>do noteFrame x env;theTreesLotGoes x)) _ _ s
 refine wpAny_noted ?_
 rw[compTurn_list]
 refine wpAny_bind (wpAny_standAt (wpAny_bind (wpAny_mono (turn n s hI) (fun r s₁ h₁=>?_) fun _ _ h'=>h')))
 cases r with
 | none=>exact wpAny_pure h₁
 | some v =>
  refine wpAny_bind (wpAny_mono h₁ (fun _ s₁' h₁=>?_) fun _ _ h'=>h')
  refine wpAny_bind (wpAny_mono h₁ (fun _ s₂ h₂=>wpAny_bind (wpAny_mono h₂ (fun ok s₃ h₃=>?_) fun _ _ h'=>h')) fun _ _ h'=>h')
  cases ok with
  | false=>exact wpAny_pure ⟨rfl,h₃⟩
  | true =>
   exact wpAny_bind (wpAny_bind (wpAny_mono h₃ (fun x s₄ h₄=>wpAny_bind (wpAny_mono h₄ (fun _ s₅ h₅=>wpAny_pure (wpAny_pure ⟨rfl,h₅⟩)) fun _ _ h'=>h')) fun _ _ h'=>h'))
def cxN (X:Cx) (scope:Scope) (cl:List (Str × Addr)) (xs:List Str) (cs:List Str) (C:Addr) (s₀:Shared) (H₀:Hp) (fp:List Addr):Cx where
 prog:=X.prog
 w:=X.w
 K:=X.K
 mg:=X.mg
 base:=X.base
 A:=X.A
 N:=xs++cs
 s₀:=s₀
 H₀:=H₀
 env:=compEnvC scope cl C X.env
 outer:=X.stack
 stack:=X.stack
 ex:=fp
 fn:=fun y=>xs.contains y
 calm:=X.calm
 pn:=[]
 xe:=fun _ _=>False
structure CScopeN (X:Cx) (scope:Scope) (cl:List (Str × Addr)) (xs:List Str) (cs:List Str) (js:List Nat):Prop where
 clos:closureFor scope X.env=pure cl
 kind:scope.kind=.function
 nocell:∀ y∈scope.names,y.2 ≠ .cell
 names:∀ y∈scope.names,y.2=.local->scope.names.lookup y.1=some .local
 sub:∀ y c,cl.lookup y=some c->X.env.cells.lookup y=some c
 has:∀ y,((relabel scope X.env).names.lookup y=some .cell\/(relabel scope X.env).names.lookup y=some .free)->∃ c,cl.lookup y=some c
 nox:∀ x∈xs,cl.lookup x=none
 nd:(xs++cs).Nodup
 cap:Paired (fun y j=>X.N[j]? = some y) cs js
 capk:∀ y∈cs,(X.env.kindOf y=some .cell\/X.env.kindOf y=some .free)/\((relabel scope X.env).names.lookup y=some .cell\/(relabel scope X.env).names.lookup y=some .free)
def zCm (J:It) (g:TG) (tc:TT) (te:TE) (n:Nat) (τ:St) (fin:List V->Hp->Prop) (H1:Hp):Prop:=∃ W:Nat->Nat->List V->Hp->Prop,(∃ m,W 0 m [] H1)/\∀ i m ys H,W i m ys H ->
 (J.stop i H/\fin ys H)\/(J.go i H/\ys.length < sizeLine/\∃ N:List V->Hp->Prop,(∀ ys' H',N ys' H'->∃ m',m' < m/\W (i+1) m' ys' H')/\∀ v H',J.yld i H v H'->∀ ρ:St,ρ.length=n ->
  g v (ρ++τ) H' fun σ2 H2=>(∃ ρ2:St,ρ2.length=n/\σ2=ρ2++τ)/\tc σ2 H2 fun b H3=>if b=true then te σ2 H3 (fun y H4=>N (ys++[y]) H4) else N ys H3)
def Wh (n:Nat) (wi:TI) (g:TG) (js:List Nat) (tc:TT) (te:TE):TE:=fun σ H Q=>wi σ H fun J H1=>zCm J g tc te n (Y6 σ js) (fun ys H2=>∀ p,H2 p=none->Q (.ref p) (upd H2 p (.lst ys))) H1
section
variable {X:Cx} {scope:Scope} {cl:List (Str × Addr)} {xs:List Str} {cs:List Str} {js:List Nat} {pins:List (Addr × Obj)} {σ:St} {H:Hp} {s:Shared}
theorem zL8 {C:Addr} {fp:List Addr} (S:CScopeN X scope cl xs cs js) (I:Inv X pins σ H s) (hC:s.heap.objs.size<=C) (hf:∀ b∈fp,Zv X pins H b) (hlt:∀ b∈fp,b < s.heap.objs.size) :
  (cxN X scope cl xs cs C s H fp).Ok where
 mod:=I.ok.mod
 kind:=S.kind
 glob:=I.ok.glob
 blt:=I.ok.blt
 above:=hC
 inj:=fun y z c h1 h2=>I.ok.inj y z c (S.sub y c h1) (S.sub z c h2)
 has:=fun y h=>S.has y h
 cab:=fun y c h1 h2=>by
  have e:y∈xs:=List.contains_iff_mem.mp h1
  have h2':cl.lookup y=some c:=h2
  rw[S.nox y e] at h2'
  cases h2'
 hd:=I.ok.hd
 frames:=I.ok.frames
 stk:=.inl rfl
 exf:=fun b hb=>⟨fun e=>absurd (hlt b hb) (Nat.not_lt.mpr (by rw[show b=C from e];exact hC)),fun y c h=>(hf b hb).2.2.2.2.1 y c (S.sub y c h)⟩
 bs:=fun b o e=>⟨(I.bs b o e).1,(I.bs b o e).2⟩
 bsz:=Nat.le_trans I.ok.bsz I.sz
 noex:=fun b o e hb=>by
  rcases (hf b hb).2.2.2.1 with z | z
  ·exact I.ok.noex b o e z
  ·exact absurd (Nat.lt_of_lt_of_le (Heap.lt_size e) (Nat.le_trans I.ok.bsz z)) (Nat.lt_irrefl _)
 exfs:=fun b hb z=>by
  rcases List.mem_cons.mp (I.stkSub b z) with e | e
  ·exact (hf b hb).2.1 e
  ·exact (hf b hb).2.2.1 e
 funs:=I.stack
 frf:=fun b hb=>I.stkFree b hb
theorem zFF {C D:Addr} {fp:List Addr} {h₁:Heap} {tk:Nat} {oD:Obj} (S:CScopeN X scope cl xs cs js) (I:Inv X pins σ H s) (hf:∀ b∈fp,Zv X pins H b) (hlt:∀ b∈fp,b < s.heap.objs.size)
  (hD:s.heap.objs.size<=D) (hC:s.heap.objs.size<=C) (hDC:D ≠ C) (hns:h₁.Ns C (fun _=>none)) (keep:∀ b o,s.heap.get? b=some o->h₁.get? b=some o) (eD:h₁.get? D=some oD) (hoD:∀ v,oD.data ≠ .cell v) :
  Inv (cxN X scope cl xs cs C s H fp) [(D,oD)] (List.replicate xs.length none++Y6 σ js) H { s with heap:=h₁,toks:=tk }:=by
 refine⟨zL8 S I hC hf hlt,rfl,I.bare,Un.kept keep,⟨_,hns,fun i y v h1 h2 h3=>?_⟩,fun y c e=>?_,I.hok.fresh hC,fun y c e=>I.freeC y c (S.sub y c e),fun p hp=>?_,I.hok.kept keep,?_⟩
 ·by_cases hi:i < xs.length
  ·rw[List.getElem?_append_left (by simp;exact hi),List.getElem?_replicate,if_pos hi] at h2
   simp at h2
  ·have h1':cs[i - xs.length]? = some y:=by
    have z:(xs++cs)[i]? = some y:=h1
    rw[List.getElem?_append_right (by omega)] at z
    exact z
   have h2':(Y6 σ js)[i - xs.length]? = some (some v):=by
    rw[List.getElem?_append_right (by simp;omega)] at h2
    simpa using h2
   generalize i - xs.length=k at h1' h2'
   obtain⟨j,ej,ey⟩:=Y4 S.cap h1'
   have e2:σ[j]? = some (some v):=by
    unfold Y6 at h2'
    rw[List.getElem?_map,ej] at h2'
    have h3':(σ[j]?).getD none=some v:=by simpa using h2'
    cases q:σ[j]? with
    | none=>rw[q] at h3';cases h3'
    | some w'=>rw[q] at h3';exact congrArg some h3'
   obtain⟨k1,k2⟩:=S.capk y (List.mem_of_getElem? h1')
   obtain⟨m,hn,hl⟩:=I.loc
   obtain⟨u,r,l⟩:=hl j y v ey e2 (by
    rcases k1 with z | z
    ·exact .inr (.inl z)
    ·exact .inr (.inr z))
   refine⟨u,r,.inr ⟨k2,?_⟩⟩
   obtain⟨c',e'⟩:=S.has y k2
   rcases l with ⟨z,_⟩ | ⟨_,c,ec,z⟩
   ·rcases k1 with k1 | k1 <;> (rw[k1] at z;cases z)
   ·have e3:=S.sub y c' e'
    rw[ec] at e3
    cases e3
    obtain⟨o,eo,d⟩:=z
    exact⟨_,e',o,keep _ _ eo,d⟩
 ·obtain⟨v,o,eo,d⟩:=I.cell y c (S.sub y c e)
  exact⟨v,o,keep _ _ eo,d⟩
 ·have e:p=(D,oD):=by
   rcases List.mem_append.mp hp with z | z
   ·exact absurd z (by show p ∉ ([]:List (Addr × Obj));simp)
   ·simpa using z
  subst e
  exact⟨eD,I.hok.fresh hD,hDC,I.newfs hD,hoD⟩
 ·show (List.replicate xs.length none++Y6 σ js).length=(xs++cs).length
  rw[List.length_append,List.length_append,zDb,Paired.length S.cap,List.length_replicate]
theorem zE0 {elt iter tg:Expr} {pos:Pos} {ifs:List Expr} {g:TG} {tc:TT} {te:TE} {C D it:Addr} {fp:List Addr} {tn:Nat->Heap->Prop} {J:It} {s₂:Shared} {H₂:Hp} {R:Result->Shared->Prop} {fin:List V->Hp->Prop} {s₃:Shared} {ρ₀:St}
  (hc:X.calm=true) (S:CScopeN X scope cl xs cs js) (hC:s₂.heap.objs.size<=C) (hD:s₂.heap.objs.size<=D) (hDC:D ≠ C) (hlt:∀ b∈fp,b < s₂.heap.objs.size)
  (T:Turn X.prog X.w X.K tg J fp it tn)
  (hcells:∀ y c,cl.lookup y=some c->c < s₂.heap.objs.size)
  (hfs:∀ b∈fp,b ∉ frs X.stack) (hDfs:D ∉ frs X.stack)
  (hcf:∀ b∈fp,∀ y c,cl.lookup y=some c->c ≠ b)
  (hg:PG (cxN X scope cl xs cs C s₂ H₂ fp) tg g) (ht:zBm (cxN X scope cl xs cs C s₂ H₂ fp) ifs tc) (he:PE (cxN X scope cl xs cs C s₂ H₂ fp) elt te)
  (I₃:Inv (cxN X scope cl xs cs C s₂ H₂ fp) [] (ρ₀++Y6 σ js) H₂ s₃) (hρ:ρ₀.length=xs.length) (st:tn 0 s₃.heap) (hn:∀ b∈fp,H₂ b=none) (eD:s₃.heap.get? D=some (YJ [] 0)) (hDn:H₂ D=none)
  (hW:zCm J g tc te xs.length (Y6 σ js) fin H₂)
  (hR:∀ s' σ' H' ys us n,Inv (cxN X scope cl xs cs C s₂ H₂ fp) [] σ' H' s'->Vals ys us->ys.length<=sizeLine->s'.heap.get? D=some (YJ us n)->H' D=none->fin ys H'->R (.ok .next) s') :
  codeAny (model X.prog X.w) X.A (.compLoop (.ListComp elt [⟨tg,iter,ifs,0⟩] scope pos) 0 (.ref it) (.ref D) (compEnvC scope cl C X.env)) R s₃:=by
 obtain⟨W,⟨m0,w0⟩,turn⟩:=hW
 have bC:∀ b∈fp,b ≠ C:=fun b hb e=>absurd (hlt b hb) (Nat.not_lt.mpr (by rw[e];exact hC))
 have bD:∀ b∈fp,b ≠ D:=fun b hb e=>absurd (hlt b hb) (Nat.not_lt.mpr (by rw[e];exact hD))
 have cD:∀ y c,cl.lookup y=some c->c ≠ D:=fun y c h e=>absurd (hcells y c h) (Nat.not_lt.mpr (by rw[e];exact hD))
 have pinD:∀ {τ:St} {H':Hp} {s':Shared} {us:List Value} {k:Nat},Inv (cxN X scope cl xs cs C s₂ H₂ fp) [] τ H' s'->s'.heap.get? D=some (YJ us k)->H' D=none->Inv (cxN X scope cl xs cs C s₂ H₂ fp) [(D,YJ us k)] τ H' s' :=
  fun {τ H' s' us k} I e hn=>I.pins_of fun p hp=>by
   have ep:p=(D,YJ us k):=by simpa using hp
   subst ep
   exact⟨e,hn,hDC,hDfs,fun v z=>by
    have z':Data.seq us.toArray k=Data.cell v:=z
    cases z'⟩
 have fpk:∀ {H':Hp} {us:List Value} {k:Nat},(∀ b∈fp,H' b=none)->∀ b∈fp,Zv (cxN X scope cl xs cs C s₂ H₂ fp) [(D,YJ us k)] H' b:=fun {H' us k} hn b hb =>
  ⟨hn b hb,bC b hb,hfs b hb,.inl hb,fun y c e=>hcf b hb y c e,fun p hp=>by
   have ep:p=(D,YJ us k):=by
    rcases List.mem_append.mp hp with z | z
    ·exact absurd (show p∈([]:List (Addr × Obj)) from z) (by simp)
    ·simpa using z
   subst ep
   exact Ne.symm (bD b hb)⟩
 refine zCu (env:=compEnvC scope cl C X.env) (fun n s'=>∃ i ρ H' ys us k,Inv (cxN X scope cl xs cs C s₂ H₂ fp) [] (ρ++Y6 σ js) H' s'/\ρ.length=xs.length/\tn i s'.heap/\(∀ b∈fp,H' b=none)/\Vals ys us/\ys.length<=sizeLine/\s'.heap.get? D=some (YJ us k)/\H' D=none/\W i n ys H') ?_ m0
  ⟨0,ρ₀,H₂,[],[],0,I₃,hρ,st,hn,.nil,Nat.zero_le _,eD,hDn,w0⟩
 rintro n s4 ⟨i,ρ,H4,ys,us,k,I4,hρ4,st4,fr4,rv,hz,eD4,hD4,w4⟩
 have I4':=pinD I4 eD4 hD4
 rcases turn i n ys H4 w4 with ⟨stop,f⟩ | ⟨go,hlen,N,hN,step⟩
 ·refine wpAny_mono (T.done (cxN X scope cl xs cs C s₂ H₂ fp) rfl rfl rfl hc i [(D,YJ us k)] s4 _ H4 (fun _ _=>False) I4' (fpk fr4) st4 stop) (fun r s5 ⟨hr,I5⟩=>?_) (fun _ _ z=>z.elim)
  subst hr
  show R (.ok .next) s5
  exact hR s5 _ H4 ys us k (I5.pins_of fun p hp=>absurd hp (by simp)) rv hz (I5.pin (D,YJ us k) (List.mem_append_right _ (by simp))).1 hD4 f
 ·refine wpAny_mono (T.item (cxN X scope cl xs cs C s₂ H₂ fp) rfl rfl rfl hc i [(D,YJ us k)] s4 _ H4 (fun _ _=>False) I4' (fpk fr4) st4 go) (fun r s5 ⟨u,hr,h5⟩=>?_) (fun _ _ z=>z.elim)
  subst hr
  show wpAny _ _ (letOwnedTupleGo tg (.ref it) u) _ _ s5
  refine wpAny_mono h5 (fun _ s6 ⟨v,H6,I6,r6,y6,st6,fr6⟩=>?_) (fun _ _ z=>z.elim)
  have I6':=I6.pinned (fpk fr6) (T.obj _ _ st6)
  refine wpAny_mono (hg _ s6 _ H6 v u _ I6' r6 (step v H6 y6 ρ hρ4)) (fun _ s7 ⟨σ7,H7,I7,⟨ρ7,hρ7,e7⟩,q7⟩=>?_) (fun _ _ z=>False.elim z)
  subst e7
  have st7:∀ {τ:St} {H':Hp} {s':Shared},Inv (cxN X scope cl xs cs C s₂ H₂ fp) ([(D,YJ us k)]++Zz fp s6.heap) τ H' s'->tn (i+1) s'.heap/\∀ b∈fp,H' b=none:=fun {τ H' s'} I=>by
   refine⟨T.keep _ _ _ st6 fun b hb o e=>(I.pin (b,o) (List.mem_append_right _ (List.mem_append_right _ (Yg hb e)))).1,fun b hb=>?_⟩
   obtain⟨o,e,d⟩:=T.obj _ _ st6 b hb
   exact (I.pin (b,o) (List.mem_append_right _ (List.mem_append_right _ (Yg hb e)))).2.1
  have dD:∀ {τ:St} {H':Hp} {s':Shared},Inv (cxN X scope cl xs cs C s₂ H₂ fp) ([(D,YJ us k)]++Zz fp s6.heap) τ H' s'->s'.heap.get? D=some (YJ us k)/\H' D=none:=fun {τ H' s'} I=>by
   have q:=I.pin (D,YJ us k) (List.mem_append_right _ (List.mem_append_left _ (by simp)))
   exact⟨q.1,q.2.1⟩
  refine wpAny_mono (ht _ s7 _ H7 _ I7 q7) (fun ok s8 ⟨H8,I8,q8⟩=>?_) (fun _ _ z=>False.elim z)
  cases ok with
  | false =>
   obtain⟨m',hm,w8⟩:=hN _ _ q8
   exact⟨m',hm,i+1,ρ7,H8,ys,us,k,I8.pins_of fun p hp=>absurd hp (by simp),hρ7,(st7 I8).1,(st7 I8).2,rv,hz,(dD I8).1,(dD I8).2,w8⟩
  | true =>
   rw[if_pos rfl]
   refine wpAny_mono (he _ s8 _ H8 _ I8 q8) (fun xv s9 ⟨y,H9,I9,r9,n9⟩=>?_) (fun _ _ z=>False.elim z)
   obtain⟨m',hm,w9⟩:=hN _ _ n9
   obtain⟨eD9,hD9⟩:=dD I9
   have hl:=rv.length
   refine call_meets F.slot_list_append ⟨_,eD9,rfl⟩ F.entry_list_append (F.args_list_append_2 _ _) (PySem.list_append D us.toArray k xv (by rw[List.size_toArray];omega)) ⟨eD9,?_⟩
   have I9':Inv (cxN X scope cl xs cs C s₂ H₂ fp) [] (ρ7++Y6 σ js) H9 s9:=I9.pins_of fun p hp=>absurd hp (by simp)
   have q:=PySem.IsL.update eD9 (·.push xv)
   have e1:us.toArray.push xv=(us++[xv]).toArray:=by simp
   rw[e1] at q
   have I10:=I9'.turned (h':=s9.heap.update D (Obj.mapSeq (·.push xv))) (t':=s9.toks) (it:=D) (fun b o hb e=>(Heap.get?_update_other s9.heap _ (Ne.symm hb)).trans e) hD9 hDC (.inr hD) (fun y c e=>cD y c e) (fun p hp=>absurd (show p∈([]:List (Addr × Obj)) from hp) (by simp))
   refine⟨m',hm,i+1,ρ7,H9,ys++[y],us++[xv],_,I10,hρ7,?_,(st7 I9).2,rv.append (.cons r9 .nil),?_,q,hD9,w9⟩
   ·exact T.keep _ _ _ (st7 I9).1 fun b hb o e=>(Heap.get?_update_other s9.heap _ (Ne.symm (bD b hb))).trans e
   ·rw[List.length_append,List.length_singleton]
    omega
theorem zAA {elt iter tg:Expr} {pos:Pos} {ifs:List Expr} {g:TG} {tc:TT} {te:TE} {it:Addr} {fp:List Addr} {tn:Nat->Heap->Prop} {J:It} {E:Value->Shared->Prop} {fin:List V->Hp->Prop} {RR:Value->Addr->Result->Shared->Prop}
  (hc:X.calm=true) (S:CScopeN X scope cl xs cs js) (I:Inv X pins σ H s) (T:Turn X.prog X.w X.K tg J fp it tn) (st:tn 0 s.heap) (hf:∀ b∈fp,Zv X pins H b)
  (hg:∀ C s₁ H₁,PG (cxN X scope cl xs cs C s₁ H₁ fp) tg g) (ht:∀ C s₁ H₁,zBm (cxN X scope cl xs cs C s₁ H₁ fp) ifs tc) (he:∀ C s₁ H₁,PE (cxN X scope cl xs cs C s₁ H₁ fp) elt te) (hW:zCm J g tc te xs.length (Y6 σ js) fin H)
  (hRR:∀ D C s' ys H' m,Inv X pins σ (upd H' D (.lst ys)) s'->s'.heap.Ns C m->Off X pins (upd H' D (.lst ys)) C->H' D=none->fin ys H'->RR (.ref D) C (.ok .next) s') :
  wpAny (model X.prog X.w) X.A (newList []) (fun acc s₃=>wpAny (model X.prog X.w) X.A (newFunctionEnv scope X.env.globals cl [] X.env.qual none .none (some X.env)) (fun cenv s₄ =>
   codeAny (model X.prog X.w) X.A (.compStart (.ListComp elt [⟨tg,iter,ifs,0⟩] scope pos) 0 (.ref it) acc { cenv with scope:=relabel scope X.env }) (RR acc cenv.locals) s₄) E s₃) E s:=by
 have hlt:∀ b∈fp,b < s.heap.objs.size:=fun b hb=>by
  obtain⟨o,e,_⟩:=T.obj _ _ st b hb
  exact Heap.lt_size e
 refine wpAny_newObj_type (wpAny_newFunctionEnv S.nocell (by intro y hy;simp at hy) (fun h₁ hns₁ hsb₁=>?_) S.kind)
 dsimp only at hns₁ hsb₁ ⊢
 generalize hH2:s.heap.push { cls:=.type "list",dict:=none,data:=.seq ([]:List Value).toArray }=H2 at hns₁ hsb₁ ⊢
 have hC:H2.objs.size=s.heap.objs.size+1:=by rw[← hH2,Heap.size_push]
 have hDC:s.heap.objs.size ≠ H2.objs.size:=by rw[hC];exact Nat.ne_of_lt (Nat.lt_succ_self _)
 have hCle:s.heap.objs.size<=H2.objs.size:=by rw[hC];exact Nat.le_succ _
 have below:∀ b,b < s.heap.objs.size->b ≠ H2.objs.size/\b ≠ s.heap.objs.size:=fun b hb=>⟨by rw[hC];exact Nat.ne_of_lt (Nat.lt_succ_of_lt hb),Nat.ne_of_lt hb⟩
 have old:∀ b o,s.heap.get? b=some o->h₁.get? b=some o:=fun b o e=>hsb₁.extBut b o (below b (Heap.lt_size e)).1 (Heap.get?_push_of_some _ (hH2 ▸ Heap.get?_push_of_some _ e))
 have hacc:h₁.get? s.heap.objs.size=some (YJ [] 0):=hsb₁.extBut _ _ hDC (Heap.get?_push_of_some _ (hH2 ▸ Heap.get?_push_size _ rfl))
 have hDn:H s.heap.objs.size=none:=I.hok.fresh (Nat.le_refl _)
 have I₁:=zFF (C:=H2.objs.size) (D:=s.heap.objs.size) (tk:=s.toks+([]:List (Str × Value)).length) (oD:=YJ [] 0) S I hf hlt (Nat.le_refl _) hCle hDC hns₁ old hacc (fun v z=>by
  have z':Data.seq ([]:List Value).toArray 0=Data.cell v:=z
  cases z')
 have I₁':=I₁.pins_of (pins':=[]) fun p hp=>absurd hp (by simp)
 have stk:tn 0 h₁:=T.keep _ _ _ st fun b _ o e=>old b o e
 have loop:codeAny (model X.prog X.w) X.A (.compLoop (.ListComp elt [⟨tg,iter,ifs,0⟩] scope pos) 0 (.ref it) (.ref s.heap.objs.size) (compEnvC scope cl H2.objs.size X.env)) (RR (.ref s.heap.objs.size) H2.objs.size)
   { s with heap:=h₁,toks:=s.toks+([]:List (Str × Value)).length }:=by
  refine zE0 (s₂:=s) (H₂:=H) (fp:=fp) (fin:=fin) hc S hCle (Nat.le_refl _) hDC hlt T (fun y c e=>?_) (fun b hb z=>?_) (I.newfs (Nat.le_refl _)) (fun b hb y c e=>(hf b hb).2.2.2.2.1 y c (S.sub y c e)) (hg _ _ _) (ht _ _ _) (he _ _ _) I₁' (by rw[List.length_replicate]) stk (fun b hb=>(hf b hb).1) hacc hDn hW ?_
  ·obtain⟨v,q⟩:=I.cell y c (S.sub y c e)
   exact q.lt
  ·rcases List.mem_cons.mp (I.stkSub b z) with e | e
   ·exact (hf b hb).2.1 e
   ·exact (hf b hb).2.2.1 e
  ·intro s' σ' H' ys us n I' rv hz eD hDn' hfin
   have u':Un (frs X.stack) fp H H' s.heap s'.heap:=I'.base
   have u:Un (frs X.stack) fp H (upd H' s.heap.objs.size (.lst ys)) s.heap s'.heap:=⟨u'.keep,u'.slot,fun b o e n hx=>by rw[QG (below b (Heap.lt_size e)).2];exact u'.free b o e n hx,u'.there,
    fun b xs e=>by rw[QG (QI e hDn)];exact u'.tups b xs e,fun b o w' e=>by rw[QG (QI e hDn)];exact u'.frzs b o w' e,fun b ps e=>by
     obtain⟨more,q⟩:=u'.tbls b ps e
     exact⟨more,by rw[QG (QI e hDn)];exact q⟩⟩
   have hok:HOk X.prog X.w (upd H' s.heap.objs.size (.lst ys)) s'.heap:=HOk.track I'.hok hDn' ⟨hz,us,n,rv,eD⟩
   have I2:Inv X pins σ (upd H' s.heap.objs.size (.lst ys)) s':=I.call' (ch:=fp) I'.os u hok I'.bare fun b hb=>⟨(hf b hb).2.2.2.1,(hf b hb).2.1,(hf b hb).2.2.2.2.1,(hf b hb).2.2.2.2.2⟩
   obtain⟨m,hm,_⟩:=I'.loc
   refine hRR _ _ s' ys H' m I2 hm ⟨?_,Ne.symm (below _ I.lt).1,Nat.le_trans I.sz hCle,fun y c e=>?_,fun p hp=>?_⟩ hDn' hfin
   ·rw[QG (Ne.symm hDC)];exact I'.free
   ·obtain⟨v,q⟩:=I.cell y c e
    exact (below _ q.lt).1
   ·exact (below _ (Heap.lt_size (I.pin p hp).1)).1
 exact codeAny_compStart_list loop (T.self X.A 0 _ _ _ stk loop)
theorem zGW {elt iter tg:Expr} {pos:Pos} {ifs:List Expr} {wi:TI} {g:TG} {tc:TT} {te:TE} (hc:X.calm=true) (S:CScopeN X scope cl xs cs js) (hi:PI X tg iter wi)
  (hg:∀ C s₁ H₁ fp,PG (cxN X scope cl xs cs C s₁ H₁ fp) tg g) (ht:∀ C s₁ H₁ fp,zBm (cxN X scope cl xs cs C s₁ H₁ fp) ifs tc) (he:∀ C s₁ H₁ fp,PE (cxN X scope cl xs cs C s₁ H₁ fp) elt te)
  (hs:∀ x,foldedSetIterable iter X.env x=pure x:=by intro _;rfl):PE X (.ListComp elt [⟨tg,iter,ifs,0⟩] scope pos) (Wh xs.length wi g js tc te):=by
 intro pins s σ H Q I h
 rw[eval_ListComp]
 refine wpAny_comprehension_free (use:=none) rfl hs S.clos S.kind S.names (thn (hi pins s σ H _ I h) fun v s1 h1=>thn h1 fun itv s2 h2=>?_)
 obtain⟨it,fp,tn,J,H2,e,I2,T,st2,f2,hW⟩:=h2
 subst e
 refine zAA (RR:=fun acc C=>compPost (model X.prog X.w) X.A X.xe none (EP X pins σ Q) acc C) hc S I2 T st2 f2 (fun C s₁ H₁=>hg C s₁ H₁ fp) (fun C s₁ H₁=>ht C s₁ H₁ fp) (fun C s₁ H₁=>he C s₁ H₁ fp) hW ?_
 intro D C s' ys H' m I' hm O hD hfin
 exact⟨m,hm,fun h' k=>⟨.ref D,_,I'.off (t':=s'.toks) O k,rfl,hfin D hD⟩⟩
theorem zGz {i:Nat} {y:Str} {py spos:Pos} {elt iter tg:Expr} {pos:Pos} {ifs:List Expr} {wi:TI} {g:TG} {tc:TT} {te:TE} (hN:X.N.Nodup) (hi':X.N[i]? = some y) (hy:Loc X.env.scope y) (hc:X.calm=true) (S:CScopeN X scope cl xs cs js) (hi:PI X tg iter wi)
  (hg:∀ C s₁ H₁ fp,PG (cxN X scope cl xs cs C s₁ H₁ fp) tg g) (ht:∀ C s₁ H₁ fp,zBm (cxN X scope cl xs cs C s₁ H₁ fp) ifs tc) (he:∀ C s₁ H₁ fp,PE (cxN X scope cl xs cs C s₁ H₁ fp) elt te)
  (hsw:swapsWith (.ListComp elt [⟨tg,iter,ifs,0⟩] scope pos) (some (.Name y py)) spos.line X.env=pure true:=by rfl)
  (hf:X.fn y=true\/X.env.scope.names.lookup y=some .local:=by first | exact .inl rfl | exact .inr rfl | assumption)
  (hs:∀ x,foldedSetIterable iter X.env x=pure x:=by intro _;rfl):PS X (.Assign [.Name y py] (.ListComp elt [⟨tg,iter,ifs,0⟩] scope pos) spos) (zEM (Wh xs.length wi g js tc te) (Wb i)):=by
 intro pins s σ H D I h
 rw[exec_Assign_Name_used _ _ _ _ hsw]
 refine wpAny_bind (wpAny_standAt (wpAny_bind ?_))
 show wpAny _ X.A (do let _ ← comprehension (.ListComp elt [⟨tg,iter,ifs,0⟩] scope pos) scope X.env _ (newList []) false (eval iter X.env) (some (assign (.Name y py) X.env))) _ _ s
 refine wpAny_bind (wpAny_mono (wpAny_comprehension_free (use:=some (assign (.Name y py) X.env)) (Q:=fun _ s'=>SP X pins D .next s') rfl hs S.clos S.kind S.names
  (thn (hi pins s σ H _ I h) fun v s1 h1=>thn h1 fun itv s2 h2=>?_)) (fun _ s' hq=>wpAny_pure (wpAny_pure hq)) fun _ _ e=>e)
 obtain⟨it,fp,tn,J,H2,e,I2,T,st2,f2,hW⟩:=h2
 subst e
 refine zAA (RR:=fun acc C=>compPost (model X.prog X.w) X.A X.xe (some (assign (.Name y py) X.env)) (fun _ s'=>SP X pins D .next s') acc C) hc S I2 T st2 f2 (fun C s₁ H₁=>hg C s₁ H₁ fp) (fun C s₁ H₁=>ht C s₁ H₁ fp) (fun C s₁ H₁=>he C s₁ H₁ fp) hW ?_
 intro D' C s' ys H' m I' hm O hD hfin
 show wpAny _ X.A (assign (.Name y py) X.env (.ref D')) _ _ s'
 refine wpAny_assign_Name (J2 I' hN hi' hy (v:=.ref D') rfl (fun s'' I'' sb=>?_) hf)
 obtain⟨a,sb,ha⟩:=sb
 have hCa:C ≠ a:=by
  rcases ha with e | e
  ·rw[e];exact O.l
  ·exact fun z=>O.c y a e z.symm
 exact⟨m,hm.sameBut sb hCa,fun h' k=>⟨_,_,I''.off (t':=s''.toks) O k,hfin D' hD⟩⟩
end
structure CompOkN (sc scope:Scope) (N:List Str) (xs:List Str) (cs:List Str) (js:List Nat):Prop where
 k1:scope.kind=.function
 k2:sc.kind=.function
 nocell:∀ y∈scope.names,y.2 ≠ .cell
 names:∀ y∈scope.names,y.2=.local->scope.names.lookup y.1=some .local
 fr:∀ y∈scope.names,y.2=.free->sc.names.lookup y.1=some .cell/\y.1 ∉ xs
 nd:(xs++cs).Nodup
 cap:js.map (fun j=>N[j]?)=cs.map some
 capk:∀ y∈cs,sc.names.lookup y=some .cell/\scope.names.lookup y=some .free
theorem zAD {X:Cx} {sc scope:Scope} {xs:List Str} {cs:List Str} {js:List Nat} {qual:Str} {L f:Addr} {cd:Value} (hE:X.env=envOfC qual sc L f cd) (c:CompOkN sc scope X.N xs cs js):CScopeN X scope (YM X.env scope.names []) xs cs js:=by
 have hcs:∀ y,sc.names.lookup y=some .cell->(X.env.cells.lookup y).isSome=true:=fun y h=>by
  rw[hE]
  exact PySem.W.cellsFrom_some _ _ _ (.inl h)
 have hn:∀ y∈scope.names,y.2=.free->(X.env.cells.lookup y.1).isSome=true:=fun y hy h=>hcs _ (c.fr y hy h).1
 have hk:X.env.scope.kind=.function:=by rw[hE];exact c.k2
 have kd:∀ y,X.env.kindOf y=sc.names.lookup y:=fun y=>by rw[hE];rfl
 refine⟨Wa hn,c.k1,c.nocell,c.names,fun y d h=>WO _ _ hn (fun z d h=>by cases h) h,fun y h=>?_,fun x hx=>WN _ _ (fun z hz h e=>(c.fr z hz h).2 (by rw[e];exact hx)) rfl,c.nd,Jn c.cap,fun y hy=>?_⟩
 ·exact Option.isSome_iff_exists.mp (JV _ _ (.inl (ZZ c.nocell h)))
 ·have q:=c.capk y hy
  have q1:X.env.kindOf y=some .cell:=(kd y).trans q.1
  exact⟨.inl q1,.inl (Zo hk q1 q.2)⟩
section
variable {X:Cx}
theorem zI1 (xs:List Str) (cs:List Str) (js:List Nat) {sc scope:Scope} {qual:Str} {L f:Addr} {cd:Value} {elt iter tg:Expr} {pos:Pos} {wi:TI} {g:TG} {te:TE} (hE:X.env=envOfC qual sc L f cd) (c:CompOkN sc scope X.N xs cs js) (hc:X.calm=true) (hi:PI X tg iter wi)
  (hg:∀ C s₁ H₁ fp,PG (cxN X scope (YM X.env scope.names []) xs cs C s₁ H₁ fp) tg g) (he:∀ C s₁ H₁ fp,PE (cxN X scope (YM X.env scope.names []) xs cs C s₁ H₁ fp) elt te)
  (hs:∀ x,foldedSetIterable iter X.env x=pure x:=by intro _;rfl):PE X (.ListComp elt [⟨tg,iter,[],0⟩] scope pos) (Wh xs.length wi g js zIs te) :=
 zGW hc (zAD hE c) hi hg (fun _ _ _ _=>zEN) he hs
theorem zG0 {i:Nat} {y:Str} {py spos:Pos} (hN:X.N.Nodup) (hi':X.N[i]? = some y) (hy:Loc X.env.scope y) (xs:List Str) (cs:List Str) (js:List Nat) {sc scope:Scope} {qual:Str} {L f:Addr} {cd:Value} {elt iter t tg:Expr} {pos:Pos} {wi:TI} {g:TG} {tc:TT} {te:TE} (hE:X.env=envOfC qual sc L f cd) (c:CompOkN sc scope X.N xs cs js) (hc:X.calm=true) (hi:PI X tg iter wi)
  (hg:∀ C s₁ H₁ fp,PG (cxN X scope (YM X.env scope.names []) xs cs C s₁ H₁ fp) tg g) (ht:∀ C s₁ H₁ fp,PT (cxN X scope (YM X.env scope.names []) xs cs C s₁ H₁ fp) t tc) (he:∀ C s₁ H₁ fp,PE (cxN X scope (YM X.env scope.names []) xs cs C s₁ H₁ fp) elt te)
  (hsw:swapsWith (.ListComp elt [⟨tg,iter,[t],0⟩] scope pos) (some (.Name y py)) spos.line X.env=pure true:=by rfl)
  (hf:X.fn y=true\/X.env.scope.names.lookup y=some .local:=by first | exact .inl rfl | exact .inr rfl | assumption)
  (hs:∀ x,foldedSetIterable iter X.env x=pure x:=by intro _;rfl):PS X (.Assign [.Name y py] (.ListComp elt [⟨tg,iter,[t],0⟩] scope pos) spos) (zEM (Wh xs.length wi g js tc te) (Wb i)) :=
 zGz hN hi' hy hc (zAD hE c) hi hg (fun _ _ _ _=>zA5 (ht _ _ _ _)) he hsw hf hs
abbrev zFs (K:W.Frag):TG:=zMQ K 2 (zFf (Wb 0) (zFf (Wb 1) zLv))
theorem zFy {scope:Scope} {cl:List (Str × Addr)} {x y:Str} {cs:List Str} {C:Addr} {s₁:Shared} {H₁:Hp} {fp:List Addr} {px py tp:Pos} {k:Nat} (hc:X.calm=true) (nd:([x,y]++cs).Nodup) (lx:scope.names.lookup x=some .local) (ly:scope.names.lookup y=some .local) :
  PG (cxN X scope cl [x,y] cs C s₁ H₁ fp) (.Tuple [.Name x px,.Name y py] k tp) (zFs X.K) :=
 zHl (X:=cxN X scope cl [x,y] cs C s₁ H₁ fp) hc (JH (YU (i:=0) nd rfl (.inl (lookup_relabel_local lx)) (.inl (by show List.contains [x,y] x=true;simp))) (JH (YU (i:=1) nd rfl (.inl (lookup_relabel_local ly)) (.inl (by show List.contains [x,y] y=true;simp))) zFl))
theorem zIx (x y:Str) (cs:List Str) (js:List Nat) {sc scope:Scope} {qual:Str} {L f:Addr} {cd:Value} {elt iter:Expr} {px py tp pos:Pos} {k:Nat} {wi:TI} {te:TE} (hE:X.env=envOfC qual sc L f cd) (c:CompOkN sc scope X.N [x,y] cs js) (lx:scope.names.lookup x=some .local) (ly:scope.names.lookup y=some .local) (hc:X.calm=true) (hi:PI X (.Tuple [.Name x px,.Name y py] k tp) iter wi)
  (he:∀ C s₁ H₁ fp,PE (cxN X scope (YM X.env scope.names []) [x,y] cs C s₁ H₁ fp) elt te)
  (hs:∀ x,foldedSetIterable iter X.env x=pure x:=by intro _;rfl):PE X (.ListComp elt [⟨.Tuple [.Name x px,.Name y py] k tp,iter,[],0⟩] scope pos) (Wh 2 wi (zFs X.K) js zIs te) :=
 zI1 [x,y] cs js hE c hc hi (fun _ _ _ _=>zFy hc c.nd lx ly) he hs
theorem zGu {i:Nat} {z:Str} {pz spos:Pos} (hN:X.N.Nodup) (hi':X.N[i]? = some z) (hy:Loc X.env.scope z) (x y:Str) (cs:List Str) (js:List Nat) {sc scope:Scope} {qual:Str} {L f:Addr} {cd:Value} {elt iter t:Expr} {px py tp pos:Pos} {k:Nat} {wi:TI} {tc:TT} {te:TE} (hE:X.env=envOfC qual sc L f cd) (c:CompOkN sc scope X.N [x,y] cs js) (lx:scope.names.lookup x=some .local) (ly:scope.names.lookup y=some .local) (hc:X.calm=true) (hi:PI X (.Tuple [.Name x px,.Name y py] k tp) iter wi)
  (ht:∀ C s₁ H₁ fp,PT (cxN X scope (YM X.env scope.names []) [x,y] cs C s₁ H₁ fp) t tc) (he:∀ C s₁ H₁ fp,PE (cxN X scope (YM X.env scope.names []) [x,y] cs C s₁ H₁ fp) elt te)
  (hsw:swapsWith (.ListComp elt [⟨.Tuple [.Name x px,.Name y py] k tp,iter,[t],0⟩] scope pos) (some (.Name z pz)) spos.line X.env=pure true:=by rfl)
  (hf:X.fn z=true\/X.env.scope.names.lookup z=some .local:=by first | exact .inl rfl | exact .inr rfl | assumption)
  (hs:∀ x,foldedSetIterable iter X.env x=pure x:=by intro _;rfl):PS X (.Assign [.Name z pz] (.ListComp elt [⟨.Tuple [.Name x px,.Name y py] k tp,iter,[t],0⟩] scope pos) spos) (zEM (Wh 2 wi (zFs X.K) js tc te) (Wb i)) :=
 zG0 hN hi' hy [x,y] cs js hE c hc hi (fun _ _ _ _=>zFy hc c.nd lx ly) ht he hsw hf hs
theorem zBJ {K:W.Frag} {b1 b2:Bool} {a b:Addr} {xs ys:List V} {tc:TT} {te:TE} {τ:St} {fin:List V->Hp->Prop} {H:Hp} (hl:xs.length=ys.length) (hz:xs.length<=sizeLine) (Pv:Nat->List V->Hp->Prop) (h0:Pv 0 [] H)
  (hk:∀ i zs H,i<=xs.length->Pv i zs H->SqB K b1 H a xs/\SqB K b2 H b ys/\zs.length<=i)
  (hs:∀ (i:Nat) x y p zs H,xs[i]? = some x->ys[i]? = some y->Pv i zs H->H p=none->tc (some x::some y::τ) (upd H p (.tup [x,y])) fun b H3=>if b=true then te (some x::some y::τ) H3 (fun y H4=>Pv (i+1) (zs++[y]) H4) else Pv (i+1) zs H3)
  (hd:∀ zs H,Pv xs.length zs H->fin zs H):zCm (Itz K [(b1,a),(b2,b)]) (zFs K) tc te 2 τ fin H:=by
 refine⟨fun i m zs H=>m=xs.length - i/\i<=xs.length/\Pv i zs H,⟨xs.length,by simp,Nat.zero_le _,h0⟩,?_⟩
 rintro i m zs H ⟨rfl,hi,p⟩
 obtain⟨q1,q2,q3⟩:=hk i zs H hi p
 by_cases hlt:i < xs.length
 ·refine .inr ⟨fun r hr=>?_,by omega,Pv (i+1),fun ys' H' p'=>⟨xs.length - (i+1),by omega,rfl,hlt,p'⟩,fun x H' y ρ hρ=>?_⟩
  ·rcases List.mem_cons.mp hr with rfl | hr
   ·exact⟨xs,xs[i],q1,by simp[hlt]⟩
   ·rw[List.mem_singleton.mp hr]
    exact⟨ys,ys[i],q2,by simp[hl ▸ hlt]⟩
  ·obtain⟨c,us,rfl,hc,rfl,pa⟩:=y
   obtain⟨u,_,rfl,p1,pa⟩:=Paired.invR pa
   obtain⟨v,_,rfl,p2,pa⟩:=Paired.invR pa
   obtain rfl:=Paired.invM pa
   obtain⟨r1,r2,rfl⟩:∃ r1 r2,ρ=[r1,r2]:=by
    cases ρ with
    | nil=>cases hρ
    | cons r1 ρ =>
     cases ρ with
     | nil=>cases hρ
     | cons r2 ρ =>
      cases ρ with
      | nil=>exact⟨_,_,rfl⟩
      | cons _ _=>cases hρ
   refine⟨c,[u,v],rfl,SqT.of QF,rfl,u,[v],rfl,v,[],rfl,rfl,⟨[some u,some v],rfl,rfl⟩,?_⟩
   exact hs i u v c zs H (p1 xs q1) (p2 ys q2) p hc
 ·have e:i=xs.length:=by omega
  subst e
  exact .inl ⟨⟨_,xs,rfl,q1,Nat.le_refl _⟩,hd zs H p⟩
theorem zE3 {K:W.Frag} {b1 b2 b3:Bool} {a b c:Addr} {xs ys zs:List V} {tc:TT} {te:TE} {τ:St} {fin:List V->Hp->Prop} {H:Hp} (hl:xs.length=ys.length) (hl2:xs.length=zs.length) (hz:xs.length<=sizeLine) (Pv:Nat->List V->Hp->Prop) (h0:Pv 0 [] H)
  (hk:∀ i vs H,i<=xs.length->Pv i vs H->SqB K b1 H a xs/\SqB K b2 H b ys/\SqB K b3 H c zs/\vs.length<=i)
  (hs:∀ (i:Nat) x y z p vs H,xs[i]? = some x->ys[i]? = some y->zs[i]? = some z->Pv i vs H->H p=none->tc (some (.ref p)::τ) (upd H p (.tup [x,y,z])) fun b H3=>if b=true then te (some (.ref p)::τ) H3 (fun y H4=>Pv (i+1) (vs++[y]) H4) else Pv (i+1) vs H3)
  (hd:∀ vs H,Pv xs.length vs H->fin vs H):zCG (Itz K [(b1,a),(b2,b),(b3,c)]) tc te τ fin H:=by
 refine⟨fun i m vs H=>m=xs.length - i/\i<=xs.length/\Pv i vs H,⟨xs.length,by simp,Nat.zero_le _,h0⟩,?_⟩
 rintro i m vs H ⟨rfl,hi,p⟩
 obtain⟨q1,q2,q3,q4⟩:=hk i vs H hi p
 by_cases hlt:i < xs.length
 ·refine .inr ⟨fun r hr=>?_,by omega,Pv (i+1),fun ys' H' p'=>⟨xs.length - (i+1),by omega,rfl,hlt,p'⟩,fun x H' y=>?_⟩
  ·rcases List.mem_cons.mp hr with rfl | hr
   ·exact⟨xs,xs[i],q1,by simp[hlt]⟩
   rcases List.mem_cons.mp hr with rfl | hr
   ·exact⟨ys,ys[i],q2,by simp[hl ▸ hlt]⟩
   ·rw[List.mem_singleton.mp hr]
    exact⟨zs,zs[i],q3,by simp[hl2 ▸ hlt]⟩
  ·obtain⟨d,us,rfl,hc,rfl,pa⟩:=y
   obtain⟨u,_,rfl,p1,pa⟩:=Paired.invR pa
   obtain⟨v,_,rfl,p2,pa⟩:=Paired.invR pa
   obtain⟨t,_,rfl,p3,pa⟩:=Paired.invR pa
   obtain rfl:=Paired.invM pa
   exact hs i u v t d vs H (p1 xs q1) (p2 ys q2) (p3 zs q3) p hc
 ·have e:i=xs.length:=by omega
  subst e
  exact .inl ⟨⟨_,xs,rfl,q1,Nat.le_refl _⟩,hd vs H p⟩
end
end L2
namespace L2
open PySem PySem.Spec PyProof.Rows
theorem zHE (bs:List Bool):(List.range bs.length).all (fun i=>bs.getD i true)=bs.all id:=by
 rw[Bool.eq_iff_iff,List.all_eq_true,List.all_eq_true]
 constructor
 ·intro h b hb
  obtain⟨i,hi,e⟩:=List.mem_iff_getElem.mp hb
  have:=h i (List.mem_range.mpr hi)
  rw[List.getD_eq_getElem?_getD,List.getElem?_eq_getElem hi] at this
  rw[← e];exact this
 ·intro h i hi
  have hi':=List.mem_range.mp hi
  rw[List.getD_eq_getElem?_getD,List.getElem?_eq_getElem hi']
  exact h _ (List.getElem_mem hi')
section
variable {X:Cx}
def zNH (K:W.Frag):List V->Hp->VK->Prop:=fun xs H Q=>∃ (l:Addr) (bs:List Bool),xs=[.ref l]/\SqL K H l (bs.map V.bl)/\Q (.bl (bs.all id)) H
theorem zBT (hc:X.calm=true):ZD X (.builtin "all") (zNH X.K):=by
 intro pins s σ H xs us Q I r h
 obtain⟨l,bs,rfl,hq,q⟩:=h
 obtain⟨u,rfl,rx⟩:=zFh r
 cases rx
 obtain⟨its,r',pl,hz⟩:=I.list hq
 have hl:s.heap.IsList l its.toArray:=pl.isList
 have hlt:l < s.heap.objs.size:=by obtain⟨_,e,_⟩:=hl;exact Heap.lt_size e
 have hlen:=r'.length
 rw[List.length_map] at hlen
 refine call_all_walk (wpAny_pyIter_list hl ?_)
 refine⟨s.heap.objs.size,_,_,_,_,_,fun i=>bs.getD i true,rfl,Walks.list (A:=X.A.in1) (I.ok.hd hc) s.heap.objs.size l (Nat.ne_of_lt hlt) its.toArray,⟨⟨_,Heap.get?_push_size _ rfl,rfl,rfl⟩,?_⟩,?_,?_⟩
 ·obtain⟨o,e,r⟩:=hl
  exact⟨o,Heap.get?_push_of_some _ e,r⟩
 ·intro i v s' Q' E' hv hQ
  have hv':its[i]? = some v:=by simpa using hv
  have hi:i < its.length:=(List.getElem?_eq_some_iff.mp hv').1
  obtain⟨u,e1,e2⟩:=r'.get (i:=i) (x:=V.bl (bs.getD i true)) (by
   rw[List.getElem?_map,List.getElem?_eq_getElem (by omega),List.getD_eq_getElem?_getD,List.getElem?_eq_getElem (by omega)];rfl)
  rw[e1] at hv'
  cases hv'
  cases e2
  exact wpAny_truthy_bool hQ
 ·intro h' tk hk
  have e:its.toArray.size=bs.length:=by simp[hlen]
  rw[e,zHE]
  refine⟨.bl (bs.all id),H,I.kept (t':=tk) fun b o e=>hk b o ?_ (Heap.get?_push_of_some _ e),rfl,q⟩
  intro hb
  rw[List.mem_singleton.mp hb] at e
  exact Nat.lt_irrefl _ (Heap.lt_size e)
end
mutual
def Kd.eqb:Kd->Kd->Bool
 | .num i,.num j=>i == j
 | .txt x,.txt y=>x == y
 | .tup ks,.tup ls=>Kd.eqbL ks ls
 | .num _,.txt _=>false
 | .num _,.tup _=>false
 | .txt _,.num _=>false
 | .txt _,.tup _=>false
 | .tup _,.num _=>false
 | .tup _,.txt _=>false
def Kd.eqbL:List Kd->List Kd->Bool
 | [],[]=>true
 | k::r,l::q=>k.eqb l && Kd.eqbL r q
 | [],_::_=>false
 | _::_,[]=>false
end
mutual
theorem Kd.eqb_eq:∀ {k l:Kd},k.eqb l=true->k=l
 | .num i,.num j,h=>by unfold Kd.eqb at h;rw[eq_of_beq h]
 | .txt i,.txt j,h=>by unfold Kd.eqb at h;rw[eq_of_beq h]
 | .tup ks,.tup ls,h=>by unfold Kd.eqb at h;rw[Kd.eqbL_eq h]
 | .num _,.txt _,h=>by unfold Kd.eqb at h;cases h
 | .num _,.tup _,h=>by unfold Kd.eqb at h;cases h
 | .txt _,.num _,h=>by unfold Kd.eqb at h;cases h
 | .txt _,.tup _,h=>by unfold Kd.eqb at h;cases h
 | .tup _,.num _,h=>by unfold Kd.eqb at h;cases h
 | .tup _,.txt _,h=>by unfold Kd.eqb at h;cases h
theorem Kd.eqbL_eq:∀ {k l:List Kd},Kd.eqbL k l=true->k=l
 | [],[],_=>rfl
 | k::r,l::q,h=>by
  unfold Kd.eqbL at h
  rw[Bool.and_eq_true] at h
  rw[Kd.eqb_eq h.1,Kd.eqbL_eq h.2]
 | [],_::_,h=>by unfold Kd.eqbL at h;cases h
 | _::_,[],h=>by unfold Kd.eqbL at h;cases h
end
mutual
theorem IsK.inj {H:Hp}:∀ {k l:Kd} {v:V},IsK H k v->IsK H l v->k.eqb l=true
 | .num i,.num j,v,h,h'=>by unfold IsK at h h';subst h;cases h';unfold Kd.eqb;exact beq_self_eq_true _
 | .txt i,.txt j,v,h,h'=>by unfold IsK at h h';subst h;cases h';unfold Kd.eqb;exact beq_self_eq_true _
 | .tup ks,.tup ls,v,h,h'=>by
  unfold IsK at h h'
  obtain⟨a,vs,rfl,e,_,q⟩:=h
  obtain⟨a',vs',e1,e',_,q'⟩:=h'
  cases e1
  rw[e] at e'
  cases e'
  unfold Kd.eqb
  exact IsKs.inj q q'
 | .num _,.txt _,v,h,h'=>by unfold IsK at h h';subst h;cases h'
 | .num _,.tup _,v,h,h'=>by unfold IsK at h h';subst h;obtain⟨_,_,e,_⟩:=h';cases e
 | .txt _,.num _,v,h,h'=>by unfold IsK at h h';subst h;cases h'
 | .txt _,.tup _,v,h,h'=>by unfold IsK at h h';subst h;obtain⟨_,_,e,_⟩:=h';cases e
 | .tup _,.num _,v,h,h'=>by unfold IsK at h h';subst h';obtain⟨_,_,e,_⟩:=h;cases e
 | .tup _,.txt _,v,h,h'=>by unfold IsK at h h';subst h';obtain⟨_,_,e,_⟩:=h;cases e
theorem IsKs.inj {H:Hp}:∀ {k l:List Kd} {v:List V},IsKs H k v->IsKs H l v->Kd.eqbL k l=true
 | [],[],_,_,_=>by unfold Kd.eqbL;rfl
 | k::r,l::q,v,h,h'=>by
  unfold IsKs at h h'
  obtain⟨a,vr,rfl,h1,h2⟩:=h
  obtain⟨a',vr',e,h1',h2'⟩:=h'
  obtain⟨rfl,rfl⟩:=List.cons.inj e
  unfold Kd.eqbL
  rw[IsK.inj h1 h1',IsKs.inj h2 h2'];rfl
 | [],_::_,v,h,h'=>by unfold IsKs at h h';subst h;obtain⟨_,_,e,_⟩:=h';cases e
 | _::_,[],v,h,h'=>by unfold IsKs at h h';subst h';obtain⟨_,_,e,_⟩:=h;cases e
end
def zBF (ks ls:List Kd) (j:Nat):Bool:=match ks[j]?,ls[j]? with
 | some k,some l=>k.eqb l
 | _,_=>true
theorem zB4:∀ (ks ls:List Kd),((List.range (min ks.length ls.length)).all (zBF ks ls) && ks.length == ls.length)=Kd.eqbL ks ls
 | [],[]=>by unfold Kd.eqbL;rfl
 | [],l::q=>by unfold Kd.eqbL;simp
 | k::r,[]=>by unfold Kd.eqbL;simp
 | k::r,l::q=>by
  unfold Kd.eqbL
  rw[← zB4 r q]
  have e:min (k::r).length (l::q).length=min r.length q.length+1:=by simp only[List.length_cons];omega
  rw[e,List.range_succ_eq_map,List.all_cons,List.all_map]
  have e1:zBF (k::r) (l::q) 0=k.eqb l:=rfl
  have e2:(zBF (k::r) (l::q) ∘ Nat.succ)=zBF r q:=by funext j;rfl
  have e3:((k::r).length == (l::q).length)=(r.length == q.length):=by
   rw[Bool.eq_iff_iff,beq_iff_eq,beq_iff_eq];simp
  rw[e1,e2,e3,Bool.and_assoc]
section
variable {X:Cx} {pins:List (Addr × Obj)} {σ:St} {H:Hp} {s:Shared}
theorem zCA (I:Inv X pins σ H s) {A:Around} {a b:Addr} {ks ls:List Kd} {vs ws:List V} (ha:H a=some (.tup vs)) (hb:H b=some (.tup ws)) (hk:IsKs H ks vs) (hl:IsKs H ls ws) (hu:A.units < cLine)
  (ih:∀ {k k':Kd} {x y:V} {u v:Value},k∈ks->IsK H k x->IsK H k' y->RelV x u->RelV y v->SeqAt.EqAt A.in1 s u v (k.eqb k')):SeqAt.RcAt A s (.ref a) (.ref b) (Kd.eqbL ks ls):=by
 obtain⟨its,r1,p1,_⟩:=I.tuple (SqT.of ha)
 obtain⟨its',r2,p2,_⟩:=I.tuple (SqT.of hb)
 have n1:=r1.length
 have n2:=r2.length
 have m1:=hk.length
 have m2:=hl.length
 have z:=SeqAt.RcAt.tuples (A:=A) (s:=s) (l:=a) (b:=b) (e:=zBF ks ls) p1 p2 hu (fun j h1 h2=>?_)
 ·have e1:its.toArray.size=ks.length:=by rw[List.size_toArray];omega
  have e2:its'.toArray.size=ls.length:=by rw[List.size_toArray];omega
  rw[e1,e2,zB4] at z
  exact z
 ·rw[List.size_toArray] at h1 h2
  have g1:vs[j]? = some vs[j]:=List.getElem?_eq_getElem (by omega)
  have g2:ws[j]? = some ws[j]:=List.getElem?_eq_getElem (by omega)
  obtain⟨u,eu,ru⟩:=r1.get g1
  obtain⟨v,ev,rv⟩:=r2.get g2
  obtain⟨k,ek,ik⟩:=hk.get g1
  obtain⟨l,el,il⟩:=hl.get g2
  have q:=ih (List.mem_of_getElem? ek) ik il ru rv
  have f1:its.toArray[j]=u:=by
   have:=(List.getElem?_eq_some_iff.mp eu).2
   simpa using this
  have f2:its'.toArray[j]=v:=by
   have:=(List.getElem?_eq_some_iff.mp ev).2
   simpa using this
  have f3:zBF ks ls j=k.eqb l:=by unfold zBF;rw[ek,el]
  rw[f1,f2,f3]
  exact q
theorem zIW (I:Inv X pins σ H s):∀ (n:Nat) {k k':Kd} {x y:V} {u v:Value} {A:Around},k.deep<=n->IsK H k x->IsK H k' y->RelV x u->RelV y v->A.units+n < cLine->SeqAt.EqAt A s u v (k.eqb k'):=by
 intro n
 induction n with
 | zero =>
  intro k k' x y u v A hd hk hk' rx ry hu
  cases k with
  | num i =>
   unfold IsK at hk;subst hk;obtain⟨t,rfl⟩:=rx
   cases k' with
   | num j=>unfold IsK at hk';subst hk';obtain⟨t',rfl⟩:=ry;unfold Kd.eqb;exact SeqAt.EqAt.int_int _ _ _ _
   | txt j=>unfold IsK at hk';subst hk';obtain⟨t',rfl⟩:=ry;unfold Kd.eqb;exact SeqAt.EqAt.int_str _ _ _ _
   | tup ls =>
    unfold IsK at hk';obtain⟨b,ws,rfl,hb,_,_⟩:=hk';cases ry
    obtain⟨its',r2,p2,_⟩:=I.tuple (SqT.of hb)
    unfold Kd.eqb;exact SeqAt.EqAt.int_tuple _ _ p2 (by omega)
  | txt i =>
   unfold IsK at hk;subst hk;obtain⟨t,rfl⟩:=rx
   cases k' with
   | num j=>unfold IsK at hk';subst hk';obtain⟨t',rfl⟩:=ry;unfold Kd.eqb;exact SeqAt.EqAt.str_int _ _ _ _
   | txt j=>unfold IsK at hk';subst hk';obtain⟨t',rfl⟩:=ry;unfold Kd.eqb;exact SeqAt.EqAt.str_str _ _ _ _
   | tup ls =>
    unfold IsK at hk';obtain⟨b,ws,rfl,hb,_,_⟩:=hk';cases ry
    obtain⟨its',r2,p2,_⟩:=I.tuple (SqT.of hb)
    unfold Kd.eqb;exact SeqAt.EqAt.str_tuple _ _ p2 (by omega)
  | tup ks=>unfold Kd.deep at hd;omega
 | succ n ih =>
  intro k k' x y u v A hd hk hk' rx ry hu
  cases k with
  | num i=>exact ih (by unfold Kd.deep;omega) hk hk' rx ry (by omega)
  | txt i=>exact ih (by unfold Kd.deep;omega) hk hk' rx ry (by omega)
  | tup ks =>
   have hk0:=hk
   unfold IsK at hk;obtain⟨a,vs,rfl,ha,_,hks⟩:=hk;cases rx
   obtain⟨its,r1,p1,_⟩:=I.tuple (SqT.of ha)
   cases k' with
   | num j=>unfold IsK at hk';subst hk';obtain⟨t',rfl⟩:=ry;unfold Kd.eqb;exact SeqAt.EqAt.tuple_int _ _ p1 (by omega)
   | txt j=>unfold IsK at hk';subst hk';obtain⟨t',rfl⟩:=ry;unfold Kd.eqb;exact SeqAt.EqAt.tuple_str _ _ p1 (by omega)
   | tup ls =>
    have hk1:=hk'
    unfold IsK at hk';obtain⟨b,ws,rfl,hb,_,hls⟩:=hk';cases ry
    by_cases e:a=b
    ·subst e
     rw[hk0.inj hk1]
     exact SeqAt.EqAt.same _
    ·unfold Kd.eqb
     unfold Kd.deep at hd
     exact SeqAt.EqAt.of_refs e (zCA I ha hb hks hls (by omega) fun hm i1 i2 q1 q2=>ih (Nat.le_trans (Kd.deep_le hm) (by omega)) i1 i2 q1 q2 (by show A.units+1+n < cLine;omega))
theorem zMB (I:Inv X pins σ H s) {n:Nat} {k k':Kd} {x y:V} {u v:Value} {A:Around} (hd:k.deep<=n) (hk:IsK H k x) (hk':IsK H k' y) (rx:RelV x u) (ry:RelV y v) (hu:A.units+n < cLine):SeqAt.RcAt A s u v (k.eqb k'):=by
 cases k with
 | num i =>
  unfold IsK at hk;subst hk;obtain⟨t,rfl⟩:=rx
  cases k' with
  | num j=>unfold IsK at hk';subst hk';obtain⟨t',rfl⟩:=ry;unfold Kd.eqb;exact SeqAt.RcAt.int_int _ _ _ _
  | txt j=>unfold IsK at hk';subst hk';obtain⟨t',rfl⟩:=ry;unfold Kd.eqb;exact SeqAt.RcAt.int_str _ _ _ _
  | tup ls =>
   unfold IsK at hk';obtain⟨b,ws,rfl,hb,_,_⟩:=hk';cases ry
   obtain⟨its',r2,p2,_⟩:=I.tuple (SqT.of hb)
   unfold Kd.eqb;exact SeqAt.RcAt.int_tuple _ _ p2 (by omega)
 | txt i =>
  unfold IsK at hk;subst hk;obtain⟨t,rfl⟩:=rx
  cases k' with
  | num j=>unfold IsK at hk';subst hk';obtain⟨t',rfl⟩:=ry;unfold Kd.eqb;exact SeqAt.RcAt.str_int _ _ _ _
  | txt j=>unfold IsK at hk';subst hk';obtain⟨t',rfl⟩:=ry;unfold Kd.eqb;exact SeqAt.RcAt.str_str _ _ _ _
  | tup ls =>
   unfold IsK at hk';obtain⟨b,ws,rfl,hb,_,_⟩:=hk';cases ry
   obtain⟨its',r2,p2,_⟩:=I.tuple (SqT.of hb)
   unfold Kd.eqb;exact SeqAt.RcAt.str_tuple _ _ p2 (by omega)
 | tup ks =>
  unfold IsK at hk;obtain⟨a,vs,rfl,ha,_,hks⟩:=hk;cases rx
  obtain⟨its,r1,p1,_⟩:=I.tuple (SqT.of ha)
  cases k' with
  | num j=>unfold IsK at hk';subst hk';obtain⟨t',rfl⟩:=ry;unfold Kd.eqb;exact SeqAt.RcAt.tuple_int _ _ p1 (by omega)
  | txt j=>unfold IsK at hk';subst hk';obtain⟨t',rfl⟩:=ry;unfold Kd.eqb;exact SeqAt.RcAt.tuple_str _ _ p1 (by omega)
  | tup ls =>
   unfold IsK at hk';obtain⟨b,ws,rfl,hb,_,hls⟩:=hk';cases ry
   unfold Kd.eqb
   unfold Kd.deep at hd
   exact zCA I ha hb hks hls (by omega) fun hm i1 i2 q1 q2=>zIW I (n - 1) (Nat.le_trans (Kd.deep_le hm) (by omega)) i1 i2 q1 q2 (by show A.units+1+(n - 1) < cLine;omega)
end
def zNN:R2:=fun x y H Q=>∃ k k',IsK H k x/\IsK H k' y/\k.deep<=20/\Q (.bl (k.eqb k')) H
theorem zMC {X:Cx} (hu:X.A.units+64 < cLine):OpR X (compareOp .Eq) zNN:=by
 intro pins s σ H x y v u Q I rx ry h
 obtain⟨k,k',hk,hk',hd,q⟩:=h
 exact zMB I hd hk hk' rx ry (by omega) X.prog X.w _ _ ⟨.bl (k.eqb k'),H,I,rfl,q⟩
def tNo:TE:=fun _ _ _=>False
theorem zIf {X:Cx} {e:Expr}:PE X e tNo:=fun _ _ _ _ _ _ h=>h.elim
end L2
namespace L2
open PySem PySem.Spec PyProof.Rows
inductive Od where
 | bl (b:Bool) | non | lst | dct
inductive Th where
 | num (i:Int)
 | txt (x:Str)
 | tup (ts:List Th)
 | odd (o:Od)
mutual
def Th.ok:Th->Nat->Bool
 | .num i,_=>decide (-10 ^ 60 < i) && decide (i < 10 ^ 60)
 | .txt x,_=>decide (x.length<=60)
 | .tup ts,n=>decide (0 < n) && (decide (ts.length<=6) && Th.okL ts (n - 1))
 | .odd _,_=>false
def Th.okL:List Th->Nat->Bool
 | [],_=>true
 | t::r,n=>t.ok n && Th.okL r n
end
def Th.isNum:Th->Bool
 | .num _=>true
 | .txt _=>false
 | .tup _=>false
 | .odd _=>false
def IsO (B:Hp):Od->V->Prop
 | .bl b,v=>v=.bl b
 | .non,v=>v=.non
 | .lst,v=>∃ a xs,v=.ref a/\B a=some (.lst xs)
 | .dct,v=>∃ a xs,v=.ref a/\B a=some (.dK xs)
mutual
def IsT (B H:Hp):Th->V->Prop
 | .num i,v=>v=.int i
 | .txt x,v=>v=.str x/\x.length<=1000
 | .tup ts,v=>∃ a vs,v=.ref a/\H a=some (.tup vs)/\vs.length<=1000/\IsTs B H ts vs
 | .odd o,v=>IsO B o v
def IsTs (B H:Hp):List Th->List V->Prop
 | [],vs=>vs=[]
 | k::r,vs=>∃ v vr,vs=v::vr/\IsT B H k v/\IsTs B H r vr
end
mutual
theorem IsT.same {B H H':Hp} (s:TupS H H'):∀ {k:Th} {v:V},IsT B H k v->IsT B H' k v
 | .num _,_,h=>by unfold IsT at h ⊢;exact h
 | .txt _,_,h=>by unfold IsT at h ⊢;exact h
 | .odd _,_,h=>by unfold IsT at h ⊢;exact h
 | .tup ts,_,h=>by
  unfold IsT at h ⊢
  obtain⟨a,vs,e,h1,h2,h3⟩:=h
  exact⟨a,vs,e,s _ _ h1,h2,IsTs.same s h3⟩
theorem IsTs.same {B H H':Hp} (s:TupS H H'):∀ {ks:List Th} {vs:List V},IsTs B H ks vs->IsTs B H' ks vs
 | [],_,h=>by unfold IsTs at h ⊢;exact h
 | k::r,_,h=>by
  unfold IsTs at h ⊢
  obtain⟨v,vr,e,h1,h2⟩:=h
  exact⟨v,vr,e,IsT.same s h1,IsTs.same s h2⟩
end
theorem IsTs.length {B H:Hp}:∀ {ks:List Th} {vs:List V},IsTs B H ks vs->vs.length=ks.length
 | [],_,h=>by unfold IsTs at h;subst h;rfl
 | k::r,_,h=>by
  unfold IsTs at h
  obtain⟨v,vr,rfl,_,h2⟩:=h
  rw[List.length_cons,List.length_cons,h2.length]
theorem IsTs.get {B H:Hp}:∀ {ks:List Th} {vs:List V} {i:Nat} {v:V},IsTs B H ks vs->vs[i]? = some v->∃ k,ks[i]? = some k/\IsT B H k v
 | [],_,i,v,h,e=>by unfold IsTs at h;subst h;simp at e
 | k::r,_,0,v,h,e=>by
  unfold IsTs at h
  obtain⟨v',vr,rfl,h1,_⟩:=h
  rw[List.getElem?_cons_zero] at e
  cases e
  exact⟨k,rfl,h1⟩
 | k::r,_,i+1,v,h,e=>by
  unfold IsTs at h
  obtain⟨v',vr,rfl,_,h2⟩:=h
  rw[List.getElem?_cons_succ] at e
  obtain⟨k',e1,e2⟩:=h2.get e
  exact⟨k',by rw[List.getElem?_cons_succ];exact e1,e2⟩
theorem zF8 (n:Nat):∀ ts:List Th,Th.okL ts n=(ts.map fun t=>t.ok n).all id
 | []=>by unfold Th.okL;rfl
 | t::r=>by unfold Th.okL;rw[List.map_cons,List.all_cons,zF8 n r];rfl
mutual
def Kd.th:Kd->Th
 | .num i=>.num i
 | .txt x=>.txt x
 | .tup ks=>.tup (Kd.thL ks)
def Kd.thL:List Kd->List Th
 | []=>[]
 | k::r=>k.th::Kd.thL r
end
theorem Kd.thL_length:∀ ks:List Kd,(Kd.thL ks).length=ks.length
 | []=>by unfold Kd.thL;rfl
 | k::r=>by unfold Kd.thL;rw[List.length_cons,List.length_cons,Kd.thL_length r]
mutual
theorem IsK.th {B H:Hp}:∀ {k:Kd} {v:V} {n:Nat},IsK H k v->k.th.ok n=true->IsT B H k.th v
 | .num _,_,_,h,_=>by unfold IsK at h;unfold Kd.th IsT;exact h
 | .txt x,_,_,h,q=>by
  unfold IsK at h;unfold Kd.th at q ⊢;unfold Th.ok at q;unfold IsT
  have:=of_decide_eq_true q
  exact⟨h,by omega⟩
 | .tup ks,_,_,h,q=>by
  unfold IsK at h;unfold Kd.th at q ⊢;unfold Th.ok at q;unfold IsT
  obtain⟨a,vs,e,h1,h2,h3⟩:=h
  rw[Bool.and_eq_true,Bool.and_eq_true] at q
  exact⟨a,vs,e,h1,h2,IsKs.th h3 q.2.2⟩
theorem IsKs.th {B H:Hp}:∀ {ks:List Kd} {vs:List V} {n:Nat},IsKs H ks vs->Th.okL (Kd.thL ks) n=true->IsTs B H (Kd.thL ks) vs
 | [],_,_,h,_=>by unfold IsKs at h;unfold Kd.thL IsTs;exact h
 | k::r,_,_,h,q=>by
  unfold IsKs at h;unfold Kd.thL at q ⊢;unfold Th.okL at q;unfold IsTs
  obtain⟨v,vr,e,h1,h2⟩:=h
  rw[Bool.and_eq_true] at q
  exact⟨v,vr,e,IsK.th h1 q.1,IsKs.th h2 q.2⟩
end
def Emp:Hp:=fun _=>none
theorem zHp {H:Hp}:Same Emp H:=fun b o h=>by cases h
end L2
namespace L2
open PySem PySem.Spec PyProof.Rows
structure Pair (d:Nat) (k k':Kd):Prop where
 st:k.st=k'.st
 ne:k ≠ k'
 ok:k.th.ok d=true
 ok':k'.th.ok d=true
def Zy (ns:List Int) (k:Int):Int:=(ns[k.toNat]?).getD 0
end L2
namespace L2
open PySem PySem.Spec PyProof.Rows
end L2
namespace L2
open PySem PySem.Spec PyProof.Rows
structure Fly (B h:Heap) (l:List Env) (e:Addr) (cls fl:Value):Prop where
 stays:B.StaysIn h
 new:B.get? e=none
 frames:h.FunFrames B l
 trc:∃ oe vs T oT ts,h.get? e=some oe/\oe.cls=cls/\oe.data=.fields vs/\vs[2]? = some .none/\vs[1]? = some (.ref T)/\B.get? T=none/\T ≠ e/\h.get? T=some oT/\oT.data=.fields ts/\ts[3]? = some fl
section
variable {M:Model} {A:Around} {E:Value->Shared->Prop} {s:Shared} {B:Heap} {env:Env} {outer l:List Env} {L e T:Addr} {oe oT:Obj} {vs ts:Array Value} {head cls fl:Value} {Q:Unit->Shared->Prop}
theorem zBy {hadNext:Bool} (hfr:A.frames=some (env::outer)) (hl:s.heap.FunFrames B (env::outer)) (hf:env.frame=some L) (he:s.heap.get? e=some oe) (hkb:B.StaysIn s.heap) (hen:B.get? e=none)
  (hd:oe.data=.fields vs) (hsz:1 < vs.size) (h2:vs[2]? = some .none)
  (h:∀ h',Fly B h' (env::outer) e oe.cls (rawInt L)->s.heap.UpToSlots h'->Q () { s with heap:=h' }) :
  wpAny M A (do let a ← frameOf env;let pl ← entryPlaceOf L hadNext;let b ← EntryCells.newEntry head a .none (rawInt L) .none pl;setField (.ref e) 1 b) Q E s:=by
 have hne:e ∉ (env::outer).filterMap (·.frame):=fun hm=>by
  obtain⟨_,o,ho,hnf⟩:=hl.mem hm
  rw[he] at ho
  cases ho
  exact hnf vs hd
 refine wpAny_bind (wpAny_frameOf_fun hfr hl hf fun h₁ hs=>?_)
 refine wpAny_bind (wpAny_entryPlaceOf fun pl hpl=>?_)
 unfold EntryCells.newEntry newFields
 refine wpAny_bind (wpAny_newObj_type ?_ (hpl.sizeOk5 _ _ _ _ _))
 have e1:h₁.get? e=some oe:=(hs.2.1 e hne).trans he
 generalize hob:({ cls:=.type "traceback",dict:=none,data:=.fields _ }:Obj)=ob
 have hts:∃ ts,ob.data=.fields ts/\ts[3]? = some (rawInt L):=by
  subst hob
  exact⟨_,rfl,by simp⟩
 have hfr':ob.isFreed=false:=by
  obtain⟨ts,q,_⟩:=hts
  exact Obj.isFreed_of_fields q
 have e2:(h₁.push ob).get? e=some oe:=Heap.get?_push_of_some _ e1
 refine wpAny_setField e2 hd hsz (h _ ?_ ?_)
 ·have hTe:h₁.objs.size ≠ e:=Nat.ne_of_gt (Heap.lt_size e1)
  have old:∀ b o,b ≠ e->h₁.get? b=some o->((h₁.push ob).update e (Obj.mapFields (·.setIfInBounds 1 (Value.ref h₁.objs.size)))).get? b=some o:=fun b o hb q =>
   (Heap.get?_update_other _ _ (Ne.symm hb)).trans (Heap.get?_push_of_some _ q)
  have kb:B.StaysIn h₁:=fun b o q=>(hs.2.1 b fun hm=>by rw[(hl.mem hm).1] at q;cases q).trans (hkb b o q)
  refine⟨fun b o q=>old b o (fun z=>by rw[z,hen] at q;cases q) (kb b o q),hen,hl.of_keeps fun b o q hnf=>?_,?_⟩
  ·obtain⟨sl,q2⟩:=hs.2.2 b o q
   refine⟨_,old b _ (fun z=>?_) q2,rfl⟩
   rw[z,he] at q
   cases q
   exact hnf vs hd
  ·obtain⟨ts,q1,q2⟩:=hts
   have hd3:=Obj.data_mapFields hd (·.setIfInBounds 1 (Value.ref h₁.objs.size))
   exact⟨_,_,h₁.objs.size,ob,ts,Heap.get?_update_self _ e2 (Obj.isFreed_of_fields hd3),Obj.cls_mapFields _ _,hd3,by rw[Array.getElem?_setIfInBounds_ne (by decide)];exact h2,by simp[hsz],kb.fresh,hTe,
    (Heap.get?_update_other _ _ (Ne.symm hTe)).trans (Heap.get?_push_size h₁ hfr'),q1,q2⟩
 ·intro b o q hnf
  obtain⟨sl,q2⟩:=hs.2.2 b o q
  refine⟨sl,(Heap.get?_update_other _ _ fun z=>?_).trans (Heap.get?_push_of_some _ q2)⟩
  rw[← z,he] at q
  cases q
  exact hnf vs hd
theorem zG2 (hfr:A.frames=some (env::outer)) (hl:s.heap.FunFrames B (env::outer)) (hf:env.frame=some L) (he:s.heap.get? e=some oe) (hkb:B.StaysIn s.heap) (hen:B.get? e=none)
  (hd:oe.data=.fields vs) (h1:vs[1]? = some .none) (h2:vs[2]? = some .none)
  (h:∀ h',Fly B h' (env::outer) e oe.cls (rawInt L)->s.heap.UpToSlots h'->Q () { s with heap:=h' }):wpAny M A (noteFrame (.ref e) env) Q E s:=by
 unfold noteFrame
 simp only[hf]
 refine wpAny_bind (wpAny_field he hd h1 ?_)
 rw[if_neg (by decide)]
 exact zBy hfr hl hf he hkb hen hd (Array.getElem?_eq_some_iff.mp h1).1 h2 h
theorem zAp (hfr:A.frames=some (env::outer)) (hf:env.frame=some L) (x:Fly B s.heap (env::outer) e cls .none)
  (h:∀ h',Fly B h' (env::outer) e cls (rawInt L)->s.heap.UpToSlots h'->Q () { s with heap:=h' }):wpAny M A (noteFrame (.ref e) env) Q E s:=by
 obtain⟨oe,vs,T,oT,ts,he,rfl,hd,h2,h1,hnT,hTe,hT,hdT,h3⟩:=x.trc
 unfold noteFrame
 simp only[hf]
 refine wpAny_bind (wpAny_field he hd h1 ?_)
 rw[if_pos (show (Value.ref T != Value.none)=true from by simp)]
 refine wpAny_bind (wpAny_field hT hdT h3 ?_)
 rw[if_neg (show ¬ ((Value.none == rawInt L)=true) from by simp[rawInt])]
 refine wpAny_bind (wpAny_setField hT hdT (Array.getElem?_eq_some_iff.mp h3).1 ?_)
 have oth:∀ b,b ≠ T->(s.heap.update T (Obj.mapFields (·.setIfInBounds 3 Value.none))).get? b=s.heap.get? b:=fun b hb=>Heap.get?_update_other _ _ (Ne.symm hb)
 have nr:∀ b o,s.heap.get? b=some o->(∀ vs,o.data ≠ .fields vs)->b ≠ T:=fun b o q hnf z=>by
  rw[z,hT] at q
  cases q
  exact hnf ts hdT
 refine zBy (s:={ s with heap:=s.heap.update T (Obj.mapFields (·.setIfInBounds 3 Value.none)) }) hfr (x.frames.of_keeps fun b o q hnf=>⟨o,(oth b (nr b o q hnf)).trans q,rfl⟩) hf ((oth e (Ne.symm hTe)).trans he)
  (fun b o q=>(oth b fun z=>by rw[z,hnT] at q;cases q).trans (x.stays b o q)) x.new hd (Array.getElem?_eq_some_iff.mp h1).1 h2 fun h' y u=>h h' y fun b o q hnf=>u b o ((oth b (nr b o q hnf)).trans q) hnf
theorem ZS (x:Fly B s.heap l e cls fl) (h:∀ h',Fly B h' l e cls .none->s.heap.UpToSlots h'->Q () { s with heap:=h' }):wpAny M A (setFlight (.ref e) none) Q E s:=by
 obtain⟨oe,vs,T,oT,ts,he,rfl,hd,h2,h1,hnT,hTe,hT,hdT,h3⟩:=x.trc
 unfold setFlight
 refine wpAny_bind (wpAny_field he hd h1 ?_)
 rw[if_pos (show (Value.ref T != Value.none)=true from by simp)]
 have hsz:=(Array.getElem?_eq_some_iff.mp h3).1
 have oth:∀ b,b ≠ T->(s.heap.update T (Obj.mapFields (·.setIfInBounds 3 ((none:Option Addr).elim Value.none fun f=>rawInt f)))).get? b=s.heap.get? b:=fun b hb=>Heap.get?_update_other _ _ (Ne.symm hb)
 have nr:∀ b o,s.heap.get? b=some o->(∀ vs,o.data ≠ .fields vs)->b ≠ T:=fun b o q hnf z=>by
  rw[z,hT] at q
  cases q
  exact hnf ts hdT
 refine wpAny_setField hT hdT hsz (h _ ⟨fun b o q=>(oth b fun z=>by rw[z,hnT] at q;cases q).trans (x.stays b o q),x.new,x.frames.of_keeps fun b o q hnf=>⟨o,(oth b (nr b o q hnf)).trans q,rfl⟩,?_⟩ fun b o q hnf=>⟨o.slots,(oth b (nr b o q hnf)).trans q⟩)
 have hd3:=Obj.data_mapFields hdT (·.setIfInBounds 3 ((none:Option Addr).elim Value.none fun f=>rawInt f))
 exact⟨oe,vs,T,_,_,(oth e (Ne.symm hTe)).trans he,rfl,hd,h2,h1,hnT,hTe,Heap.get?_update_self _ hT (Obj.isFreed_of_fields hd3),hd3,by simp[hsz]⟩
theorem Fly.tail {h:Heap} (x:Fly B h (env::outer) e cls fl):Fly B h outer e cls fl:=⟨x.stays,x.new,x.frames.2.2,x.trc⟩
theorem zG5 (hfr:A.frames=some (env::outer)) (hf:env.frame=some L) (x:Fly B s.heap (env::outer) e cls .none)
  (h:∀ h',Fly B h' outer e cls .none->s.heap.UpToSlots h'->Q () { s with heap:=h' }):wpAny M A (leaving env (.ref e)) Q E s:=by
 unfold leaving
 refine wpAny_bind (zAp hfr hf x fun h1 y u=>?_)
 exact ZS (s:={ s with heap:=h1 }) y fun h2 z v=>h h2 z.tail (u.trans v)
theorem zFM {h₀:Heap} {args:List Value} (hfr:A.frames=some (env::outer)) (hf:env.frame=some L) (hkb:B.StaysIn h₀) (hl:h₀.FunFrames B (env::outer)) (hx:Heap.MadeExcOf h₀ s.heap e cls args)
  (h:∀ h',Fly B h' outer e cls .none->s.heap.UpToSlots h'->Q () { s with heap:=h' }):wpAny M A (leaving env (.ref e)) Q E s:=by
 obtain⟨t,he,htn,ht⟩:=hx.there
 have hen:B.get? e=none:=by
  cases q:B.get? e with
  | none=>rfl
  | some o=>have:=hkb e o q;rw[hx.new] at this;cases this
 unfold leaving
 refine wpAny_bind (zG2 hfr (hl.of_keeps fun b o q _=>⟨o,hx.keeps b o q,rfl⟩) hf he (fun b o q=>hx.keeps b o (hkb b o q)) hen rfl rfl rfl fun h1 y u=>?_)
 exact ZS (s:={ s with heap:=h1 }) y fun h2 z v=>h h2 z.tail (u.trans v)
end
end L2
namespace L2
open PySem PySem.Spec PyProof.Rows
structure ToB (fs:List Addr) (H H':Hp) (h B:Heap):Prop where
 keep:∀ b o,h.get? b=some o->H b=none->b ∉ fs->B.get? b=some o
 free:∀ b o,h.get? b=some o->H b=none->H' b=none
 there:∀ b o,h.get? b=some o->b ∉ fs->∃ o',B.get? b=some o'
 tups:∀ b xs,H b=some (.tup xs)->H' b=some (.tup xs)
 frzs:∀ b o u,H b=some (.frz o u)->H' b=some (.frz o u)
 tbls:∀ b ps,H b=some (.tbl ps)->∃ more,H' b=some (.tbl (ps++more))
def CXe (P:Program) (w:World):CXT:=fun outer H s E e s' =>
 ∃ (ea:Addr) (cls:Value) (B:Heap) (H':Hp),e=.ref ea/\s'.os=s.os/\AllBare s'.gens/\Fly B s'.heap outer ea cls .none/\HOk P w H' B/\ToB (frs outer) H H' s.heap B /\
  (∀ b o,s.heap.get? b=some o->b∈frs outer->∃ sl,s'.heap.get? b=some { o with slots:=sl })/\E cls (some ea) H'
theorem ToB.un {fs:List Addr} {H H':Hp} {h B h':Heap} (x:ToB fs H H' h B) (k:B.StaysIn h') (sl:∀ b o,h.get? b=some o->b∈fs->∃ sl,h'.get? b=some { o with slots:=sl }):Un fs [] H H' h h' where
 keep:=fun b o q n hb _=>k b o (x.keep b o q n hb)
 slot:=fun b o q _ hb _=>sl b o q hb
 free:=fun b o q n _=>x.free b o q n
 there:=fun b o q _=>by
  by_cases hb:b∈fs
  ·obtain⟨s,e⟩:=sl b o q hb
   exact⟨_,e⟩
  ·obtain⟨o',e⟩:=x.there b o q hb
   exact⟨o',k b o' e⟩
 tups:=x.tups
 frzs:=x.frzs
 tbls:=x.tbls
section
variable {X:Cx} {pins:List (Addr × Obj)} {σ:St} {H H':Hp} {s s':Shared} {e:Value} {E E':XK}
structure Own (X:Cx):Prop where
 stk:X.stack=X.env::X.outer
 fr:X.env.frame=some X.env.locals
 ex:X.ex=[]
theorem ToB.out {B:Heap} (I:Inv X pins σ H s) (O:Own X) (x:ToB (frs X.stack) H H' s.heap B):ToB X.fs X.H₀ H' X.s₀.heap B where
 keep:=fun b o q n hb=>by
  have q2:=I.base.keep b o q n hb (by rw[O.ex];simp)
  refine x.keep b o q2 (I.base.free b o q n (by rw[O.ex];simp)) fun hm=>?_
  rw[O.stk] at hm
  unfold frs at hm
  rw[List.filterMap_cons,O.fr] at hm
  rcases List.mem_cons.mp hm with z | z
  ·exact Nat.ne_of_lt (Nat.lt_of_lt_of_le (Heap.lt_size q) I.ok.above) z
  ·exact hb z
 free:=fun b o q n=>by
  obtain⟨o',q2⟩:=I.base.there b o q (by rw[O.ex];simp)
  exact x.free b o' q2 (I.base.free b o q n (by rw[O.ex];simp))
 there:=fun b o q hb=>by
  obtain⟨o',q2⟩:=I.base.there b o q (by rw[O.ex];simp)
  refine x.there b o' q2 fun hm=>?_
  rw[O.stk] at hm
  unfold frs at hm
  rw[List.filterMap_cons,O.fr] at hm
  rcases List.mem_cons.mp hm with z | z
  ·exact Nat.ne_of_lt (Nat.lt_of_lt_of_le (Heap.lt_size q) I.ok.above) z
  ·exact hb z
 tups:=fun b xs q=>x.tups b xs (I.base.tups b xs q)
 frzs:=fun b o u q=>x.frzs b o u (I.base.frzs b o u q)
 tbls:=fun b ps q=>by
  obtain⟨m1,e1⟩:=I.base.tbls b ps q
  obtain⟨m2,e2⟩:=x.tbls b _ e1
  exact⟨m1++m2,by rw[e2,Array.append_assoc]⟩
theorem zCJ {h':Heap} (I:Inv X pins σ H s) (O:Own X) (sl:∀ b o,s.heap.get? b=some o->b∈X.fs->∃ sl,h'.get? b=some { o with slots:=sl }):∀ b o,X.s₀.heap.get? b=some o->b∈X.fs->∃ sl,h'.get? b=some { o with slots:=sl }:=fun b o q hb=>by
 obtain⟨s1,q1⟩:=I.base.slot b o q (I.ok.frf b hb) hb (by rw[O.ex];simp)
 obtain⟨s2,q2⟩:=sl b _ q1 hb
 exact⟨s2,q2⟩
theorem JQ {h B:Heap}:∀ {l:List Env} {b:Addr} {o:Obj},h.FunFrames B l->b∈frs l->h.get? b=some o->∀ vs,o.data ≠ .fields vs:=fun hl hb q vs z=>by
 obtain⟨_,o',ho,hn⟩:=hl.mem hb
 rw[q] at ho
 cases ho
 exact hn vs z
end
abbrev cxE (P:Program) (w:World) (K:W.Frag) (mg:Str->Option Value) (base:Heap) (N:List Str) (qual:Str) (scope:Scope) (f:Addr) (cd:Value) (A:Around) (outer:List Env) (s:Shared) (H:Hp) (E:XK):Cx:=zBn (CXe P w) P w K mg base N qual scope f cd A outer s H E
section
variable {P:Program} {w:World} {K:W.Frag} {mg:Str->Option Value} {base:Heap} {N:List Str} {qual:Str} {scope:Scope} {f:Addr} {cd:Value} {A:Around} {outer:List Env} {s₀:Shared} {H₀:Hp} {E E':XK}
theorem zAW {CX:CXT}:Own (zBn CX P w K mg base N qual scope f cd A outer s₀ H₀ E):=⟨rfl,rfl,rfl⟩
theorem zAF (h:∀ c a H,E' c a H->E c a H):Yo (CXe P w) (cxE P w K mg base N qual scope f cd A outer s₀ H₀ E) E':=by
 intro pins σ H s e s' I x
 obtain⟨ea,cls,B,H',rfl,h1,h2,h3,h6,h7,h8,h9⟩:=x
 refine zG5 (s:=s') I.ok.frames rfl h3 fun h' y u=>?_
 refine⟨ea,cls,B,H',rfl,h1.trans I.os,h2,y,h6,h7.out I zAW,zCJ I zAW fun b o q hb=>?_,h _ _ _ h9⟩
 have hb':b∈frs (cxE P w K mg base N qual scope f cd A outer s₀ H₀ E).stack:=by
  show b∈frs (_::outer)
  unfold frs
  exact List.mem_filterMap.mpr (by
   obtain⟨env,h1,h2⟩:=List.mem_filterMap.mp hb
   exact⟨env,List.mem_cons_of_mem _ h1,h2⟩)
 obtain⟨s1,q1⟩:=h8 b o q hb'
 obtain⟨s2,q2⟩:=u b _ q1 (JQ h3.frames hb' q1)
 exact⟨s2,q2⟩
end
end L2
namespace L2
open PySem PySem.Spec PyProof.Rows
abbrev VE:List Value:=[.type "ValueError",.type "Exception",.type "BaseException",.type "object"]
structure XC (K:W.Frag) (C:Addr) (bm:List Value):Prop where
 ex:PySem.W.excIn K C VE "ValueError.__new__" = true
 ob:∃ nm q N bs hdct sn sub ab col dd k0 k1 k2 k3 k5 newId,K.lookup C=some (excClassObj nm q C N bs bm hdct sn sub ab col dd k0 k1 k2 k3 k5 newId)
theorem XC.at {K:W.Frag} {C:Addr} {bm:List Value} {h:Heap} (c:XC K C bm) (X:K.In h):∃ N nm q bs hdct sn sub ab col dd k0 k1 k2 k3 k5 mN,
  h.get? C=some (excClassObj nm q C N bs bm hdct sn sub ab col dd k0 k1 k2 k3 k5 "ValueError.__new__")/\h.Ns N mN/\mN "__init__" = none/\OwnTail h VE bm:=by
 obtain⟨nm,q,N,bs,hdct,sn,sub,ab,col,dd,k0,k1,k2,k3,k5,newId,lk⟩:=c.ob
 have ex:=c.ex
 unfold PySem.W.excIn at ex
 rw[lk] at ex
 simp only[Bool.and_eq_true,beq_iff_eq,Bool.not_eq_true'] at ex
 obtain⟨⟨⟨⟨⟨_,rfl⟩,_⟩,ht⟩,hok⟩,hni⟩:=ex
 exact⟨N,nm,q,bs,hdct,sn,sub,ab,col,dd,k0,k1,k2,k3,k5,_,X _ _ lk,.of_isNs (PySem.W.isNs_of_in X hok),PySem.W.nsMap_none_of_in X hok hni,PySem.W.tail_of_in X ht⟩
end L2
namespace L2
open PySem PySem.Spec PyProof.Rows
def ExO (ea:Addr) (cls:Value):HO:=.ext fun h=>∃ oe vs,h.get? ea=some oe/\oe.cls=cls/\oe.data=.fields vs/\vs[2]? = some .none
theorem zMJ {P:Program} {w:World} {H:Hp} {B h:Heap} {l:List Env} {ea:Addr} {cls fl:Value} (x:Fly B h l ea cls fl):ObjOk P w H h ea (ExO ea cls):=by
 obtain⟨oe,vs,T,oT,ts,he,hc,hd,h2,_⟩:=x.trc
 exact⟨⟨oe,vs,he,hc,hd,h2⟩,⟨oe,he⟩,fun h1 h2 ⟨oe,vs,a,b⟩ k=>⟨oe,vs,k _ a,b⟩⟩
theorem ObjOk.got {P:Program} {w:World} {H:Hp} {h:Heap} {a:Addr} {o:HO} (x:ObjOk P w H h a o):∃ ob,h.get? a=some ob:=by
 cases o with
 | lst xs=>obtain⟨_,_,_,_,e⟩:=x;exact⟨_,e⟩
 | tup xs=>obtain⟨_,_,_,o,e,_⟩:=x;exact⟨o,e⟩
 | dK kvs=>obtain⟨_,_,_,_,o,_,_,e,_⟩:=x;exact⟨o,e⟩
 | dT kvs=>obtain⟨_,_,_,_,o,_,_,e,_⟩:=x;exact⟨o,e⟩
 | set S n=>obtain⟨o,_,_,_,e,_⟩:=x;exact⟨o,e⟩
 | ins C dx fs=>obtain⟨_,_,_,e,_⟩:=x;exact⟨_,e⟩
 | own y=>exact x
 | xd fs=>obtain⟨_,⟨o,_,_,e,_⟩,_⟩:=x;exact⟨o,e⟩
 | rng lo hi=>obtain⟨_,_,_,e⟩:=x;exact⟨_,e⟩
 | frz ob u=>obtain⟨e,_⟩:=x;exact⟨ob,e⟩
 | tbl ps=>exact⟨_,(show h.get? a=some _ from x)⟩
 | met f y=>exact⟨_,(show h.get? a=some _ from x)⟩
 | ext φ=>obtain⟨_,e,_⟩:=x;exact e
abbrev Cx.bear (X:Cx) (pl:List (Addr × Obj)):Cx:={ X with pn:=X.pn++pl }
abbrev Cx.inH (X:Cx) (ea:Addr):Cx:={ X with A:=X.A.mark (some (.ref ea)),calm:=false,xe:=fun _ _=>False }
def xeR (X:Cx) (RX:St->Hp->XK):Value->Shared->Prop:=fun e s'=>∃ pins σ H s,Inv X pins σ H s/\CXe X.prog X.w X.stack H s (RX σ H) e s'
section
variable {X:Cx} {pins pl:List (Addr × Obj)} {σ:St} {H:Hp} {s:Shared} {E:Value->Shared->Prop} {ea:Addr}
theorem Inv.bear (I:Inv X pl σ H s):Inv (X.bear pl) [] σ H s :=
 ⟨⟨I.ok.mod,I.ok.kind,I.ok.glob,I.ok.blt,I.ok.above,I.ok.inj,I.ok.has,I.ok.cab,I.ok.hd,I.ok.frames,I.ok.stk,I.ok.exf,I.ok.bs,I.ok.bsz,I.ok.noex,I.ok.exfs,I.ok.funs,I.ok.frf⟩,
  I.os,I.bare,I.base,I.loc,I.cell,I.free,I.freeC,fun p hp=>I.pin p (by simpa using hp),I.hok,I.len⟩
theorem Inv.unbear (I:Inv (X.bear pl) pins σ H s):Inv X pl σ H s :=
 ⟨⟨I.ok.mod,I.ok.kind,I.ok.glob,I.ok.blt,I.ok.above,I.ok.inj,I.ok.has,I.ok.cab,I.ok.hd,I.ok.frames,I.ok.stk,I.ok.exf,I.ok.bs,I.ok.bsz,I.ok.noex,I.ok.exfs,I.ok.funs,I.ok.frf⟩,
  I.os,I.bare,I.base,I.loc,I.cell,I.free,I.freeC,fun p hp=>I.pin p (List.mem_append_left _ hp),I.hok,I.len⟩
theorem Inv.inH (I:Inv X pins σ H s) (ea:Addr):Inv (X.inH ea) pins σ H s :=
 ⟨⟨I.ok.mod,I.ok.kind,I.ok.glob,I.ok.blt,I.ok.above,I.ok.inj,I.ok.has,I.ok.cab,(fun z=>nomatch z),I.ok.frames,I.ok.stk,I.ok.exf,I.ok.bs,I.ok.bsz,I.ok.noex,I.ok.exfs,I.ok.funs,I.ok.frf⟩,
  I.os,I.bare,I.base,I.loc,I.cell,I.free,I.freeC,I.pin,I.hok,I.len⟩
theorem Inv.outH (J:Inv (X.inH ea) pins σ H s) (ok:X.Ok):Inv X pins σ H s:=⟨ok,J.os,J.bare,J.base,J.loc,J.cell,J.free,J.freeC,J.pin,J.hok,J.len⟩
theorem Inv.forget {i:Nat} {x:Str} {m:Str->Option Value} {v:Option Value} {h':Heap} {t':Nat} (I:Inv X pins σ H s) (hN:X.N.Nodup) (hi:X.N[i]? = some x) (hn:s.heap.Ns X.env.locals m)
  (hl:∀ (j:Nat) (y:Str) (v':V),X.N[j]? = some y->σ[j]? = some (some v')->Vis X.env.scope y->∃ u,RelV v' u/\zM9 X.env s.heap m y u)
  (hn':h'.Ns X.env.locals (fun y=>if y=x then v else m y)) (hs:Heap.SameBut X.env.locals s.heap h'):Inv X pins (σ.set i none) H { s with heap:=h',toks:=t' }:=by
 have ne:∀ b o,X.s₀.heap.get? b=some o->b ≠ X.env.locals:=fun b o e=>Nat.ne_of_lt (Nat.lt_of_lt_of_le (Heap.lt_size e) I.ok.above)
 refine⟨I.ok,I.os,I.bare,⟨fun b o e n hb hx=>(hs.2 b (ne b o e)).trans (I.base.keep b o e n hb hx),fun b o e n hb hx=>?_,I.base.free,fun b o e hx=>?_,I.base.tups,I.base.frzs,I.base.tbls⟩,⟨_,hn',fun j y v' e1 e2 e3=>?_⟩,fun y c e=>?_,I.free,I.freeC,fun p hp=>?_,fun b ob e=>?_,by rw[List.length_set];exact I.len⟩
 ·obtain⟨sl,e1⟩:=I.base.slot b o e n hb hx
  exact⟨sl,(hs.2 b (ne b o e)).trans e1⟩
 ·obtain⟨o',e1⟩:=I.base.there b o e hx
  exact⟨o',(hs.2 b (ne b o e)).trans e1⟩
 ·by_cases hj:j=i
  ·subst hj
   have hlt:j < σ.length:=by
    have:=(List.getElem?_eq_some_iff.mp e2).1
    rw[List.length_set] at this
    exact this
   rw[List.getElem?_set_self hlt] at e2
   cases e2
  ·rw[List.getElem?_set_ne (Ne.symm hj)] at e2
   obtain⟨u,r,q⟩:=hl j y v' e1 e2 e3
   refine⟨u,r,?_⟩
   rcases q with ⟨k,e⟩ | ⟨k,c,e,z⟩
   ·refine .inl ⟨k,?_⟩
    have:y ≠ x:=fun e=>hj (zBL hN e1 (e ▸ hi))
    simp[this,e]
   ·exact .inr ⟨k,c,e,z.sameBut hs (I.cne y c e)⟩
 ·obtain⟨w',z⟩:=I.cell y c e
  exact⟨w',z.sameBut hs (I.cne y c e)⟩
 ·obtain⟨e,n,ne',nf,d⟩:=I.pin p hp
  exact⟨(hs.2 p.1 ne').trans e,n,ne',nf,d⟩
 ·refine (I.hok b ob e).stay (fun c w' hc q=>(hs.2 c ?_).trans q) (fun _ q=>q) fun _ _ q=>q
  intro z
  have hf:=I.free
  rw[← z] at hf
  rcases hc with rfl | hc
  ·rw[hf] at e;cases e
  ·rw[hf] at hc;cases hc
end
theorem zAI {M:Model} {A:Around} {E:Value->Shared->Prop} {K:W.Frag} {C D e:Addr} {bm bmC:List Value} {s:Shared} {oe:Obj} {Q:Bool->Shared->Prop} (X:K.In s.heap) (cD:XC K D bm) (cC:XC K C bmC) (he:s.heap.get? e=some oe) (hcls:oe.cls=.ref D)
  (h:Q ((Value.ref D::bm).contains (.ref C)) s):wpAny M A (excMatches (.ref e) (.ref C)) Q E s:=by
 obtain⟨N,nm,q,bs,hdct,sn,sub,ab,col,dd,k0,k1,k2,k3,k5,mN,hD,_,_,_⟩:=cD.at X
 obtain⟨N',nm',q',bs',hdct',sn',sub',ab',col',dd',j0,j1,j2,j3,j5,mN',hC,_,_,TL⟩:=cC.at X
 have hb:(Value.ref C::bmC).contains (.type "BaseException")=true:=by rw[List.contains_cons,TL.hasType (X := "BaseException") (b:=true) rfl,Bool.or_true]
 obtain⟨hp,g,d,t,os⟩:=s
 have f:=tc_notTuple
 unfold excMatches
 have hD':hp.get? D=some (excClassObj nm q D N bs bm hdct sn sub ab col dd k0 k1 k2 k3 k5 "ValueError.__new__"):=hD
 have hC':hp.get? C=some (excClassObj nm' q' C N' bs' bmC hdct' sn' sub' ab' col' dd' j0 j1 j2 j3 j5 "ValueError.__new__"):=hC
 have he':hp.get? e=some oe:=he
 repeat (first | (with_reducible refine wpAny_loadPart_at he' ?_;rw[hcls]) | with_reducible refine wpAny_loadPart_at hC' ?_ | (with_reducible refine wpAny_isSubtype_exc hC' ?_;rw[hb]) | with_reducible refine wpAny_isSubtype_exc hD' ?_ | wp_step)
 cases e1:(Value.ref D::bm).contains (Value.ref C) with
 | true=>rw[e1] at h;rw[if_pos rfl];exact wpAny_pure (wpAny_pure (wpAny_pure h))
 | false=>rw[e1] at h;rw[if_neg Bool.false_ne_true];exact wpAny_pure (wpAny_pure (wpAny_pure h))
end L2
namespace L2
open PySem PySem.Spec PyProof.Rows
section
variable {X:Cx} {pins:List (Addr × Obj)} {σ:St} {H H':Hp} {s s':Shared} {B h':Heap} {ea:Addr} {cls fl:Value}
theorem Inv.landed (I:Inv X pins σ H s) (ho:s'.os=s.os) (hg:AllBare s'.gens) (x:Fly B h' X.stack ea cls fl) (hok:HOk X.prog X.w H' B) (tb:ToB (frs X.stack) H H' s.heap B)
  (sl:∀ b o,s.heap.get? b=some o->b∈frs X.stack->∃ sl,h'.get? b=some { o with slots:=sl }):Inv X pins σ (upd H' ea (ExO ea cls)) { s' with heap:=h' }:=by
 have hn:H' ea=none:=by
  cases q:H' ea with
  | none=>rfl
  | some o =>
   obtain⟨ob,e⟩:=(hok ea o q).got
   rw[x.new] at e
   cases e
 have u:=tb.un x.stays sl
 have hne:∀ b o,s.heap.get? b=some o->b ≠ ea:=fun b o q z=>by
  by_cases hb:b∈frs X.stack
  ·obtain⟨s1,q1⟩:=sl b o q hb
   obtain⟨oe,vs,T,oT,ts,he,_,hd,_⟩:=x.trc
   have:=JQ x.frames hb q1 vs
   rw[z,he] at q1
   cases q1
   exact this hd
  ·obtain⟨o',q1⟩:=tb.there b o q hb
   rw[z,x.new] at q1
   cases q1
 refine Inv.call' (s':={ s' with heap:=h' }) (ch:=[]) I ho ⟨u.keep,u.slot,fun b o q n hb=>?_,u.there,fun b xs q=>?_,fun b o w q=>?_,fun b ps q=>?_⟩ ?_ hg (fun b hb=>by cases hb)
 ·rw[QG (hne b o q)];exact u.free b o q n hb
 ·have:=u.tups b xs q
  rw[QG (QI this hn)];exact this
 ·have:=u.frzs b o w q
  rw[QG (QI this hn)];exact this
 ·obtain⟨m,e⟩:=u.tbls b ps q
  exact⟨m,by rw[QG (QI e hn)];exact e⟩
 ·exact (hok.kept x.stays).track hn (zMJ x)
end
def zIC (K:W.Frag) (C:Addr) (i:Nat) (tb:(St->Hp->XK)->TS) (ts:Addr->TS):TS:=fun D σ H=>tb (fun σ' _ cls a H'=>∃ ea Dc bm,a=some ea/\cls=.ref Dc/\XC K Dc bm/\(Value.ref Dc::bm).contains (.ref C)=true /\
 ts ea { nx:=fun σ2 H2=>D.nx (σ2.set i none) H2,rt:=D.rt,bk:=fun σ2 H2=>D.bk (σ2.set i none) H2,ct:=fun σ2 H2=>D.ct (σ2.set i none) H2 } (σ'.set i (some (.ref ea))) (upd H' ea (ExO ea (.ref Dc)))) D σ H
theorem zDc {X:Cx} {body:List Stmt} {tb:(St->Hp->XK)->TS} {ts:Addr->TS} {x n:Str} {C:Addr} {bmC:List Value} {i:Nat} {b₀:Stmt} {suite:List Stmt} {np hpos pos:Pos} (O:Own X)
  (hb:∀ pl RX,PSs ((X.bear pl).wish (xeR (X.bear pl) RX)) body (tb RX)) (hg:Gl X x) (hm:X.mg x=some (.ref C)) (cC:XC X.K C bmC) (hs:∀ ea,PSs (X.inH ea) (b₀::suite) (ts ea))
  (hN:X.N.Nodup) (hi:X.N[i]? = some n) (hl:X.env.kindOf n=some .local) (hdb:(x == ("__debug__" : Str))=false:=by decide) :
  PS X (.Try body [.ExceptHandler (some (.Name x np)) (some n) (b₀::suite) hpos] [] [] pos) (zIC X.K C i tb ts):=by
 intro pins s σ H D I h
 refine wpAny_Try_except ?_
 refine wpAny_mono (hb pins _ [] s σ H D (I.bear.wish _) h) (fun f s1 q=>?_) (fun e s1 q=>?_)
 ·have q1:=SP.unwish q
  have q2:SP X pins D f s1:=by
   cases f with
   | next=>obtain⟨σ',H',J,z⟩:=q1;exact⟨σ',H',J.unbear,z⟩
   | brk=>obtain⟨σ',H',J,z⟩:=q1;exact⟨σ',H',J.unbear,z⟩
   | cont=>obtain⟨σ',H',J,z⟩:=q1;exact⟨σ',H',J.unbear,z⟩
   | ret u=>obtain⟨v,σ',H',J,r,z⟩:=q1;exact⟨v,σ',H',J.unbear,r,z⟩
  cases f with
  | next=>exact wpAny_execs_nil q2
  | brk=>exact q2
  | cont=>exact q2
  | ret u=>exact q2
 ·obtain⟨pins',σ',H1,s2,I2,ea,cls,B,H',rfl,h1,h2,h3,h6,h7,h8,ea',Dc,bm,e1,rfl,cD,hct,q⟩:=q
  cases e1
  have I2:Inv X pins σ' H1 s2:=I2.unbear
  have h3':Fly B s1.heap (X.env::X.outer) ea (.ref Dc) .none:=by rw[← O.stk];exact h3
  have hfr:X.A.frames=some (X.env::X.outer):=by rw[← O.stk];exact I.ok.frames
  have up:∀ {ha hb:Heap} {fl:Value},Fly B ha X.stack ea (.ref Dc) fl->ha.UpToSlots hb->(∀ b o,s2.heap.get? b=some o->b∈frs X.stack->∃ sl,ha.get? b=some { o with slots:=sl })->∀ b o,s2.heap.get? b=some o->b∈frs X.stack->∃ sl,hb.get? b=some { o with slots:=sl } :=
   fun {ha hb fl} y u z b o e hb'=>by
    obtain⟨sl1,e1⟩:=z b o e hb'
    obtain⟨sl2,e2⟩:=u b _ e1 (JQ y.frames hb' e1)
    exact⟨sl2,e2⟩
  refine zAp (s:=s1) hfr O.fr h3' fun h4 y4 u4=>?_
  refine ZS (s:={ s1 with heap:=h4 }) y4 fun h5 y5 u5=>?_
  have y4':Fly B h4 X.stack ea (.ref Dc) (rawInt X.env.locals):=by rw[O.stk];exact y4
  have y5':Fly B h5 X.stack ea (.ref Dc) .none:=by rw[O.stk];exact y5
  have sl5:=up y4' u5 (up h3 u4 h8)
  have I5:Inv (X.inH ea) pins σ' (upd H' ea (ExO ea (.ref Dc))) { s1 with heap:=h5 }:=(I2.landed (s':=s1) h1 h2 y5' h6 h7 sl5).inH ea
  refine wpAny_handleBy_cons (codeAny_handlers_test ?_) (by intro z;cases z)
  refine Yy I5 hg hm ?_ hdb
  obtain⟨oe,vs,T,oT,ts',he,hc,hd,_⟩:=y5.trc
  refine zAI (s:={ s1 with heap:=h5 }) I5.kIn cD cC he hc ?_
  rw[hct]
  refine codeAny_handlers_suite_as ?_
  refine ZS (s:={ s1 with heap:=h5 }) y5 fun h7' y7 u7=>?_
  have y7':Fly B h7' X.stack ea (.ref Dc) .none:=by rw[O.stk];exact y7
  have I7:Inv (X.inH ea) pins σ' (upd H' ea (ExO ea (.ref Dc))) { s1 with heap:=h7' }:=(I2.landed (s':=s1) h1 h2 y7' h6 h7 (up y5' u7 sl5)).inH ea
  refine JY (X:=X.inH ea) (i:=i) I7 hN hi (.inl hl) (v:=.ref ea) rfl (fun s8 I8=>?_) (.inr hl)
  refine wpAny_mono (hs ea pins s8 _ _ _ I8 q) (fun f s9 z=>?_) (fun _ _ z=>z.elim)
  have fin:∀ {σ2:St} {H2:Hp} {Q:Shared->Prop},Inv (X.inH ea) pins σ2 H2 s9->(∀ s',Inv X pins (σ2.set i none) H2 s'->Q s') ->
    wpAny (model X.prog X.w) X.A (do bindName X.env n .none;unbindBehindTheSuite X.env n hpos) (fun _ s'=>Q s') X.xe s9:=fun {σ2 H2 Q} J hq=>by
   obtain⟨m,hn,hl'⟩:=J.loc
   refine wpAny_nameGoes_keeps hl hn (by rw[I.ok.kind];rfl) fun h' v hn' hs'=>hq _ ?_
   exact (J.outH I.ok).forget hN hi hn hl' hn' hs'
  cases f with
  | next=>obtain⟨σ2,H2,J,z⟩:=z;exact fin J fun s' J'=>⟨_,_,J',z⟩
  | brk=>obtain⟨σ2,H2,J,z⟩:=z;exact fin J fun s' J'=>⟨_,_,J',z⟩
  | cont=>obtain⟨σ2,H2,J,z⟩:=z;exact fin J fun s' J'=>⟨_,_,J',z⟩
  | ret u=>obtain⟨v,σ2,H2,J,r,z⟩:=z;exact fin J fun s' J'=>⟨v,_,_,J',r,z⟩
end L2
namespace L2
open PySem PySem.Spec PyProof.Rows
end L2
namespace L2
open PySem PySem.Spec PySem.W PySem.Calls PyProof.Rows Builtin Builtin.ObjectAttr Builtin.Getset_descriptor
structure XI (K:Frag) (D:Addr):Prop where
 ga:findIn K (.ref D) "__getattribute__" = some (some (.builtin "BaseException.__getattribute__"))
 gh:findIn K (.ref D) "__getattr__" = some none
 fc:findIn K (.ref D) "__class__" = some (some (.builtin "object.__class__"))
 sg:specialIn K (.builtin "object.__class__") "__get__" = some (some (.builtin "getset_descriptor.__get__"))
 tk:takesIn K (.builtin "object.__class__")=some true
 mo:mroIn K D (.type "object")=some true
 mb:mroIn K D (.type "BaseException")=some true
section
variable {prog:Program} {w:World} {A:Around} {E:Value->Shared->Prop} {s:Shared} {K:Frag} {x D:Addr} {ox:Obj}
theorem JR {M:Model} {h:Heap} (hx:h.get? x=some ox) (hc:ox.cls=.ref D):Looks M h (typeOf (.ref x)) (.ref D):=hc ▸ (Looks.ld hx).andThen .now
theorem zLu {tp:Value} {R:Result->Shared->Prop} (X:K.In s.heap) (hx:s.heap.get? x=some ox) (hc:ox.cls=.ref D) (hm:mroIn K D (.type "object")=some true)
  (h:R (.ok (.ret (.ref D))) s):codeAny (model prog w) A (.call (.builtin "getset_descriptor.__get__") ⟨[.builtin "object.__class__",.ref x,tp],[]⟩) R s:=by
 obtain⟨hh,g,dr,t,os⟩:=s
 have L0:=JR (M:=model prog w) hx hc
 have L1:=looks_mroIn (M:=model prog w) X hm
 refine codeAny_call_builtin KF.slot_gs.plain KF.entry_gs (KF.slot_gs.check _ _ _ _ _ _ _ _ KF.type_class (KF.args_gs _ _ _) ?_)
 unfold Builtin.«getset_descriptor.__get__» descrGet
 rw[dga_obj]
 refine wpAny_bind (wpAny_pure ?_)
 unfold descrGetter descrCheckInstance descrNameAndClass isInstance
 simp only[KF.owner_class]
 repeat lk
 refine⟨Code.quiet_builtin _ (by decide +kernel),codeAny_builtin KF.entry_class ?_⟩
 unfold Builtin.«object.__class__» shownTypeOf
 repeat lk
 exact h
theorem zHY {M:Model} {nameV:Value} {Q:Unit->Shared->Prop} (X:K.In s.heap) (hx:s.heap.get? x=some ox) (hc:ox.cls=.ref D) (hm:mroIn K D (.type "BaseException")=some true)
  (hq:Q () s):wpAny M A (checkBuiltinCall "BaseException.__getattribute__" ⟨[.ref x,nameV],[]⟩) Q E s:=by
 obtain⟨hh,g,dr,t,os⟩:=s
 have hk:builtinKind "BaseException.__getattribute__" = some .slot:=by decide +kernel
 have hsplit:splitId "BaseException.__getattribute__" = some ("BaseException", "__getattribute__"):=by decide +kernel
 have LI:Looks M hh (isInstance (.ref x) (.type "BaseException")) true:=(JR hx hc).andThen (looks_mroIn X hm)
 have ha:=F.args_bexc_ga (.ref x) nameV
 simp only[checkBuiltinCall,hk,hsplit]
 refine wpAny_bind (LI.at ?_)
 repeat (first | wp_step)
 exact hq
theorem zJm {M:Model} {h:Heap} (X:K.In h) (xi:XI K D):Looks M h (find (.ref x) (.ref D) "__class__") (.bind (.builtin "getset_descriptor.__get__") (.builtin "object.__class__")):=by
 have L1:=looks_findIn (M:=M) X xi.fc
 have L2:Looks M h (getOf (some (.builtin "object.__class__"))) (some (.builtin "getset_descriptor.__get__")):=looks_specialIn X xi.sg
 have L3:=looks_takesIn (M:=M) X xi.tk
 refine L1.andThen (L2.andThen ?_)
 exact (show Looks M h (dataDescriptor? (some (.builtin "object.__class__")) (some (.builtin "getset_descriptor.__get__"))) (some (.builtin "getset_descriptor.__get__",.builtin "object.__class__")) from L3.andThen .now).andThen (Looks.tag .now)
theorem zId {tk:Tok} {Q:Fin->Shared->Prop} (X:K.In s.heap) (xi:XI K D) (hx:s.heap.get? x=some ox) (hc:ox.cls=.ref D) (hq:Q (.done (.ret (.ref D))) s) :
  wpAny (model prog w) A (Builtin.«object.__getattribute__» ⟨[.ref x,.str "__class__" tk],[]⟩) Q E s:=by
 obtain⟨hh,g,dr,t,os⟩:=s
 have L0:=JR (M:=model prog w) hx hc
 have L1:=zJm (M:=model prog w) (x:=x) X xi
 unfold Builtin.«object.__getattribute__»
 refine wpAny_bind (wpAny_of_eq (a:=(Value.ref x,[Value.str "__class__" tk])) rfl ?_)
 dsimp only
 refine wpAny_bind (wpAny_pure (wpAny_bind (L0.at (wpAny_bind (L1.at ?_)))))
 show wpAny _ _ (bindTo _ _ _ _) _ _ _
 unfold bindTo
 repeat (any_goals (first | assumption | wp_step))
 refine zLu (s:=⟨hh,g,dr,t,os⟩) X hx hc xi.mo ?_
 repeat (any_goals (first | assumption | wp_step))
theorem zHo {Q:Option Value->Shared->Prop} (X:K.In s.heap) (xi:XI K D) (hx:s.heap.get? x=some ox) (hc:ox.cls=.ref D) (h:Q (some (.ref D)) { s with toks:=s.toks+1 }) :
  wpAny (model prog w) A (getAttr? (.ref x) "__class__") Q E s:=by
 obtain⟨hh,g,d,t,os⟩:=s
 have L0:=JR (M:=model prog w) hx hc
 have L1:=looks_findIn (M:=model prog w) X xi.ga
 have L2:=looks_findIn (M:=model prog w) X xi.gh
 unfold getAttr? getAttrBy? getAttrBy
 refine wpAny_bind (wpAny_mkText (wpAny_bind (wpAny_attempt (wpAny_holding (wpAny_bind (L0.at (wpAny_bind (L1.at ?_))))))))
 have hx2:(Value.builtin "BaseException.__getattribute__" == Value.builtin "object.__getattribute__")=false:=by decide +kernel
 dsimp only
 rw[hx2,Bool.and_false]
 rw[if_neg Bool.false_ne_true]
 unfold getAttrByItsOwn
 refine wpAny_bind (show wpAny _ _ (hookBefore (.ref D)) _ _ _ from (show wpAny _ _ (typeLookup (.ref D) "__getattr__") _ _ _ from L2.at ?_))
 refine wpAny_bind (wpAny_attempt (wpAny_holding ?_))
 show wpAny _ _ (boundAndCalled _ _ _) _ _ _
 unfold boundAndCalled
 rw[F.attr_ValueError.ga.bind]
 refine wpAny_bind (wpAny_pure (wpAny_call (codeAny_call_builtin F.attr_ValueError.ga.plain F.entry_bexc_ga (zHY X hx hc xi.mb (zId (s:=⟨hh,g,d,t+1,os⟩) X xi hx hc ?_)))))
 exact wpAny_pure (wpAny_pure h)
end
end L2
namespace L2
open PySem PySem.Spec PyProof.Rows
theorem zIb {K:W.Frag} {x D:Addr} (xi:XI K D):PySem.W.KitX K (.ref x) (.ref D) (fun h=>∃ ox,h.get? x=some ox/\ox.cls=.ref D) where
 ty:=fun _ _ _ ⟨_,hx,hc⟩=>JR hx hc
 it:=fun _ _ X _=>by
  obtain⟨cdD,hcD,_⟩:=Option.bind_eq_some_iff.mp xi.mo
  unfold PySem.W.clsIn at hcD
  split at hcD
  ·rename_i c' d' cd' sl' ho
   intro A' Q' E' s' k q
   unfold isType loadHead
   exact wpAny_bind (wpAny_loadPart (k _ _ (X _ _ ho)) (wpAny_pure q))
  ·cases hcD
 ne:=fun h tp dd its n sl X htp=>by
  obtain⟨cdD,hcD,_⟩:=Option.bind_eq_some_iff.mp xi.mo
  refine Bool.eq_false_iff.mpr fun q=>?_
  have e:D=tp:=Value.ref.inj (beq_iff_eq.mp q)
  subst e
  unfold PySem.W.clsIn at hcD
  split at hcD
  ·rename_i c' d' cd' sl' ho
   have z:=(X _ _ ho).symm.trans htp
   cases z
  ·cases hcD
 ca:=fun X ⟨_,hx,hc⟩ h=>zHo X xi hx hc h
section
variable {X:Cx}
inductive ClsV:V->Value->Prop where
 | ty (T:String):ClsV (.ty T) (.type T)
 | own (C:Addr):ClsV (.ref C) (.ref C)
theorem ClsV.at {v:V} {c u:Value} (h:ClsV v c) (r:RelV v u):u=c:=by cases h <;> exact r
def zM1 (K:W.Frag):List V->Hp->VK->Prop:=fun xs H Q=>∃ a D v c b,xs=[.ref a,v]/\ClsV v c/\H a=some (ExO a (.ref D))/\XI K D/\W.kitOne K (.ref D) c=some b/\Q (.bl b) H
theorem zHL:ZD X (.builtin "isinstance") (zM1 X.K):=by
 intro pins s σ H xs us Q I r h
 obtain⟨a,D,v,c,b,rfl,cv,ea,xi,e,q⟩:=h
 obtain⟨u,w',rfl,r1,r2⟩:=zK3 r
 cases (show u=Value.ref a from r1)
 cases cv.at r2
 obtain⟨⟨oe,vs,he,hc,_⟩,_,_⟩:=(show ObjOk X.prog X.w H s.heap a (ExO a (.ref D)) from I.hok a _ ea)
 exact PySem.W.kia_one (zIb xi) I.kIn ⟨oe,he,hc⟩ e (fun z=>nomatch z) fun tk=>⟨.bl b,H,I.tok _,rfl,q⟩
end
structure RoomH (ea:Addr) (k:Nat) (A:Around):Prop where
 hd:A.handled=some (.ref ea)
 dp:A.depth+3*k+5 < recursionLimit
 un:A.units+16*k+200 < cLine
abbrev noX:XK:=fun _ _ _=>False
structure FnH (P:Program) (w:World) (K:W.Frag) (mg:Str->Option Value) (base:Heap) (ea:Addr) (k:Nat) (f:Addr) (fd:FuncData) (ps:List Str) (sp:Sp):Prop where
 len:∀ vs H Q E,sp vs H Q E->vs.length=ps.length
 run:∀ (A:Around) (outer:List Env) (s:Shared) (H:Hp) (args:Args) (us:List Value) (vs:List V) (Q:VK),RoomH ea k A->Env0 P w K mg base A outer s H->BindsTo s fd args (ps.zip us)->Vals vs us->sp vs H Q noX ->
  codeAny (model P w) A (.call (.ref f) args) (fun r s'=>match r with | .ok (.ret u)=>CE outer P w H s Q u s' | _=>False) s
section
variable {P:Program} {w:World} {K:W.Frag} {mg:Str->Option Value} {base:Heap} {N ps:List Str} {qual:Str} {scope:Scope} {f:Addr} {cd:Value} {A:Around} {outer:List Env} {s s₀:Shared} {H H₀:Hp} {ea:Addr} {pins:List (Addr × Obj)} {σ:St}
theorem Fun.okE {x qual:Str} {st:Stmt} {f:Addr} {fd:FuncData} {N ps:List Str} {k:Nat} {sp:Sp} (F:Fun K x qual st f fd) (S:FnScope N ps (QJ st)) (len:∀ vs H Q E,sp vs H Q E->vs.length=ps.length)
  (hbody:∀ (cdv:Value) (A:Around) (outer:List Env) (s:Shared) (H:Hp) (vs:List V) (Q:VK) (E:XK),Room k (A.deeper (envOfC qual (QJ st) s.heap.objs.size f cdv))->sp vs H Q E ->
   ∃ t,PSs (cxE P w K mg base N qual (QJ st) f cdv A outer s H E) (Q5 st) t/\t { nx:=fun _ H'=>Q .non H',rt:=Q } (WD N vs) H):FnOk P w K mg base (CXe P w) (k+1) f fd ps sp:=by
 obtain⟨oc,od,kV,doc,pm,an,cdv,ct,osl,rfl,lk,hcd⟩:=F.ex
 exact zHv lk hcd S len fun A outer s H vs Q E hr hsp=>hbody cdv A outer s H vs Q E hr hsp
end
end L2
namespace L2
open PySem PySem.Spec PyProof.Rows
section
variable {X:Cx}
def zMj:R2:=fun x y H Q=>∃ z k,x=.str z/\y=.int k/\1<=k/\k<=1000/\1<=z.length/\z.length<=1000/\∀ r:Str,(r.length:Int)=k*z.length->Q (.str r) H
theorem zCI (x:Array Nat):∀ (n:Nat) (a:Array Nat),((List.replicate n x).foldl (· ++ ·) a).size=a.size+n*x.size:=by
 intro n
 induction n with
 | zero=>intro a;simp
 | succ n ih=>intro a;rw[List.replicate_succ,List.foldl_cons,ih,Array.size_append,Nat.succ_mul];omega
theorem zKE:OpR X (binaryOp .Mult) zMj:=by
 intro pins s σ H x y v u Q I rx ry h
 obtain⟨z,k,rfl,rfl,h1,h2,h3,h4,q⟩:=h
 obtain⟨t,rfl⟩:=rx
 obtain⟨t',rfl⟩:=ry
 refine PySem.P.mul_str (by rw[decide_eq_false (by omega),decide_eq_false (by omega)];rfl) (fun _ _=>?_) (fun _ _=>?_) ?_
 ·have h5:(1000:Int)*k<=2 ^ 63 - 1:=by omega
  have:(1000:Int)<=(2 ^ 63 - 1) / k:=(Int.le_ediv_iff_mul_le (by omega)).mpr h5
  omega
 ·unfold Builtin.Str.tooLong
  have:z.length*k.toNat<=1000*1000:=Nat.mul_le_mul h4 (by omega)
  simp[sizeLine]
  omega
 ·rw[if_neg (by omega)]
  by_cases e:k=1
  ·subst e
   rw[if_pos (show ((1:Int) == 1 || z.length == 0)=true from by simp)]
   exact⟨.str z,H,I,⟨t,rfl⟩,q z (by omega)⟩
  ·rw[if_neg (by simp[e];omega)]
   have hs:(((List.replicate k.toNat z.cps).foldl (· ++ ·) #[]).size:Int)=k*z.length:=by
    rw[zCI]
    show (((#[]:Array Nat).size+k.toNat*z.cps.size:Nat):Int)=k*(z.cps.size:Nat)
    rw[Array.size_empty,Nat.zero_add,Int.natCast_mul,Int.toNat_of_nonneg (by omega)]
   refine⟨?_,⟨.str ⟨(List.replicate k.toNat z.cps).foldl (· ++ ·) #[]⟩,H,I.tok _,⟨_,rfl⟩,q _ hs⟩⟩
   show ((List.replicate k.toNat z.cps).foldl (· ++ ·) #[]).size<=sizeLine
   rw[zCI]
   have:k.toNat*z.cps.size<=1000*1000:=Nat.mul_le_mul (by omega) h4
   simp[sizeLine]
   omega
end
end L2
namespace L2
open PySem PySem.Spec PyProof.Rows
mutual
theorem Kd.eqb_refl:∀ k:Kd,k.eqb k=true
 | .num i=>by unfold Kd.eqb;exact beq_self_eq_true _
 | .txt x=>by unfold Kd.eqb;exact beq_self_eq_true _
 | .tup ks=>by unfold Kd.eqb;exact Kd.eqbL_refl ks
theorem Kd.eqbL_refl:∀ ks:List Kd,Kd.eqbL ks ks=true
 | []=>by unfold Kd.eqbL;rfl
 | k::r=>by unfold Kd.eqbL;rw[Kd.eqb_refl k,Kd.eqbL_refl r];rfl
end
instance instDecKd:DecidableEq Kd:=fun k l=>if h:k.eqb l=true then .isTrue (Kd.eqb_eq h) else .isFalse fun e=>h (e ▸ Kd.eqb_refl k)
theorem Kd.eqb_dec (k l:Kd):k.eqb l=decide (k=l):=by
 by_cases h:k=l
 ·subst h;rw[Kd.eqb_refl,decide_eq_true rfl]
 ·rw[decide_eq_false h]
  cases e:k.eqb l with
  | false=>rfl
  | true=>exact absurd (Kd.eqb_eq e) h
def IsKo (H:Hp):Option Kd->V->Prop
 | none,v=>v=.non
 | some k,v=>IsK H k v
def zMI (n:Nat):Option Kd->Prop
 | none=>True
 | some k=>k.deep<=n
theorem IsKo.same {H H':Hp} (s:TupS H H') {o:Option Kd} {v:V} (h:IsKo H o v):IsKo H' o v:=by
 cases o with
 | none=>exact h
 | some k=>exact IsK.same s h
theorem IsK.num_eq {H:Hp} {i:Int} {v:V} (h:IsK H (.num i) v):v=.int i:=by unfold IsK at h;exact h
theorem IsKo.inj {H:Hp} {o o':Option Kd} {v:V} (h:IsKo H o v) (h':IsKo H o' v):o=o':=by
 cases o with
 | none =>
  cases o' with
  | none=>rfl
  | some k =>
   cases (show v=.non from h)
   cases k with
   | num i=>have z:IsK H (.num i) .non:=h';unfold IsK at z;cases z
   | txt i=>have z:IsK H (.txt i) .non:=h';unfold IsK at z;cases z
   | tup i=>have z:IsK H (.tup i) .non:=h';unfold IsK at z;obtain⟨_,_,e,_⟩:=z;cases e
 | some k =>
  cases o' with
  | none =>
   cases (show v=.non from h')
   cases k with
   | num i=>have z:IsK H (.num i) .non:=h;unfold IsK at z;cases z
   | txt i=>have z:IsK H (.txt i) .non:=h;unfold IsK at z;cases z
   | tup i=>have z:IsK H (.tup i) .non:=h;unfold IsK at z;obtain⟨_,_,e,_⟩:=z;cases e
  | some l=>rw[Kd.eqb_eq (IsK.inj (show IsK H k v from h) (show IsK H l v from h'))]
def IsKos (H:Hp) (os:List (Option Kd)) (xs:List V):Prop:=xs.length=os.length/\∀ (i:Nat) o x,os[i]? = some o->xs[i]? = some x->IsKo H o x
theorem IsKos.nil {H:Hp}:IsKos H [] []:=⟨rfl,fun i o x h=>by simp at h⟩
theorem IsKos.len {H:Hp} {os:List (Option Kd)} {xs:List V} (h:IsKos H os xs):xs.length=os.length:=h.1
theorem IsKos.get {H:Hp} {os:List (Option Kd)} {xs:List V} (h:IsKos H os xs) {i:Nat} {x:V} (e:xs[i]? = some x):∃ o,os[i]? = some o/\IsKo H o x:=by
 have hi:i < os.length:=by rw[← h.1];exact (List.getElem?_eq_some_iff.mp e).1
 exact⟨os[i],List.getElem?_eq_getElem hi,h.2 i _ _ (List.getElem?_eq_getElem hi) e⟩
theorem IsKos.get' {H:Hp} {os:List (Option Kd)} {xs:List V} (h:IsKos H os xs) {i:Nat} {o:Option Kd} (e:os[i]? = some o):∃ x,xs[i]? = some x/\IsKo H o x:=by
 have hi:i < xs.length:=by rw[h.1];exact (List.getElem?_eq_some_iff.mp e).1
 exact⟨xs[i],List.getElem?_eq_getElem hi,h.2 i _ _ e (List.getElem?_eq_getElem hi)⟩
theorem IsKos.same {H H':Hp} (s:TupS H H') {os:List (Option Kd)} {xs:List V} (h:IsKos H os xs):IsKos H' os xs:=⟨h.1,fun i o x e1 e2=>(h.2 i o x e1 e2).same s⟩
theorem IsKos.app {H:Hp} {os os':List (Option Kd)} {xs xs':List V} (h:IsKos H os xs) (h':IsKos H os' xs'):IsKos H (os++os') (xs++xs'):=by
 refine⟨by rw[List.length_append,List.length_append,h.1,h'.1],fun i o x e1 e2=>?_⟩
 by_cases c:i < os.length
 ·rw[List.getElem?_append_left c] at e1
  rw[List.getElem?_append_left (by rw[h.1];exact c)] at e2
  exact h.2 i o x e1 e2
 ·rw[List.getElem?_append_right (by omega)] at e1
  rw[List.getElem?_append_right (by rw[h.1];omega),h.1] at e2
  exact h'.2 _ o x e1 e2
theorem IsKos.one {H:Hp} {o:Option Kd} {x:V} (h:IsKo H o x):IsKos H [o] [x]:=⟨rfl,fun i o' x' e1 e2=>by
 cases i with
 | zero=>cases e1;cases e2;exact h
 | succ i=>simp at e1⟩
theorem IsKos.snoc {H:Hp} {os:List (Option Kd)} {xs:List V} {o:Option Kd} {x:V} (h:IsKos H os xs) (h':IsKo H o x):IsKos H (os++[o]) (xs++[x]):=h.app (.one h')
theorem IsKos.set {H:Hp} {os:List (Option Kd)} {xs:List V} {o:Option Kd} {x:V} (h:IsKos H os xs) (h':IsKo H o x) (i:Nat):IsKos H (os.set i o) (xs.set i x):=by
 refine⟨by rw[List.length_set,List.length_set];exact h.1,fun j o' x' e1 e2=>?_⟩
 by_cases c:i=j
 ·subst c
  rw[List.getElem?_set_self'] at e1 e2
  cases e:os[i]? with
  | none=>rw[e] at e1;cases e1
  | some z =>
   cases e':xs[i]? with
   | none=>rw[e'] at e2;cases e2
   | some z'=>rw[e] at e1;rw[e'] at e2;cases e1;cases e2;exact h'
 ·rw[List.getElem?_set_ne c] at e1 e2
  exact h.2 j o' x' e1 e2
end L2
namespace L2
open PySem PySem.Spec PyProof.Rows
end L2
namespace L2
open PySem PySem.Spec PyProof.Rows
theorem IsKs.two {H:Hp} {k l:Kd} {v w:V} (h:IsK H k v) (h':IsK H l w):IsKs H [k,l] [v,w]:=by
 unfold IsKs
 refine⟨v,[w],rfl,h,?_⟩
 unfold IsKs
 exact⟨w,[],rfl,h',IsKs.nil⟩
end L2
namespace L2
open PySem PySem.Spec PyProof.Rows
def zNV:R2:=fun x y H Q=>∃ (a b:Addr) (i j i' j':Int),x=.ref a/\y=.ref b/\H a=some (.tup [.int i,.int j])/\H b=some (.tup [.int i',.int j'])/\Q (.bl (!decide (i=i'/\j=j'))) H
theorem zLk {X:Cx} (hu:X.A.units+64 < cLine):OpR X (compareOp .NotEq) zNV:=by
 intro pins s σ H x y v u Q I rx ry h
 obtain⟨a,b,i,j,i',j',rfl,rfl,ha,hb,q⟩:=h
 cases rx
 cases ry
 obtain⟨its,r1,p1,_⟩:=I.tuple (SqT.of ha)
 obtain⟨its',r2,p2,_⟩:=I.tuple (SqT.of hb)
 obtain⟨u1,u2,rfl,q1,q2⟩:=r1.two
 obtain⟨v1,v2,rfl,q3,q4⟩:=r2.two
 obtain⟨t1,rfl⟩:=q1
 obtain⟨t2,rfl⟩:=q2
 obtain⟨t3,rfl⟩:=q3
 obtain⟨t4,rfl⟩:=q4
 have w:=SeqAt.RcNeAt.tuples (A:=X.A) (s:=s) (l:=a) (b:=b) (e:=fun n=>if n=0 then i == i' else j == j') p1 p2 (by omega) (fun n h1 h2=>by
  match n,h1 with
  | 0,_=>exact SeqAt.EqAt.int_int _ _ _ _
  | 1,_=>exact SeqAt.EqAt.int_int _ _ _ _)
 refine w X.prog X.w _ _ ⟨.bl _,H,I,rfl,?_⟩
 have e:(!((List.range (min ([Value.int i t1,Value.int j t2]:List Value).toArray.size ([Value.int i' t3,Value.int j' t4]:List Value).toArray.size)).all (fun n=>if n=0 then i == i' else j == j') && ([Value.int i t1,Value.int j t2]:List Value).toArray.size == ([Value.int i' t3,Value.int j' t4]:List Value).toArray.size)) = !decide (i=i'/\j=j'):=by
  have e0:(List.range (min ([Value.int i t1,Value.int j t2]:List Value).toArray.size ([Value.int i' t3,Value.int j' t4]:List Value).toArray.size))=[0,1]:=rfl
  rw[e0]
  congr 1
  rw[Bool.eq_iff_iff]
  simp
 rw[e]
 exact q
theorem zDH {α:Type} {ys:List α} {c:Nat} (h:ys.length=c+1):atI ys (-1)=ys[c]? := by
 have e:ys ≠ []:=fun e=>by rw[e] at h;cases h
 have z:=zH1 ys.dropLast (ys.getLast e)
 rw[List.dropLast_concat_getLast] at z
 rw[z,List.getLast_eq_getElem,List.getElem?_eq_getElem (by omega)]
 congr 1
 congr 1
 omega
end L2
namespace L2
open PySem PySem.Spec PyProof.Rows
theorem IsKo.non {H:Hp} {o:Option Kd} {y:V} (h:IsKo H o y):decide (y=V.non)=o.isNone:=by
 cases o with
 | none=>rw[decide_eq_true (show y=V.non from h)];rfl
 | some k =>
  refine decide_eq_false fun e=>?_
  have h':IsKo H none y:=e
  have:=h.inj h'
  cases this
end L2
namespace L2
open PySem PySem.Spec PyProof.Rows
section
variable {X:Cx} {pins:List (Addr × Obj)} {σ:St} {H:Hp} {s:Shared} {a:Addr} {y v:V} {u r:Value} {o:Option V} {A:Around} {E:Value->Shared->Prop}
theorem Inv.big (I:Inv X pins σ H s):sysModules < s.heap.objs.size:=by
 have h:mainGlobals < s.heap.objs.size:=(I.mod.glob.keeps I.bk).lt
 exact Nat.lt_trans (by decide) h
theorem zAg {h':Heap} {t':Nat} {ob:HO} (I:Inv X pins σ H s) (mu:Mut (H a)) (hs:Heap.SameBut a s.heap h') (he:∃ q,h'.get? a=some q) (new:ObjOk X.prog X.w (upd H a ob) h' a ob) :
  Inv X pins σ (upd H a ob) { s with heap:=h',toks:=t' } :=
 I.write (x:=a) (e:=a) mu (.inl rfl) (fun b q hb z=>(hs.2 b hb).trans z) he new
end
def zMe (i:Expr):Prop:=∀ ov iv,subscripted i false ov iv=operate [ov,iv] (getItem ov iv)
theorem zJl {prog:Program} {w:World} {A:Around} {E:Value->Shared->Prop} {s:Shared} {env:Env} {value slice:Expr} {pos:Pos} {T id:String} {Q:Value->Shared->Prop}
  (hl:typeLookup (.type T) "__getitem__" = pure (some (.builtin id))) (hs:zMe slice)
  (h:wpAny (model prog w) A (eval value env) (fun o s₁=>wpAny (model prog w) A (eval slice env) (fun i s₂=>s₂.TypeIs o T/\wpAny (model prog w) A (getItem o i) Q E s₂) E s₁) E s) :
  wpAny (model prog w) A (eval (.Subscript value slice pos) env) Q E s:=by
 refine Subscript_ (wpAny_mono h (fun o s₁ h₁=>wpAny_mono h₁ (fun i s₂ h₂=>?_) fun _ _ x=>x) fun _ _ x=>x)
 obtain⟨hT,h₂⟩:=h₂
 unfold subscriptTail
 refine wpAny_bind ?_
 rw[getitemInPython_of_ne hT.not_modules]
 refine wpAny_bind (wpAny_specialOf hT hl ?_)
 have fin:wpAny (model prog w) A (subscripted slice false o i) (fun r s₃=>wpAny (model prog w) A (letTemporaryGo value o r >>= fun _=>pure r) Q E s₃) E s₂:=by
  rw[hs o i]
  exact wpAny_operating (wpAny_mono h₂ (fun r s₃ h₃=>wpAny_bind (wpAny_letTemporaryGo (wpAny_pure h₃))) fun _ _ x=>x)
 first
  | exact wpAny_pure (wpAny_bind fin)
  | exact wpAny_bind (wpAny_pure (wpAny_bind fin))
  | exact wpAny_bind fin
section
variable {κ:Type} [DecidableEq κ]
theorem zF9:∀ {l:List κ} {k:κ},l.Nodup->¬ k∈l->(l++[k]).Nodup
 | [],k,_,_=>by simp
 | a::r,k,h,hk=>by
  obtain⟨h1,h2⟩:=List.nodup_cons.mp h
  show (a::(r++[k])).Nodup
  refine List.nodup_cons.mpr ⟨fun m=>?_,zF9 h2 fun m=>hk (List.mem_cons.mpr (Or.inr m))⟩
  rcases List.mem_append.mp m with q | q
  ·exact h1 q
  ·exact hk (List.mem_cons.mpr (Or.inl (List.mem_singleton.mp q).symm))
end
end L2
namespace L2
open PySem PySem.Spec PyProof.Rows
section
variable {X:Cx}
def zHb:zHV
 | .ref p,.int k,v,H,Q=>match H p with
  | some (.lst xs)=>match ixN xs.length k with
   | some j=>Q (upd H p (.lst (xs.set j v)))
   | none=>False
  | _=>False
 | _,_,_,_,_=>False
theorem Y2:zKd X zHb:=by
 intro pins s σ H o i v ov iv u Q I ro ri rv h
 match o,i,h with
 | .ref p,.int k,h =>
  have h':(match H p with | some (.lst xs)=>(match ixN xs.length k with | some j=>Q (upd H p (.lst (xs.set j v))) | none=>False) | _=>False):=h
  cases e:H p with
  | none=>rw[e] at h';exact h'.elim
  | some ob =>
   rw[e] at h'
   cases ob with
   | lst xs =>
    have h2:(match ixN xs.length k with | some j=>Q (upd H p (.lst (xs.set j v))) | none=>False):=h'
    cases e2:ixN xs.length k with
    | none=>rw[e2] at h2;exact h2.elim
    | some j=>rw[e2] at h2;exact zIn pins s σ H _ _ v ov iv u Q I ro ri rv ⟨p,xs,k,j,rfl,rfl,e,e2,h2⟩
   | _=>exact h'.elim
theorem zJz {n k:Nat} (h:k < n):ixN n (k:Int)=some k:=by
 unfold ixN
 first
  | (rw[if_pos (by omega)];simp;omega)
  | (simp;omega)
  | (split <;> simp <;> omega)
theorem YD {H:Hp} {p:Addr} {xs:List V} {k:Int} {j:Nat} {v:V} {Q:Hp->Prop} (h:H p=some (.lst xs)) (e:k=(j:Int)) (hj:j < xs.length):zHb (.ref p) (.int k) v H Q=Q (upd H p (.lst (xs.set j v))):=by
 subst e
 show (match H p with | some (.lst xs)=>(match ixN xs.length (j:Int) with | some j=>Q (upd H p (.lst (xs.set j v))) | none=>False) | _=>False)=_
 rw[h]
 show (match ixN xs.length (j:Int) with | some j=>Q (upd H p (.lst (xs.set j v))) | none=>False)=_
 rw[zJz hj]
end
def Ite (K:W.Frag) (a:Addr):It :=
 ⟨fun i H=>∃ xs x,SqL K H a xs/\xs[i]? = some x,fun i H v H'=>∃ p x,v=.ref p/\H p=none/\H'=upd H p (.tup [.int (i:Nat),x])/\∀ xs,SqL K H a xs->xs[i]? = some x,fun i H=>∃ xs,SqL K H a xs/\xs.length<=i⟩
section
variable {X:Cx} {pins:List (Addr × Obj)} {σ:St} {H:Hp} {s:Shared} {h':Heap}
theorem Inv.turnedT {t':Nat} {e it:Addr} {ys:List V} {its:List Value} (I:Inv X pins σ H s) (k:∀ b o,b ≠ e->b ≠ it->s.heap.get? b=some o->h'.get? b=some o) (fe:Zv X pins H e) (fi:Zv X pins H it)
  (ht:IsTup h' s.heap.objs.size its.toArray) (hv:Vals ys its) (hz:ys.length<=sizeLine):Inv X pins σ (upd H s.heap.objs.size (.tup ys)) { s with heap:=h',toks:=t' }:=by
 have hn:H s.heap.objs.size=none:=I.hok.fresh (Nat.le_refl _)
 obtain⟨f0,f1,f2,f3,f4,f5⟩:=fe
 obtain⟨g0,g1,g2,g3,g4,g5⟩:=fi
 have ne:∀ b u,H b=some u->b ≠ e:=fun b u e z=>by rw[z,f0] at e;cases e
 have nit:∀ b u,H b=some u->b ≠ it:=fun b u e z=>by rw[z,g0] at e;cases e
 refine I.step (g':=s.gens) (d':=s.drawn) (ch:=[e,it]) (fun b hb=>?_) (fun b o _ _ hc q _=>k b o (fun z=>hc (by simp[z])) (fun z=>hc (by simp[z])) q) (fun b o _ _ hc q _=>⟨o.slots,k b o (fun z=>hc (by simp[z])) (fun z=>hc (by simp[z])) q⟩) (fun b o _ q n=>?_)
  (fun b o hc q=>⟨o,k b o (fun z=>hc (by simp[z])) (fun z=>hc (by simp[z])) q⟩) (fun b xs q=>?_) (fun b _ _ q=>?_) (fun b ps q=>⟨#[],?_⟩) (fun m hm=>?_) (fun b u q=>?_) I.bare
 ·rcases List.mem_cons.mp hb with z | z
  ·subst z;exact⟨f3,f1,f4,f5⟩
  ·have z:=List.mem_singleton.mp z
   subst z;exact⟨g3,g1,g4,g5⟩
 ·rw[QG (Nat.ne_of_lt (Heap.lt_size q))];exact n
 ·rw[QG (QI q hn)];exact q
 ·rw[QG (QI q hn)];exact q
 ·rw[QG (QI q hn),q];simp
 ·obtain⟨o,es,ep,ho,r⟩:=hm
  exact⟨o,es,ep,k _ o (Ne.symm f1) (Ne.symm g1) ho,r⟩
 ·by_cases hb:b=s.heap.objs.size
  ·subst hb
   rw[QF] at q
   cases q
   exact⟨hz,its,hv,ht⟩
  ·rw[QG hb] at q
   refine (I.hok b u q).stay (fun c v hc q2=>k c v ?_ ?_ q2) (fun c q=>by rw[QG (QI q hn)];exact q) fun c xs q=>by rw[QG (QI q hn)];exact q
   ·rcases hc with z | z
    ·rw[z];exact ne b u q
    ·exact ne c _ z
   ·rcases hc with z | z
    ·rw[z];exact nit b u q
    ·exact nit c _ z
end
theorem zGs {P:Program} {w:World} {K:W.Frag} {elts:List Expr} {x1:Nat} {tp:Pos} (a e it:Addr) (hne:e ≠ it):Turn P w K (.Tuple elts x1 tp) (Ite K a) [e,it] e (fun i h=>(∃ old,IsEnum h e it (i:Nat) old)/\h.IsListIter it a i) where
 mem:=by simp
 obj:=fun i h st b hb=>by
  obtain⟨⟨old,he⟩,hi⟩:=st
  rcases List.mem_cons.mp hb with z | z
  ·subst z
   exact⟨_,he,fun v z=>by cases z⟩
  ·have z:=List.mem_singleton.mp z
   subst z
   obtain⟨o,e,c,d⟩:=hi
   exact⟨o,e,fun v z=>by rw[d] at z;cases z⟩
 keep:=fun i h h' st k=>⟨st.1.imp fun old he=>k e (by simp) _ he,st.2.at fun o q=>k it (by simp) o q⟩
 item:=by
  intro X hP hw hK hc i pins s σ H E I hf st hg
  subst hP hw hK
  obtain⟨xs,x,hq,hx⟩:=hg
  obtain⟨its,rv,p,hz⟩:=I.list hq
  obtain⟨u,hu,ru⟩:=rv.get hx
  have fe:=hf e (by simp)
  have fi:=hf it (by simp)
  obtain⟨⟨old,he⟩,hi⟩:=st
  have hel:e < s.heap.objs.size:=Heap.lt_size he
  have hil:it < s.heap.objs.size:=by obtain⟨o,q,_⟩:=hi;exact Heap.lt_size q
  refine wpAny_pyNext_enum_item he hi p.isList (x:=u) (by simpa using hu) hne fun h1 ho hi1 ht hsz hk=>?_
  refine⟨_,rfl,wpAny_letOwnedTupleGo_enum ho fun h2 he2 hs2=>?_⟩
  have hk2:∀ b o,b ≠ e->b ≠ it->s.heap.get? b=some o->h2.get? b=some o:=fun b o b1 b2 q=>(hs2.2 b b1).trans (hk b o b1 b2 q)
  have ht2:h2.get? s.heap.objs.size=some { cls:=.type "tuple",data:=.seq #[.int i s.toks,u] }:=(hs2.2 _ (Nat.ne_of_gt hel)).trans ht
  have hf2:∀ b∈[e,it],upd H s.heap.objs.size (HO.tup [V.int i,x]) b=none:=fun b hb=>by
   have hb2:b < s.heap.objs.size:=by
    rcases List.mem_cons.mp hb with z | z
    ·rw[z];exact hel
    ·rw[List.mem_singleton.mp z];exact hil
   rw[QG (Nat.ne_of_lt hb2)]
   exact (hf b hb).1
  have z1:IsEnum h2 e it ((i+1:Nat):Int) u:=by
   have z:((i+1:Nat):Int)=(i:Int)+1:=by omega
   rw[z];exact he2
  refine⟨.ref s.heap.objs.size,_,Inv.turnedT (s:=s) (t':=s.toks+1) I (its:=[.int i s.toks,u]) (ys:=[.int i,x]) hk2 fe fi ⟨_,ht2,rfl,_,rfl⟩ (.cons ⟨_,rfl⟩ (.cons ru .nil)) (by show 2<=sizeLine;decide),rfl,
   ⟨_,x,rfl,I.hok.fresh (Nat.le_refl _),rfl,fun ys hy=>by rw[I.list_inj hy hq];exact hx⟩,⟨⟨u,z1⟩,hi1.at fun o q=>(hs2.2 it (Ne.symm hne)).trans q⟩,hf2⟩
 done:=by
  intro X hP hw hK hc i pins s σ H E I hf st hg
  subst hP hw hK
  obtain⟨xs,hq,hx⟩:=hg
  obtain⟨its,rv,p,hz⟩:=I.list hq
  obtain⟨⟨old,he⟩,hi⟩:=st
  obtain⟨f0,f1,f2,f3,f4,f5⟩:=hf it (by simp)
  have hl:=rv.length
  exact wpAny_pyNext_enum_end (I.ok.hd hc) he hi p.isList (by simp;omega) fun h' eb=>⟨rfl,I.turned (t':=s.toks) (fun b o hb e=>eb b o hb e) f0 f1 f3 f4 f5⟩
 self:=fun _ _ _ _ _ st h=>by
  obtain⟨⟨old,he⟩,_⟩:=st
  exact wpAny_pyIter_enum he h
section
variable {X:Cx} {elts:List Expr} {x1:Nat} {tp:Pos}
def zLH (K:W.Frag) (tl:TE):TI:=fun σ H R=>tl σ H fun x H1=>∃ a,x=.ref a/\(∃ xs,SqL K H1 a xs)/\R (Ite K a) H1
theorem zJj {l:Expr} {tl:TE} {p pos:Pos} (hc:X.calm=true) (hg:Gl X "enumerate") (hm:X.mg "enumerate" = none) (hl:PE X l tl) (hs:starEach [l] X.env=[(false,eval l X.env)]:=by rfl):PI X (.Tuple elts x1 tp) (.Call (.Name "enumerate" p) [l] [] pos) (zLH X.K tl):=by
 intro pins s σ H R I h
 refine Call_ (Zf I hg hm boot_enumerate (PyProof.Rows.callWith_type1 (thn ((QA hl QD hs) pos pins s σ H (fun vs H1=>match vs with | [x]=>∃ a,x=.ref a/\(∃ xs,SqL X.K H1 a xs)/\R (Ite X.K a) H1 | _=>False) I h) fun us s1 ⟨vs,H1,I1,r1,q1⟩=>?_) hs rfl))
 match vs,r1,q1 with
 | [x],r1,q1 =>
 obtain⟨a,rfl,⟨xs,hq⟩,q⟩:=q1
 obtain⟨u,rfl,ru⟩:=r1.one
 cases ru
 obtain⟨its,rv,p,hz⟩:=I1.list hq
 refine call_enumerate_list p.isList fun h' he hi hsz hk=>?_
 have I2:Inv X pins σ H1 { s1 with heap:=h' }:=I1.kept (t':=s1.toks) hk
 refine wpAny_pyIter_enum he ?_
 refine⟨s1.heap.objs.size+1,[s1.heap.objs.size+1,s1.heap.objs.size],_,_,H1,rfl,I2,zGs a _ _ (Nat.succ_ne_self _),⟨⟨_,he⟩,hi⟩,fun b hb=>?_,q⟩
 have hb2:s1.heap.objs.size<=b:=by
  rcases List.mem_cons.mp hb with z | z
  ·rw[z];exact Nat.le_succ _
  ·rw[List.mem_singleton.mp z];exact Nat.le_refl _
 exact I1.fpOk hb2 (I1.hok.fresh hb2)
theorem zGq {K:W.Frag} {a:Addr} {xs:List V} {g:TG} {tb:TS} {D:Ends} {σ:St} {H:Hp} (Pv:Nat->St->Hp->Prop) (h0:Pv 0 σ H) (hl:∀ i σ H,i<=xs.length->Pv i σ H->SqL K H a xs)
  (hs:∀ (i:Nat) x p σ H,xs[i]? = some x->Pv i σ H->H p=none->g (.ref p) σ (upd H p (.tup [.int (i:Nat),x])) fun σ2 H2=>tb { D with nx:=Pv (i+1),ct:=Pv (i+1),bk:=D.nx } σ2 H2) (hd:∀ σ H,Pv xs.length σ H->D.nx σ H):zGj (Ite K a) g tb D σ H:=by
 refine⟨fun i m σ H=>m=xs.length - i/\i<=xs.length/\Pv i σ H,⟨xs.length,by simp,Nat.zero_le _,h0⟩,?_⟩
 rintro i m σ H ⟨rfl,hi,p⟩
 have q:=hl i σ H hi p
 by_cases hlt:i < xs.length
 ·refine .inr ⟨⟨xs,xs[i],q,by simp[hlt]⟩,Pv (i+1),fun σ' H' p'=>⟨xs.length - (i+1),by omega,rfl,hlt,p'⟩,fun x H' y=>?_⟩
  obtain⟨b,z,rfl,hb,rfl,y⟩:=y
  exact hs i z b σ H (y xs q) p hb
 ·have e:i=xs.length:=by omega
  subst e
  exact .inl ⟨⟨xs,q,Nat.le_refl _⟩,hd σ H p⟩
end
end L2
namespace L2
open PySem PySem.Spec PyProof.Rows
section
variable {X:Cx}
theorem zBS {i:Nat} {y:Str} {py spos:Pos} (hN:X.N.Nodup) (hi':X.N[i]? = some y) (hy:Loc X.env.scope y) (x:Str) (cs:List Str) (js:List Nat) {sc scope:Scope} {qual:Str} {L f:Addr} {cd:Value} {elt iter t:Expr} {px pos:Pos} {wi:TI} {tc:TT} {te:TE} (hE:X.env=envOfC qual sc L f cd) (c:CompOk sc scope X.N x cs js) (hc:X.calm=true) (hi:PI X (.Name x px) iter wi)
  (ht:∀ C s₁ H₁ fp,PT (cxC X scope (YM X.env scope.names []) x cs C s₁ H₁ fp) t tc) (he:∀ C s₁ H₁ fp,PE (cxC X scope (YM X.env scope.names []) x cs C s₁ H₁ fp) elt te)
  (hsw:swapsWith (.ListComp elt [⟨.Name x px,iter,[t],0⟩] scope pos) (some (.Name y py)) spos.line X.env=pure true:=by rfl)
  (hf:X.fn y=true\/X.env.scope.names.lookup y=some .local:=by first | exact .inl rfl | exact .inr rfl | assumption)
  (hs:∀ x,foldedSetIterable iter X.env x=pure x:=by intro _;rfl):PS X (.Assign [.Name y py] (.ListComp elt [⟨.Name x px,iter,[t],0⟩] scope pos) spos) (zEM (zCH wi js tc te) (Wb i)) :=
 zJD hN hi' hy hc (Wq hE c) hi (fun _ _ _ _=>zA5 (ht _ _ _ _)) he hsw hf hs
end
end L2
namespace L2
open PySem PySem.Spec PyProof.Rows
section
variable {X:Cx}
def dd (ns:List Int):Nat:=(firstMet (fun i=>ns.getD i 0) ns.length).length
end
end L2
namespace L2
open PySem PySem.Spec PyProof.Rows
end L2
namespace L2
open PySem PySem.Spec PyProof.Rows
theorem zHa {H:Hp} {a b:Int} {x:V} (h:IsKo H (some (.tup [.num a,.num b])) x):∃ t,x=.ref t/\H t=some (.tup [.int a,.int b]):=by
 have h:IsK H (.tup [.num a,.num b]) x:=h
 unfold IsK at h
 obtain⟨t,vs,rfl,ht,_,hk⟩:=h
 unfold IsKs at hk
 obtain⟨v,vr,rfl,h1,h2⟩:=hk
 unfold IsKs at h2
 obtain⟨w,wr,rfl,h3,h4⟩:=h2
 unfold IsKs at h4
 subst h4
 rw[IsK.num_eq h1,IsK.num_eq h3] at ht
 exact⟨t,rfl,ht⟩
end L2
namespace L2
open PySem PySem.Spec PyProof.Rows
def NN (x:V):Bool := !decide (x=V.non)
def Kp (xs:List V):List V:=xs.filter NN
def Kb (xs ys:List V):List V:=((xs.zip ys).filter fun p=>NN p.1).map (·.2)
theorem zKX {xs:List V} {x:V}:Kp (xs++[x])=if NN x=true then Kp xs++[x] else Kp xs:=by
 unfold Kp
 rw[List.filter_append]
 split <;> simp[List.filter, *]
theorem zJt {xs ys:List V} {x y:V} (h:xs.length=ys.length):Kb (xs++[x]) (ys++[y])=if NN x=true then Kb xs ys++[y] else Kb xs ys:=by
 unfold Kb
 rw[List.zip_append h,List.filter_append,List.map_append]
 split <;> simp[List.filter, *]
theorem zLw {xs:List V}:(Kp xs).length<=xs.length:=List.length_filter_le _ _
theorem Wr {α:Type} {l:List α} {i:Nat} {x:α} (h:l[i]? = some x):l.take (i+1)=l.take i++[x]:=by
 rw[List.take_add_one,h];rfl
theorem zJg {H:Hp} {Q:VK}:rEq .non .non H Q=Q (.bl true) H:=propext ⟨fun h=>h.2,fun h=>⟨rfl,h⟩⟩
theorem zGD {n:Nat}:(List.replicate n true).all id=true:=by rw[List.all_replicate];simp
end L2
namespace L2
theorem zFV {s:Int} (hs:s % 2=1):∀ (k:Nat) (d:Int),(2:Int) ^ k ∣ d*s->(2:Int) ^ k ∣ d
 | 0,d,_=>by rw[Int.pow_zero];exact Int.one_dvd d
 | k+1,d,h=>by
  have h1:(2:Int) ^ k ∣ d*s:=Int.dvd_trans ⟨2,by rw[Int.pow_succ]⟩ h
  obtain⟨t,rfl⟩:=zFV hs k d h1
  have hp:(2:Int) ^ k ≠ 0:=Int.ne_of_gt (Int.pow_pos (by decide))
  rw[Int.pow_succ,Int.mul_assoc] at h
  have h2:(2:Int) ∣ t*s:=Int.dvd_of_mul_dvd_mul_left hp h
  obtain⟨u,hu⟩:∃ u,s=2*u+1:=⟨s / 2,by omega⟩
  have h3:(2:Int) ∣ t:=by
   rw[hu,Int.mul_add,Int.mul_one] at h2
   have e:t*(2*u)=2*(t*u):=by rw[← Int.mul_assoc,Int.mul_comm t 2,Int.mul_assoc]
   rw[e] at h2
   generalize t*u=z at h2
   omega
  obtain⟨w,rfl⟩:=h3
  exact⟨w,by rw[Int.pow_succ,Int.mul_assoc]⟩
theorem zJN {s:Int} (hs:s % 2=1) {k:Nat} {m i j:Int} (h0:0<=i) (h1:i < 2 ^ k) (h2:0<=j) (h3:j < 2 ^ k) (h:(m+i*s) % 2 ^ k=(m+j*s) % 2 ^ k):i=j:=by
 have e:((m+i*s) - (m+j*s)) % 2 ^ k=0:=Int.emod_eq_emod_iff_emod_sub_eq_zero.mp h
 have e2:(m+i*s) - (m+j*s)=(i - j)*s:=by rw[Int.sub_mul];omega
 rw[e2] at e
 obtain⟨t,ht⟩:=zFV hs k _ (Int.dvd_of_emod_eq_zero e)
 have hp:(0:Int) < 2 ^ k:=Int.pow_pos (by decide)
 generalize (2:Int) ^ k=M at *
 have ht0:t=0:=by
  by_cases c:0 < t
  ·have:M*1<=M*t:=Int.mul_le_mul_of_nonneg_left (by omega) (by omega)
   omega
  ·by_cases c2:t < 0
   ·have:M*t<=M*(-1):=Int.mul_le_mul_of_nonneg_left (by omega) (by omega)
    omega
   ·omega
 rw[ht0,Int.mul_zero] at ht
 omega
theorem zDs {s:Int} (hs:s % 2=1) (m r:Int):∀ k:Nat,∃ c:Int,0<=c/\c < 2 ^ k/\(2:Int) ^ k ∣ m+c*s - r
 | 0=>⟨0,by omega,by decide,by rw[Int.pow_zero];exact Int.one_dvd _⟩
 | k+1=>by
  obtain⟨c,h0,h1,t,ht⟩:=zDs hs m r k
  have hp:(0:Int) < 2 ^ k:=Int.pow_pos (by decide)
  by_cases e:t % 2=0
  ·refine⟨c,h0,by rw[Int.pow_succ];omega,t / 2,?_⟩
   rw[ht,Int.pow_succ,Int.mul_assoc]
   congr 1
   omega
  ·refine⟨c+2 ^ k,by omega,by rw[Int.pow_succ];omega,(t+s) / 2,?_⟩
   have e1:m+(c+2 ^ k)*s - r=2 ^ k*(t+s):=by
    rw[Int.add_mul,Int.mul_add,← ht]
    omega
   rw[e1,Int.pow_succ,Int.mul_assoc]
   congr 1
   omega
end L2
namespace L2
open PySem
theorem zFD (n:Nat):n ||| 1=n+1 - n % 2:=by
 have e1:n=2 ^ 1*(n / 2)+n % 2:=by omega
 have e2:2 ^ 1*(n / 2)+n % 2=2 ^ 1*(n / 2) ||| n % 2:=Nat.two_pow_add_eq_or_of_lt (by omega) _
 have e3:2 ^ 1*(n / 2)+1=2 ^ 1*(n / 2) ||| 1:=Nat.two_pow_add_eq_or_of_lt (by omega) _
 have e4:n % 2 ||| 1=1:=by
  have:n % 2=0\/n % 2=1:=by omega
  rcases this with h | h <;> rw[h] <;> rfl
 have e5:n ||| 1=2 ^ 1*(n / 2)+1:=by
  calc n ||| 1=(2 ^ 1*(n / 2)+n % 2) ||| 1:=by rw[← e1]
   _=(2 ^ 1*(n / 2) ||| n % 2) ||| 1:=by rw[e2]
   _=2 ^ 1*(n / 2) ||| (n % 2 ||| 1):=Nat.or_assoc ..
   _=2 ^ 1*(n / 2) ||| 1:=by rw[e4]
   _=2 ^ 1*(n / 2)+1:=e3.symm
 omega
theorem zG8 {z:Int} (h:0<=z):Builtin.bitOr z 1=z+1 - z % 2:=by
 unfold Builtin.bitOr Builtin.bitAnd Builtin.bitNot
 rw[decide_eq_false (by omega)]
 have e:(-(-z - 1) - 1:Int).toNat=z.toNat:=by omega
 have e2:(-(-1 - 1) - 1:Int).toNat=1:=by decide
 show -(-((((-(-z - 1) - 1:Int).toNat ||| (-(-1 - 1) - 1:Int).toNat:Nat)):Int) - 1) - 1=_
 rw[e,e2,zFD]
 omega
def std (m:Int):Int:=m / 32+1 - m / 32 % 2
theorem zFv (m:Int):std m % 2=1:=by unfold std;omega
def pr (m s:Int) (c:Nat):Int:=(m+(c:Int)*std m) % s
theorem zEH {m s:Int} {c:Nat} (hs:0 < s):0<=pr m s c/\pr m s c < s:=⟨Int.emod_nonneg _ (by omega),Int.emod_lt_of_pos _ hs⟩
def IsP2 (s:Int):Prop:=∃ k:Nat,s=2 ^ k
theorem IsP2.pos {s:Int} (h:IsP2 s):0 < s:=by obtain⟨k,rfl⟩:=h;exact Int.pow_pos (by decide)
theorem zMS {m s:Int} (h:IsP2 s) {i j:Nat} (hi:(i:Int) < s) (hj:(j:Int) < s) (e:pr m s i=pr m s j):i=j:=by
 obtain⟨k,rfl⟩:=h
 have:=zJN (zFv m) (m:=m) (k:=k) (i:=i) (j:=j) (by omega) hi (by omega) hj e
 omega
theorem zKP {m s:Int} (h:IsP2 s) (r:Int):∃ c:Nat,(c:Int) < s/\pr m s c=r % s:=by
 obtain⟨k,rfl⟩:=h
 obtain⟨c,h0,h1,h2⟩:=zDs (zFv m) m r k
 refine⟨c.toNat,by omega,?_⟩
 unfold pr
 rw[Int.toNat_of_nonneg h0]
 exact Int.emod_eq_emod_iff_emod_sub_eq_zero.mpr (Int.emod_eq_zero_of_dvd h2)
theorem Qn {n:Nat} (h:n<=5000):n < sizeLine:=by
 have:5000 < sizeLine:=by decide
 omega
def S8 (i:Int):Prop:=i=8\/i=16\/i=32\/i=64\/i=128\/i=256\/i=512\/i=1024\/i=2048\/i=4096
instance (i:Int):Decidable (S8 i):=by unfold S8;infer_instance
theorem S8.p2 {i:Int} (h:S8 i):IsP2 i:=by
 unfold S8 at h
 rcases h with rfl | rfl | rfl | rfl | rfl | rfl | rfl | rfl | rfl | rfl
 ·exact⟨3,rfl⟩
 ·exact⟨4,rfl⟩
 ·exact⟨5,rfl⟩
 ·exact⟨6,rfl⟩
 ·exact⟨7,rfl⟩
 ·exact⟨8,rfl⟩
 ·exact⟨9,rfl⟩
 ·exact⟨10,rfl⟩
 ·exact⟨11,rfl⟩
 ·exact⟨12,rfl⟩
theorem S8.range {i:Int} (h:S8 i):8<=i/\i<=4096/\i % 2=0:=by unfold S8 at h;omega
theorem zNP:∀ n:Nat,n < 4097->8<=n->(decide (Builtin.bitAnd (n:Int) ((n:Int) - 1)=0)=decide (S8 (n:Int))):=by decide +kernel
theorem zM6 {i:Int} (h1:8<=i) (h2:i<=4096):decide (Builtin.bitAnd i (i - 1)=0)=decide (S8 i):=by
 have e:i=((i.toNat:Nat):Int):=by omega
 have h:=zNP i.toNat (by omega) (by omega)
 rwa [← e] at h
theorem S8.double {k:Int} (h:S8 k) (h1:k < 4096):S8 (2*k):=by
 unfold S8 at h ⊢
 rcases h with h | h | h | h | h | h | h | h | h | h <;> subst h <;> simp at h1 ⊢
end L2
namespace L2
open PySem
def sl (m:Int) (n c:Nat):Nat:=(pr m (n:Int) c).toNat
theorem zAw {m:Int} {n c:Nat} (hn:0 < n):((sl m n c:Nat):Int)=pr m n c:=by
 unfold sl
 exact Int.toNat_of_nonneg (zEH (by omega)).1
theorem zBN {m:Int} {n c:Nat} (hn:0 < n):sl m n c < n:=by
 have h:=(zEH (m:=m) (s:=(n:Int)) (c:=c) (by omega)).2
 have h0:=zAw (m:=m) (c:=c) hn
 omega
theorem zMG {m:Int} {n i j:Nat} (h:IsP2 (n:Int)) (hi:i < n) (hj:j < n) (e:sl m n i=sl m n j):i=j:=by
 have hn:0 < n:=by omega
 refine zMS h (by omega) (by omega) ?_ (m:=m)
 rw[← zAw hn,← zAw hn,e]
theorem zKL {m:Int} {n r:Nat} (h:IsP2 (n:Int)) (hr:r < n):∃ c,c < n/\sl m n c=r:=by
 obtain⟨c,h1,h2⟩:=zKP (m:=m) h (r:Int)
 refine⟨c,by omega,?_⟩
 unfold sl
 rw[h2,Int.emod_eq_of_lt (by omega) (by omega)]
 omega
def cAt (cs:List Int) (m:Int) (c:Nat):Int:=(cs[sl m cs.length c]?).getD 0
theorem ZX {cs:List Int} {m:Int} {c:Nat} (h:0 < cs.length):cs[sl m cs.length c]? = some (cAt cs m c):=by
 unfold cAt
 rw[List.getElem?_eq_getElem (zBN h)];rfl
theorem zJw {cs:List Int} {m:Int} {c:Nat} (h:0 < cs.length):cAt cs m c∈cs:=List.mem_of_getElem? (ZX h)
def IsFirst (P:Nat->Prop) (n c:Nat):Prop:=c < n/\P c/\∀ i,i < c->¬ P i
theorem zBY {P:Nat->Prop} {n:Nat} (h:∃ c,c < n/\P c):∃ c,IsFirst P n c:=by
 classical
 obtain⟨c,hc,hp⟩:=h
 induction c using Nat.strongRecOn with
 | ind c ih =>
  by_cases q:∃ i,i < c/\P i
  ·obtain⟨i,hi,hpi⟩:=q
   exact ih i hi (by omega) hpi
  ·exact⟨c,hc,hp,fun i hi hpi=>q ⟨i,hi,hpi⟩⟩
theorem IsFirst.uniq {P:Nat->Prop} {n c d:Nat} (h:IsFirst P n c) (h':IsFirst P n d):c=d:=by
 obtain⟨h1,h2,h3⟩:=h
 obtain⟨g1,g2,g3⟩:=h'
 rcases Nat.lt_trichotomy c d with z | z | z
 ·exact absurd h2 (g3 c z)
 ·exact z
 ·exact absurd g2 (h3 d z)
theorem zDz {cs:List Int} {m v:Int} (h:IsP2 (cs.length:Int)) (hv:v∈cs):∃ c,c < cs.length/\cAt cs m c=v:=by
 obtain⟨i,hi,e⟩:=List.mem_iff_getElem.mp hv
 obtain⟨c,hc,hs⟩:=zKL (m:=m) h hi
 refine⟨c,hc,?_⟩
 unfold cAt
 rw[hs,List.getElem?_eq_getElem hi,e];rfl
structure Laid (st:Nat->Option Int) (n i:Nat) (cs:List Int):Prop where
 len:cs.length=n
 old:∀ (j:Nat) (v:Int),cs[j]? = some v->v = -1\/∃ p,p < i/\v=(p:Int)/\∃ m,st p=some m
 has:∀ p m,p < i->st p=some m->∃ c,c < n/\cAt cs m c=(p:Int)/\∀ c',c' < c->0<=cAt cs m c'/\cAt cs m c' < (p:Int)
 one:∀ (j k:Nat) (v:Int),cs[j]? = some v->cs[k]? = some v->v ≠ -1->j=k
 few:cs.countP (fun v=>v != -1)<=i
theorem zGi {st:Nat->Option Int} {n:Nat}:Laid st n 0 (List.replicate n (-1)) where
 len:=List.length_replicate
 old:=fun j v h=>.inl (List.eq_of_mem_replicate (List.mem_of_getElem? h))
 has:=fun p m h=>absurd h (Nat.not_lt_zero _)
 one:=fun j k v h1 h2 h3=>absurd (List.eq_of_mem_replicate (List.mem_of_getElem? h1)) h3
 few:=by rw[List.countP_replicate];simp
theorem Laid.skip {st:Nat->Option Int} {n i:Nat} {cs:List Int} (h:Laid st n i cs) (e:st i=none):Laid st n (i+1) cs where
 len:=h.len
 old:=fun j v hv=>(h.old j v hv).imp id fun ⟨p,h1,h2⟩=>⟨p,by omega,h2⟩
 has:=fun p m hp hm=>by
  by_cases z:p=i
  ·subst z;rw[e] at hm;cases hm
  ·exact h.has p m (by omega) hm
 one:=h.one
 few:=Nat.le_succ_of_le h.few
theorem JZ {cs:List Int} (h:cs.countP (fun v=>v != -1) < cs.length):(-1:Int)∈cs:=by
 by_cases c:(-1:Int)∈cs
 ·exact c
 ·exfalso
  have:cs.countP (fun v=>v != -1)=cs.length:=List.countP_eq_length.mpr fun v hv=>by
   have:v ≠ -1:=fun e=>c (e ▸ hv)
   simpa using this
  omega
theorem Laid.put {st:Nat->Option Int} {n i c:Nat} {m:Int} {cs:List Int} (h:Laid st n i cs) (e:st i=some m) (hn:0 < n) (hc:IsFirst (fun c=>cAt cs m c = -1) n c):Laid st n (i+1) (cs.set (sl m n c) (i:Int)):=by
 have hlen:=h.len
 have hsl:sl m n c < cs.length:=by rw[hlen];exact zBN hn
 obtain⟨c1,c2,c3⟩:=hc
 have hat:cs[sl m n c]? = some (-1):=by
  have:=ZX (cs:=cs) (m:=m) (c:=c) (by omega)
  rw[hlen,c2] at this
  exact this
 have get:∀ j v,(cs.set (sl m n c) (i:Int))[j]? = some v->(j=sl m n c/\v=(i:Int))\/(j ≠ sl m n c/\cs[j]? = some v):=by
  intro j v hv
  by_cases z:sl m n c=j
  ·subst z
   rw[List.getElem?_set_self hsl] at hv
   exact .inl ⟨rfl,(Option.some.inj hv).symm⟩
  ·rw[List.getElem?_set_ne z] at hv
   exact .inr ⟨fun y=>z y.symm,hv⟩
 have keepAt:∀ m' c',cAt cs m' c' ≠ -1->cAt (cs.set (sl m n c) (i:Int)) m' c'=cAt cs m' c':=by
  intro m' c' hne
  unfold cAt
  rw[List.length_set]
  have z:sl m n c ≠ sl m' cs.length c':=by
   intro z
   apply hne
   unfold cAt
   rw[← z,hat];rfl
  rw[List.getElem?_set_ne z]
 refine⟨by rw[List.length_set];exact hlen,fun j v hv=>?_,fun p m' hp hm'=>?_,fun j k v hj hk hv=>?_,?_⟩
 ·rcases get j v hv with ⟨_,rfl⟩ | ⟨_,hv⟩
  ·exact .inr ⟨i,by omega,rfl,m,e⟩
  ·exact (h.old j v hv).imp id fun ⟨p,h1,h2⟩=>⟨p,by omega,h2⟩
 ·by_cases z:p=i
  ·subst z
   rw[e] at hm'
   cases hm'
   refine⟨c,c1,?_,fun c' hc'=>?_⟩
   ·unfold cAt
    rw[List.length_set,hlen,List.getElem?_set_self hsl];rfl
   ·have hne:=c3 c' hc'
    rw[keepAt m c' hne]
    have hg:=ZX (cs:=cs) (m:=m) (c:=c') (by omega)
    rcases h.old _ _ hg with y | ⟨q,q1,q2,_⟩
    ·exact absurd y hne
    ·omega
  ·obtain⟨d,d1,d2,d3⟩:=h.has p m' (by omega) hm'
   refine⟨d,d1,?_,fun c' hc'=>?_⟩
   ·rw[keepAt m' d (by rw[d2];omega)];exact d2
   ·have:=d3 c' hc'
    rw[keepAt m' c' (by omega)];exact this
 ·rcases get j v hj with ⟨rfl,rfl⟩ | ⟨j1,hj⟩
  ·rcases get k _ hk with ⟨rfl,_⟩ | ⟨k1,hk⟩
   ·rfl
   ·rcases h.old k _ hk with y | ⟨q,q1,q2,_⟩
    ·exact absurd y hv
    ·omega
  ·rcases get k v hk with ⟨rfl,rfl⟩ | ⟨k1,hk⟩
   ·rcases h.old j _ hj with y | ⟨q,q1,q2,_⟩
    ·exact absurd y hv
    ·omega
   ·exact h.one j k v hj hk hv
 ·have h1:=h.few
  have e1:(cs.set (sl m n c) (i:Int)).countP (fun v=>v != -1)<=cs.countP (fun v=>v != -1)+1:=by
   rw[List.countP_set hsl]
   split <;> split <;> omega
  omega
inductive LB (st:Nat->Option Int) (n:Nat):Nat->List Int->Prop
 | zero:LB st n 0 (List.replicate n (-1))
 | skip {i:Nat} {cs:List Int}:LB st n i cs->st i=none->LB st n (i+1) cs
 | put {i c:Nat} {m:Int} {cs:List Int}:LB st n i cs->st i=some m->IsFirst (fun c=>cAt cs m c = -1) n c->LB st n (i+1) (cs.set (sl m n c) (i:Int))
theorem LB.laid {st:Nat->Option Int} {n i:Nat} {cs:List Int} (hn:0 < n) (h:LB st n i cs):Laid st n i cs:=by
 induction h with
 | zero=>exact zGi
 | skip _ e ih=>exact ih.skip e
 | put _ e hc ih=>exact ih.put e hn hc
theorem LB.room {st:Nat->Option Int} {n i:Nat} {cs:List Int} (h:LB st n i cs) (hi:i < n) (h2:IsP2 (n:Int)) (m:Int):∃ c,IsFirst (fun c=>cAt cs m c = -1) n c:=by
 have L:=h.laid (by omega)
 have hl:=L.len
 refine zBY ?_
 rw[← hl] at h2
 obtain⟨c,c1,c2⟩:=zDz (m:=m) h2 (JZ (cs:=cs) (by have:=L.few;omega))
 exact⟨c,by omega,c2⟩
end L2
namespace L2
open PySem PySem.Spec PyProof.Rows
def stO (os:List (Option Kd)) (p:Nat):Option Int:=match os[p]? with
 | some (some k)=>some k.st
 | _=>none
def YW (os:List (Option Kd)) (k:Kd) (v:Int):Prop:=v = -1\/(0<=v/\os[v.toNat]? = some (some k))
instance (os:List (Option Kd)) (k:Kd) (v:Int):Decidable (YW os k v):=by unfold YW;infer_instance
def pap (cs:List Int) (m:Int) (c:Nat):List (Option Kd):=(List.range (c+1)).map fun i=>some (.tup [.num (sl m cs.length i:Nat),.num (cAt cs m i)])
structure Fm (n:Nat) (cs:List Int) (os:List (Option Kd)):Prop where
 len:cs.length=n
 p2:IsP2 (n:Int)
 few:cs.countP (fun v=>v != -1)=os.length
 room:os.length < n
 good:∀ (j:Nat) (v:Int),cs[j]? = some v->v = -1\/v = -2\/∃ (p:Nat) (k:Kd),v=(p:Int)/\os[p]? = some (some k)
 has:∀ (p:Nat) (k:Kd),os[p]? = some (some k)->∃ c,c < n/\cAt cs k.st c=(p:Int)/\∀ c',c' < c->cAt cs k.st c' ≠ -1
 one:∀ (i j:Nat) (v:Int),cs[i]? = some v->cs[j]? = some v->0<=v->i=j
 keys:∀ (p q:Nat) (k:Kd),os[p]? = some (some k)->os[q]? = some (some k)->p=q
section
variable {n:Nat} {cs:List Int} {os:List (Option Kd)} {k:Kd} {c p:Nat}
theorem Fm.zero (h2:IsP2 (n:Int)):Fm n (List.replicate n (-1)) [] where
 len:=List.length_replicate
 p2:=h2
 few:=by rw[List.countP_replicate];simp
 room:=by have:=h2.pos;show 0 < n;omega
 good:=fun j v h=>.inl (List.eq_of_mem_replicate (List.mem_of_getElem? h))
 has:=fun p k h=>by simp at h
 one:=fun i j v h1 h2 h3=>by
  have:=List.eq_of_mem_replicate (List.mem_of_getElem? h1)
  omega
 keys:=fun p q k h=>by simp at h
theorem Fm.pos (F:Fm n cs os):0 < n:=Nat.lt_of_le_of_lt (Nat.zero_le _) F.room
theorem Fm.at (F:Fm n cs os) (m:Int) (c:Nat):cs[sl m n c]? = some (cAt cs m c):=by
 have:=ZX (cs:=cs) (m:=m) (c:=c) (by rw[F.len];exact F.pos)
 rw[F.len] at this
 exact this
theorem Fm.there (F:Fm n cs os) (h:os[p]? = some (some k)):∃ c,IsFirst (fun c=>YW os k (cAt cs k.st c)) n c/\cAt cs k.st c=(p:Int):=by
 obtain⟨c,h1,h2,h3⟩:=F.has p k h
 refine⟨c,⟨h1,.inr ⟨by omega,by rw[h2];simpa using h⟩,fun i hi hs=>?_⟩,h2⟩
 rcases hs with e | ⟨e1,e2⟩
 ·exact h3 i hi e
 ·have e3:=F.keys _ _ _ e2 h
  have e4:cAt cs k.st i=(p:Int):=by omega
  have a1:=F.at k.st i
  have a2:=F.at k.st c
  rw[e4] at a1
  rw[h2] at a2
  have e5:=F.one _ _ _ a1 a2 (by omega)
  have e6:=zMG F.p2 (by omega) h1 e5
  omega
theorem Fm.stops (F:Fm n cs os) (m:Int):∃ c,c < n/\cAt cs m c = -1:=by
 have h:=zDz (cs:=cs) (m:=m) (v := -1) (by rw[F.len];exact F.p2) (JZ (by rw[F.few,F.len];exact F.room))
 rw[F.len] at h
 exact h
theorem Fm.lacks (F:Fm n cs os) (h:∀ p:Nat,os[p]? ≠ some (some k)):∃ c,IsFirst (fun c=>YW os k (cAt cs k.st c)) n c/\cAt cs k.st c = -1:=by
 obtain⟨c0,h0,e0⟩:=F.stops k.st
 obtain⟨c,hc⟩:=zBY (P:=fun c=>YW os k (cAt cs k.st c)) ⟨c0,h0,.inl e0⟩
 refine⟨c,hc,?_⟩
 rcases hc.2.1 with e | ⟨_,e⟩
 ·exact e
 ·exact absurd e (h _)
theorem Ze {cs:List Int} {j:Nat} {x:Int} (hj:j < cs.length) {i:Nat} {v:Int} (h:(cs.set j x)[i]? = some v):(i=j/\v=x)\/(i ≠ j/\cs[i]? = some v):=by
 by_cases z:j=i
 ·subst z
  rw[List.getElem?_set_self hj] at h
  exact .inl ⟨rfl,(Option.some.inj h).symm⟩
 ·rw[List.getElem?_set_ne z] at h
  exact .inr ⟨fun y=>z y.symm,h⟩
theorem zAf {cs:List Int} {j:Nat} {x:Int} {m:Int} {c:Nat}:cAt (cs.set j x) m c=if sl m cs.length c=j/\j < cs.length then x else cAt cs m c:=by
 unfold cAt
 rw[List.length_set]
 by_cases z:sl m cs.length c=j
 ·by_cases hj:j < cs.length
  ·rw[if_pos ⟨z,hj⟩,z,List.getElem?_set_self hj];rfl
  ·rw[if_neg (fun y=>hj y.2),z,List.getElem?_eq_none (by rw[List.length_set];omega),List.getElem?_eq_none (by omega)]
 ·rw[if_neg (fun y=>z y.1),List.getElem?_set_ne (fun y=>z y.symm)]
theorem WP {α:Type} {l:List α} {x y:α} {i:Nat} (h:(l++[x])[i]? = some y):l[i]? = some y\/(i=l.length/\y=x):=by
 rcases Nat.lt_trichotomy i l.length with z | z | z
 ·rw[List.getElem?_append_left z] at h;exact .inl h
 ·subst z
  rw[List.getElem?_append_right (Nat.le_refl _),Nat.sub_self] at h
  simp at h
  exact .inr ⟨rfl,h.symm⟩
 ·rw[List.getElem?_eq_none (by rw[List.length_append];simp;omega)] at h;cases h
theorem zGy {α:Type} {l:List α} {x y:α} {i:Nat} (h:l[i]? = some y):(l++[x])[i]? = some y:=by
 rw[List.getElem?_append_left (List.getElem?_eq_some_iff.mp h).1];exact h
theorem Fm.put (F:Fm n cs os) (h:∀ p:Nat,os[p]? ≠ some (some k)) (hc:IsFirst (fun c=>YW os k (cAt cs k.st c)) n c) (hr:os.length+1 < n):Fm n (cs.set (sl k.st n c) (os.length:Int)) (os++[some k]):=by
 have hl:=F.len
 have hsl:sl k.st n c < cs.length:=by rw[hl];exact zBN F.pos
 have e1:cAt cs k.st c = -1:=by
  rcases hc.2.1 with e | ⟨_,e⟩
  ·exact e
  ·exact absurd e (h _)
 have hat:cs[sl k.st n c]? = some (-1):=by have:=F.at k.st c;rw[e1] at this;exact this
 have keep:∀ m' c',cAt cs m' c' ≠ -1->cAt (cs.set (sl k.st n c) (os.length:Int)) m' c'=cAt cs m' c':=fun m' c' hne=>by
  rw[zAf,if_neg]
  rintro ⟨z,_⟩
  apply hne
  rw[hl] at z
  have:=F.at m' c'
  rw[z,hat] at this
  exact (Option.some.inj this).symm
 refine⟨by rw[List.length_set];exact hl,F.p2,?_,by rw[List.length_append];exact hr,fun j v hv=>?_,fun p k' hp=>?_,fun i j v hi hj h0=>?_,fun p q k' hp hq=>?_⟩
 ·rw[List.countP_set hsl,List.length_append]
  have e2:cs[sl k.st n c] = -1:=by
   rw[List.getElem?_eq_getElem hsl] at hat
   exact Option.some.inj hat
  rw[e2]
  have:=F.few
  have b1:((os.length:Int) != -1)=true:=by simp
  simp only[b1,if_true,bne_self_eq_false,Bool.false_eq_true,if_false,List.length_singleton]
  omega
 ·rcases Ze hsl hv with ⟨_,rfl⟩ | ⟨_,hv⟩
  ·exact .inr (.inr ⟨os.length,k,rfl,by simp⟩)
  ·rcases F.good j v hv with e | e | ⟨p,k',e,hp⟩
   ·exact .inl e
   ·exact .inr (.inl e)
   ·exact .inr (.inr ⟨p,k',e,zGy hp⟩)
 ·rcases WP hp with hp | ⟨e,ek⟩
  ·obtain⟨d,d1,d2,d3⟩:=F.has p k' hp
   refine⟨d,d1,?_,fun c' hc'=>?_⟩
   ·rw[keep _ _ (by rw[d2];omega)];exact d2
   ·rw[keep _ _ (d3 c' hc')];exact d3 c' hc'
  ·subst e
   cases ek
   refine⟨c,hc.1,?_,fun c' hc'=>?_⟩
   ·rw[zAf,if_pos ⟨by rw[hl],hsl⟩]
   ·have hne:cAt cs k.st c' ≠ -1:=fun e=>hc.2.2 c' hc' (.inl e)
    rw[keep _ _ hne];exact hne
 ·have lt:∀ (j:Nat) (v:Int),cs[j]? = some v->0<=v->v < os.length:=fun j v hv hv0=>by
   rcases F.good j v hv with e | e | ⟨p,k',e,hp⟩
   ·omega
   ·omega
   ·have:=(List.getElem?_eq_some_iff.mp hp).1;omega
  rcases Ze hsl hi with ⟨i1,i2⟩ | ⟨i1,hi⟩
  ·rcases Ze hsl hj with ⟨j1,j2⟩ | ⟨j1,hj⟩
   ·omega
   ·have:=lt j v hj h0;omega
  ·rcases Ze hsl hj with ⟨j1,j2⟩ | ⟨j1,hj⟩
   ·have:=lt i v hi h0;omega
   ·exact F.one i j v hi hj h0
 ·rcases WP hp with hp | ⟨ep,ek⟩
  ·rcases WP hq with hq | ⟨eq,ek⟩
   ·exact F.keys p q k' hp hq
   ·cases ek;exact absurd hp (h p)
  ·rcases WP hq with hq | ⟨eq,ek'⟩
   ·cases ek;exact absurd hq (h q)
   ·omega
theorem Fm.take (F:Fm n cs os) (h:os[p]? = some (some k)) (hc:IsFirst (fun c=>YW os k (cAt cs k.st c)) n c):Fm n (cs.set (sl k.st n c) (-2)) (os.set p none):=by
 have hl:=F.len
 have hsl:sl k.st n c < cs.length:=by rw[hl];exact zBN F.pos
 obtain⟨c',hc',e'⟩:=F.there h
 have ec:=hc.uniq hc'
 subst ec
 have hp:p < os.length:=(List.getElem?_eq_some_iff.mp h).1
 have hat:cs[sl k.st n c]? = some (p:Int):=by have:=F.at k.st c;rw[e'] at this;exact this
 have row:∀ (q:Nat) (k':Kd),(os.set p none)[q]? = some (some k')->q ≠ p/\os[q]? = some (some k'):=fun q k' hq=>by
  by_cases z:p=q
  ·subst z;rw[List.getElem?_set_self hp] at hq;cases hq
  ·rw[List.getElem?_set_ne z] at hq;exact⟨fun y=>z y.symm,hq⟩
 refine⟨by rw[List.length_set];exact hl,F.p2,?_,by rw[List.length_set];exact F.room,fun j v hv=>?_,fun q k' hq=>?_,fun i j v hi hj h0=>?_,fun q r k' hq hr=>?_⟩
 ·rw[List.countP_set hsl,List.length_set]
  have e2:cs[sl k.st n c]=(p:Int):=by
   rw[List.getElem?_eq_getElem hsl] at hat
   exact Option.some.inj hat
  rw[e2]
  have:=F.few
  have b1:((p:Int) != -1)=true:=by simp
  have b2:((-2:Int) != -1)=true:=by decide
  have pos:0 < cs.countP (fun v=>v != -1):=List.countP_pos_iff.mpr ⟨(p:Int),List.mem_of_getElem? hat,b1⟩
  simp only[b1,b2,if_true]
  omega
 ·rcases Ze hsl hv with ⟨_,rfl⟩ | ⟨hj,hv⟩
  ·exact .inr (.inl rfl)
  ·rcases F.good j v hv with e | e | ⟨q,k',e,hq⟩
   ·exact .inl e
   ·exact .inr (.inl e)
   ·refine .inr (.inr ⟨q,k',e,?_⟩)
    rw[List.getElem?_set_ne]
    ·exact hq
    ·intro z
     subst z
     exact hj (F.one _ _ _ hv (by rw[hat,e]) (by omega))
 ·obtain⟨hqp,hq⟩:=row q k' hq
  obtain⟨d,d1,d2,d3⟩:=F.has q k' hq
  refine⟨d,d1,?_,fun c' hc'=>?_⟩
  ·rw[zAf,if_neg]
   ·exact d2
   ·rintro ⟨z,_⟩
    rw[hl] at z
    have:=F.at k'.st d
    rw[z,hat,d2] at this
    have:=Option.some.inj this
    omega
  ·rw[zAf]
   split
   ·decide
   ·exact d3 c' hc'
 ·rcases Ze hsl hi with ⟨_,i2⟩ | ⟨_,hi⟩
  ·omega
  ·rcases Ze hsl hj with ⟨_,j2⟩ | ⟨_,hj⟩
   ·omega
   ·exact F.one i j v hi hj h0
 ·exact F.keys q r k' (row q k' hq).2 (row r k' hr).2
end
end L2
namespace L2
open PySem PySem.Spec PyProof.Rows
structure FunD (K:W.Frag) (x qual:Str) (st:Stmt) (f:Addr) (fd:FuncData) (ds:List Value):Prop where
 ex:∃ (oc:Value) (od:Option Addr) (kV doc pm:Value) (an:Option Addr) (cdv ct:Value) (osl:Array (Option Value)) (T:Addr) (o:Obj) (n:Nat),
  fd=W.fnOf x qual (YE st) (Q5 st) (QJ st) (.ref T) kV doc pm an cdv ct/\K.lookup f=some ⟨oc,od,.func fd,osl⟩/\W.codeIn K cdv qual=true/\K.lookup T=some o/\o.data=.seq ds.toArray n
 kp:W.keepIn K (.ref f)=true
section
variable {P:Program} {w:World} {K:W.Frag} {mg:Str->Option Value} {base:Heap}
theorem FunD.ok {x qual:Str} {st:Stmt} {f:Addr} {fd:FuncData} {ds:List Value} {N ps:List Str} {k:Nat} {sp:Sp} (F:FunD K x qual st f fd ds) (S:FnScope N ps (QJ st)) (len:∀ vs H Q E,sp vs H Q E->vs.length=ps.length)
  (hbody:∀ (cdv:Value) (A:Around) (outer:List Env) (s:Shared) (H:Hp) (vs:List V) (Q:VK) (E:XK),Room k (A.deeper (envOfC qual (QJ st) s.heap.objs.size f cdv))->sp vs H Q E ->
   ∃ t,PSs (zBn CX0 P w K mg base N qual (QJ st) f cdv A outer s H E).nox (Q5 st) t/\t { nx:=fun _ H'=>Q .non H',rt:=Q } (WD N vs) H):FnOk P w K mg base CX0 (k+1) f fd ps sp:=by
 obtain⟨oc,od,kV,doc,pm,an,cdv,ct,osl,T,o,n,rfl,lk,hcd,_,_⟩:=F.ex
 refine zHv lk hcd S len fun A outer s H vs Q E hr hsp=>?_
 obtain⟨t,h,q⟩:=hbody cdv A outer s H vs Q E hr hsp
 exact⟨t,h.nox,q⟩
theorem FunD.binds {x qual:Str} {st:Stmt} {f:Addr} {fd:FuncData} {ds:List Value} {ps:List Str} (es:List Value) (F:FunD K x qual st f fd ds)
  (h:∀ (T:Addr) (kV doc pm:Value) (an:Option Addr) (cdv ct:Value) (us:List Value),(us++es).length=ps.length->∃ k:Option (Array Value)->Sem (List (Str × Value)),
   bindArgs (W.fnOf x qual (YE st) (Q5 st) (QJ st) (.ref T) kV doc pm an cdv ct) ⟨us,[]⟩=seqItems? (.ref T) >>= k/\k (some ds.toArray)=pure (ps.zip (us++es))):Binds K fd ps es:=by
 obtain⟨oc,od,kV,doc,pm,an,cdv,ct,osl,T,o,n,rfl,lk,hcd,lT,hT⟩:=F.ex
 intro s us KX hl
 obtain⟨k,h1,h2⟩:=h T kV doc pm an cdv ct us hl
 exact BindsTo.of_defaults rfl (KX _ _ lT) hT h1 h2
theorem zKT {x qual:Str} {st:Stmt} {f T:Addr} {oc:Value} {od an:Option Addr} {osl:Array (Option Value)} {kV doc pm cdv ct:Value} {o:Obj} {ds:List Value} {n:Nat} (l:K.lookup f=some ⟨oc,od,.func (W.fnOf x qual (YE st) (Q5 st) (QJ st) (.ref T) kV doc pm an cdv ct),osl⟩)
  (c:W.codeIn K cdv qual=true) (k:W.keepIn K (.ref f)=true) (lT:K.lookup T=some o) (hT:o.data=.seq ds.toArray n):FunD K x qual st f (W.fnOf x qual (YE st) (Q5 st) (QJ st) (.ref T) kV doc pm an cdv ct) ds:=⟨⟨oc,od,kV,doc,pm,an,cdv,ct,osl,T,o,n,rfl,l,c,lT,hT⟩,k⟩
end
end L2
namespace L2
open PySem PySem.Spec PyProof.Rows
def ZM (K:W.Frag) (f:Str):V->Hp->VK->Prop
 | .ref a,H,Q=>match H a with
  | some (.ins C _ fs)=>Cls K C/\NoAttr K C f/\(match fs.lookup f with | some v=>Q v H | none=>False)
  | _=>False
 | _,_,_=>False
def zHi (K:W.Frag) (f:Str) (y:V):V->Hp->(Hp->Prop)->Prop
 | .ref a,H,N=>match H a with
  | some (.ins C dx fs)=>Cls K C/\NoAttr K C f/\fs.length < 1000/\N (upd H a (.ins C dx (Qr f y fs)))
  | _=>False
 | _,_,_=>False
def zBC (C:Addr) (m:Str):V->Hp->(Hp->Prop)->Prop
 | .ref a,H,N=>match H a with
  | some (.ins D _ fs)=>D=C/\fs.lookup m=none/\N H
  | _=>False
 | _,_,_=>False
def zKz (K:W.Frag) (ta:TE) (f:Str):TE:=fun σ H Q=>ta σ H fun x H1=>ZM K f x H1 Q
def zKl (K:W.Frag) (ta tv:TE) (f:Str):TS:=fun D σ H=>tv σ H fun y H1=>ta σ H1 fun x H2=>zHi K f y x H2 (D.nx σ)
def zK2 (K:W.Frag) (ta tv:TE) (rd:V->V->Hp->VK->Prop) (f:Str):TS:=fun D σ H=>ta σ H fun x H1=>ZM K f x H1 fun v H1'=>tv σ H1' fun y H2=>rd v y H2 fun z H3=>zHi K f z x H3 (D.nx σ)
def zEv (C:Addr) (m:Str) (sp:Sp) (dvs:List V) (E:XK) (ta:TE) (t:TA):TE:=fun σ H Q=>ta σ H fun x H1=>zBC C m x H1 fun H1=>t σ H1 fun vs H2=>sp (x::(vs++dvs)) H2 Q E
section
variable {K:W.Frag} {H:Hp} {Q:VK} {N:Hp->Prop} {p C dx:Addr} {fs:List (Str × V)} {f m:Str} {v y:V}
theorem zFn {x:V} (h:ZM K f x H Q):∃ a C dx fs v,x=.ref a/\H a=some (.ins C dx fs)/\Cls K C/\NoAttr K C f/\fs.lookup f=some v/\Q v H:=by
 match x,h with
 | .ref a,h =>
  have h':(match H a with | some (.ins C _ fs)=>Cls K C/\NoAttr K C f/\(match fs.lookup f with | some v=>Q v H | none=>False) | _=>False):=h
  cases e:H a with
  | none=>rw[e] at h';exact h'.elim
  | some o =>
   rw[e] at h'
   cases o with
   | ins C dx fs =>
    obtain⟨h1,h2,h3⟩:=(show Cls K C/\NoAttr K C f/\(match fs.lookup f with | some v=>Q v H | none=>False) from h')
    cases e2:fs.lookup f with
    | none=>rw[e2] at h3;exact h3.elim
    | some v=>rw[e2] at h3;exact⟨a,C,dx,fs,v,rfl,e,h1,h2,e2,h3⟩
   | _=>exact h'.elim
theorem zGG {x:V} (h:zHi K f y x H N):∃ a C dx fs,x=.ref a/\H a=some (.ins C dx fs)/\Cls K C/\NoAttr K C f/\fs.length < 1000/\N (upd H a (.ins C dx (Qr f y fs))):=by
 match x,h with
 | .ref a,h =>
  have h':(match H a with | some (.ins C dx fs)=>Cls K C/\NoAttr K C f/\fs.length < 1000/\N (upd H a (.ins C dx (Qr f y fs))) | _=>False):=h
  cases e:H a with
  | none=>rw[e] at h';exact h'.elim
  | some o =>
   rw[e] at h'
   cases o with
   | ins C dx fs=>exact⟨a,C,dx,fs,rfl,e,h'⟩
   | _=>exact h'.elim
theorem JL {x:V} (h:zBC C m x H N):∃ a dx fs,x=.ref a/\H a=some (.ins C dx fs)/\fs.lookup m=none/\N H:=by
 match x,h with
 | .ref a,h =>
  have h':(match H a with | some (.ins D _ fs)=>D=C/\fs.lookup m=none/\N H | _=>False):=h
  cases e:H a with
  | none=>rw[e] at h';exact h'.elim
  | some o =>
   rw[e] at h'
   cases o with
   | ins D dx fs =>
    obtain⟨rfl,h2,h3⟩:=(show D=C/\fs.lookup m=none/\N H from h')
    exact⟨a,dx,fs,rfl,e,h2,h3⟩
   | _=>exact h'.elim
theorem Qc (h:H p=some (.ins C dx fs)) (c:Cls K C) (n:NoAttr K C f) (l:fs.lookup f=some v):ZM K f (.ref p) H Q=Q v H:=by
 show (match H p with | some (.ins C _ fs)=>Cls K C/\NoAttr K C f/\(match fs.lookup f with | some v=>Q v H | none=>False) | _=>False)=_
 rw[h]
 show (Cls K C/\NoAttr K C f/\(match fs.lookup f with | some v=>Q v H | none=>False))=_
 rw[l]
 exact propext ⟨fun z=>z.2.2,fun z=>⟨c,n,z⟩⟩
theorem Qp (h:H p=some (.ins C dx fs)) (c:Cls K C) (n:NoAttr K C f) (l:fs.length < 1000):zHi K f y (.ref p) H N=N (upd H p (.ins C dx (Qr f y fs))):=by
 show (match H p with | some (.ins C dx fs)=>Cls K C/\NoAttr K C f/\fs.length < 1000/\N (upd H p (.ins C dx (Qr f y fs))) | _=>False)=_
 rw[h]
 exact propext ⟨fun z=>z.2.2.2,fun z=>⟨c,n,l,z⟩⟩
theorem ZQ (h:H p=some (.ins C dx fs)) (l:fs.lookup m=none):zBC C m (.ref p) H N=N H:=by
 show (match H p with | some (.ins D _ fs)=>D=C/\fs.lookup m=none/\N H | _=>False)=_
 rw[h]
 exact propext ⟨fun z=>z.2.2,fun z=>⟨rfl,l,z⟩⟩
end
section
variable {X:Cx} {o e value:Expr} {f:Str} {pos pos' tpos:Pos} {ta tv:TE}
theorem QU (he:PE X e ta) (hb:attributeBase e f X.env (eval e X.env)=eval e X.env):PE X (.Attribute e f pos) (zKz X.K ta f):=by
 intro pins s σ H Q I h
 refine zKF hb (thn (he pins s σ H _ I h) fun u s1 ⟨x,H1,I1,rx,q0⟩=>?_)
 obtain⟨a,C,dx,fs,v,ex,ea,c,n,l,q⟩:=zFn q0
 subst ex
 obtain rfl:u=Value.ref a:=rx
 exact zAo I1 ea c n l fun u' s2 I2 ru=>⟨v,H1,I2,ru,q⟩
theorem Q4 (ha:PE X o ta) (hv:PE X value tv) (hs:swapsWith value (some (.Attribute o f pos')) pos.line X.env=pure false):PS X (.Assign [.Attribute o f pos'] value pos) (zKl X.K ta tv f):=by
 intro pins s σ H D I h
 refine plainObj_wpAny_Assign_Attribute (thn (hv pins s σ H _ I h) fun u s1 ⟨y,H1,I1,ry,q⟩=>thn (ha pins s1 σ H1 _ I1 q) fun ov s2 ⟨x,H2,I2,rx,q0⟩=>?_) hs
 obtain⟨a,C,dx,fs,ex,ea,c,n,l,q2⟩:=zGG q0
 subst ex
 obtain rfl:ov=Value.ref a:=rx
 exact zAq I2 ea c n l ry fun s3 I3=>⟨σ,_,I3,q2⟩
theorem JC {op:Operator} {rd:V->V->Hp->VK->Prop} (ha:PE X o ta) (hv:PE X value tv) (hop:zMZ X op rd):PS X (.AugAssign (.Attribute o f tpos) op value pos) (zK2 X.K ta tv rd f):=by
 intro pins s σ H D I h
 refine wpAny_AugAssign_AttributeAny (thn (ha pins s σ H _ I h) fun ov s1 ⟨x,H1,I1,rx,q0⟩=>?_)
 obtain⟨a,C,dx,fs,v,ex,ea,c,n,l,q⟩:=zFn q0
 subst ex
 obtain rfl:ov=Value.ref a:=rx
 refine zAo I1 ea c n l fun u s2 I2 ru=>thn (hv pins s2 σ H1 _ I2 q) fun w3 s3 ⟨y,H2,I3,ry,q3⟩=>thn (hop pins s3 σ H2 v y u w3 _ I3 ru ry q3) fun w4 s4 ⟨z,H3,I4,rz,q4⟩=>?_
 obtain⟨a',C',dx',fs',ex',ea',c',n',l',q5⟩:=zGG q4
 cases ex'
 exact zAq I4 ea' c' n' l' rz fun s5 I5=>⟨σ,_,I5,q5⟩
end
section
variable {X:Cx} {CX:CXT} {k:Nat} {f C:Addr} {fd:FuncData} {ps:List Str} {sp:Sp} {dvs:List V} {ds:List Value} {E:XK} {x m:Str} {p pos apos:Pos} {e o:Expr} {es:List Expr} {ta:TE} {t:TA}
theorem Qq {pl:Sem Bool} (he:PE X o ta) (c:Cls X.K C) (hm:Meth X.K C m f) (F:FnOk X.prog X.w X.K X.mg X.base CX k f fd ps sp) (hr:Room k X.A) (hb:Binds X.K fd ps ds) (hd:Vals dvs ds) (hx:Yo CX X E) (ha:PA X (e::es) t)
  (hst:starEach (e::es) X.env=(false,eval e X.env)::starEach es X.env:=by rfl) (hpl:(backTo pos (starEach es X.env)).any (·.1)=false:=by rfl)
  (ht:eval (.Call (.Attribute o m apos) (e::es) [] pos) X.env=(do
   let ov ← eval o X.env
   standAt apos.atName
   let (f,first) ← holding [ov] (getMethod ov m pl)
   callWith pos f first (backTo pos (starEach (e::es) X.env)) (backToKw pos (keywordEach [] X.env))):=by rfl) :
  PE X (.Call (.Attribute o m apos) (e::es) [] pos) (zEv C m sp dvs E ta t):=by
 intro pins s σ H Q I h
 refine PySem.W.methodCall_KW (pl:=pl) (thn (he pins s σ H _ I h) fun u s1 ⟨x,H1,I1,rx,q0⟩=>?_) ht
 obtain⟨a,dx,fs,ex,ea,l,q⟩:=JL q0
 subst ex
 obtain rfl:u=Value.ref a:=rx
 refine Zb I1 ea c hm l ?_
 refine PySem.W.callWith_K (first:=[.ref a]) (h₀:=X.base) I.ok.mod.kin hm.kp (thn (ha pos pins s1 σ H1 _ I1 q) fun us s2 ⟨vs,H2,I2,r,q2⟩=>⟨I2.kIn,?_⟩) hst hpl
 exact zDF (us:=.ref a::us) (vs:=.ref a::vs) F hr hb hd hx I2 (.cons rfl r) q2
theorem Q1 {pl:Sem Bool} (he:PE X o ta) (c:Cls X.K C) (hm:Meth X.K C m f) (F:FnOk X.prog X.w X.K X.mg X.base CX k f fd ps sp) (hr:Room k X.A) (hb:Binds X.K fd ps ds) (hd:Vals dvs ds) (hx:Yo CX X E)
  (ht:eval (.Call (.Attribute o m apos) [] [] pos) X.env=(do
   let ov ← eval o X.env
   standAt apos.atName
   let (f,first) ← holding [ov] (getMethod ov m pl)
   callWith pos f first (backTo pos (starEach [] X.env)) (backToKw pos (keywordEach [] X.env))):=by rfl) :
  PE X (.Call (.Attribute o m apos) [] [] pos) (zEv C m sp dvs E ta zHG):=by
 intro pins s σ H Q I h
 refine PySem.W.methodCall_KW (pl:=pl) (thn (he pins s σ H _ I h) fun u s1 ⟨x,H1,I1,rx,q0⟩=>?_) ht
 obtain⟨a,dx,fs,ex,ea,l,q⟩:=JL q0
 subst ex
 obtain rfl:u=Value.ref a:=rx
 refine Zb I1 ea c hm l ?_
 exact PySem.W.callWith_K0 (first:=[.ref a]) I1.kIn hm.kp (zDF (us:=[.ref a]) (vs:=[.ref a]) F hr hb hd hx I1 (.cons rfl .nil) q)
end
end L2
namespace L2
open PySem PySem.Spec PyProof.Rows
theorem Jx {α:Type} {m:Str}:∀ {fs:List (Str × α)},(fs.map (·.1)).contains m=false->fs.lookup m=none
 | [],_=>rfl
 | (g,x)::r,h=>by
  rw[List.map_cons,List.contains_cons,Bool.or_eq_false_iff] at h
  rw[List.lookup_cons,h.1]
  exact Jx h.2
abbrev shK:List Str:=["cells", "size", "row", "held", "comings", "came", "went", "tidyings", "moved"]
def shF (pc:Addr) (n:Int) (pr ph pm:Addr) (ca we ti mo:Int):List (Str × V):=[("cells",.ref pc),("size",.int n),("row",.ref pr),("held",.ref ph),("comings",.ref pm),("came",.int ca),("went",.int we),("tidyings",.int ti),("moved",.int mo)]
section
variable {pc pr ph pm:Addr} {n ca we ti mo:Int}
theorem zGl:(shF pc n pr ph pm ca we ti mo).lookup ("cells" : Str)=some (.ref pc):=by kernel_rfl
theorem zBs {q:Addr}:Qr "cells" (.ref q) (shF pc n pr ph pm ca we ti mo)=shF q n pr ph pm ca we ti mo:=by kernel_rfl
theorem zEA:(shF pc n pr ph pm ca we ti mo).lookup ("size" : Str)=some (.int n):=by kernel_rfl
theorem zCq {q:Int}:Qr "size" (.int q) (shF pc n pr ph pm ca we ti mo)=shF pc q pr ph pm ca we ti mo:=by kernel_rfl
theorem zDK:(shF pc n pr ph pm ca we ti mo).lookup ("row" : Str)=some (.ref pr):=by kernel_rfl
theorem zD3 {q:Addr}:Qr "row" (.ref q) (shF pc n pr ph pm ca we ti mo)=shF pc n q ph pm ca we ti mo:=by kernel_rfl
theorem zAn:(shF pc n pr ph pm ca we ti mo).lookup ("held" : Str)=some (.ref ph):=by kernel_rfl
theorem zCo {q:Addr}:Qr "held" (.ref q) (shF pc n pr ph pm ca we ti mo)=shF pc n pr q pm ca we ti mo:=by kernel_rfl
theorem zAC:(shF pc n pr ph pm ca we ti mo).lookup ("comings" : Str)=some (.ref pm):=by kernel_rfl
theorem zAU {q:Addr}:Qr "comings" (.ref q) (shF pc n pr ph pm ca we ti mo)=shF pc n pr ph q ca we ti mo:=by kernel_rfl
theorem zA8:(shF pc n pr ph pm ca we ti mo).lookup ("came" : Str)=some (.int ca):=by kernel_rfl
theorem zCU {q:Int}:Qr "came" (.int q) (shF pc n pr ph pm ca we ti mo)=shF pc n pr ph pm q we ti mo:=by kernel_rfl
theorem zDq:(shF pc n pr ph pm ca we ti mo).lookup ("went" : Str)=some (.int we):=by kernel_rfl
theorem JJ {q:Int}:Qr "went" (.int q) (shF pc n pr ph pm ca we ti mo)=shF pc n pr ph pm ca q ti mo:=by kernel_rfl
theorem Je:(shF pc n pr ph pm ca we ti mo).lookup ("tidyings" : Str)=some (.int ti):=by kernel_rfl
theorem Jj {q:Int}:Qr "tidyings" (.int q) (shF pc n pr ph pm ca we ti mo)=shF pc n pr ph pm ca we q mo:=by kernel_rfl
theorem zB6:(shF pc n pr ph pm ca we ti mo).lookup ("moved" : Str)=some (.int mo):=by kernel_rfl
theorem zBo {q:Int}:Qr "moved" (.int q) (shF pc n pr ph pm ca we ti mo)=shF pc n pr ph pm ca we ti q:=by kernel_rfl
theorem JP:(shF pc n pr ph pm ca we ti mo).length < 1000:=by show 9 < 1000;decide
theorem zFE {m:Str} (h:shK.contains m=false):(shF pc n pr ph pm ca we ti mo).lookup m=none:=Jx h
end
def sh5 (pc:Addr) (n:Int) (pr ph pm:Addr):List (Str × V):=[("cells",.ref pc),("size",.int n),("row",.ref pr),("held",.ref ph),("comings",.ref pm)]
def sh6 (pc:Addr) (n:Int) (pr ph pm:Addr) (ca:Int):List (Str × V):=[("cells",.ref pc),("size",.int n),("row",.ref pr),("held",.ref ph),("comings",.ref pm),("came",.int ca)]
def sh7 (pc:Addr) (n:Int) (pr ph pm:Addr) (ca we:Int):List (Str × V):=[("cells",.ref pc),("size",.int n),("row",.ref pr),("held",.ref ph),("comings",.ref pm),("came",.int ca),("went",.int we)]
def sh8 (pc:Addr) (n:Int) (pr ph pm:Addr) (ca we ti:Int):List (Str × V):=[("cells",.ref pc),("size",.int n),("row",.ref pr),("held",.ref ph),("comings",.ref pm),("came",.int ca),("went",.int we),("tidyings",.int ti)]
section
variable {pc pr ph pm:Addr} {n ca we ti mo:Int}
theorem zKJ:Qr "came" (.int ca) (sh5 pc n pr ph pm )=sh6 pc n pr ph pm ca:=by kernel_rfl
theorem zKW:(sh5 pc n pr ph pm ).length < 1000:=by show 5 < 1000;decide
theorem zJT:Qr "went" (.int we) (sh6 pc n pr ph pm ca)=sh7 pc n pr ph pm ca we:=by kernel_rfl
theorem zJu:(sh6 pc n pr ph pm ca).length < 1000:=by show 6 < 1000;decide
theorem zKf:Qr "tidyings" (.int ti) (sh7 pc n pr ph pm ca we)=sh8 pc n pr ph pm ca we ti:=by kernel_rfl
theorem zJS:(sh7 pc n pr ph pm ca we).length < 1000:=by show 7 < 1000;decide
theorem zJL:Qr "moved" (.int mo) (sh8 pc n pr ph pm ca we ti)=shF pc n pr ph pm ca we ti mo:=by kernel_rfl
theorem zJK:(sh8 pc n pr ph pm ca we ti).length < 1000:=by show 8 < 1000;decide
end
structure Sh where
 dx:Addr
 pc:Addr
 pr:Addr
 ph:Addr
 pm:Addr
 n:Nat
 cs:List Int
 os:List (Option Kd)
 hs:List V
 ms:List Int
 ca:Int
 we:Int
 ti:Int
 mo:Int
structure ShAt (C:Addr) (H:Hp) (p:Addr) (S:Sh):Prop where
 ob:H p=some (.ins C S.dx (shF S.pc S.n S.pr S.ph S.pm S.ca S.we S.ti S.mo))
 hc:H S.pc=some (.lst (S.cs.map V.int))
 hr:∃ xs,H S.pr=some (.lst xs)/\IsKos H S.os xs
 hh:H S.ph=some (.lst S.hs)
 hm:H S.pm=some (.lst (S.ms.map V.int))
 ne:S.pc ≠ S.pr/\S.pc ≠ S.ph/\S.pc ≠ S.pm/\S.pr ≠ S.ph/\S.pr ≠ S.pm/\S.ph ≠ S.pm
 fm:Fm S.n S.cs S.os
 s8:S8 (S.n:Int)
 rm:3*S.os.length<=2*S.n
 l1:S.hs.length=S.os.length
 l2:S.ms.length=S.os.length
 dp:∀ o∈S.os,zMI 3 o
 cm:∀ m∈S.ms,m<=S.ca
def But (p:Addr) (S:Sh) (H H':Hp):Prop:=∀ b o,H b=some o->b ≠ p->b ≠ S.pc->b ≠ S.pr->b ≠ S.ph->b ≠ S.pm->H' b=some o
section
variable {C p:Addr} {H H' H2:Hp} {S:Sh}
theorem ShAt.same (A:ShAt C H p S) (g:Same H H'):ShAt C H' p S:=by
 obtain⟨xs,h1,h2⟩:=A.hr
 exact⟨g _ _ A.ob,g _ _ A.hc,⟨xs,g _ _ h1,h2.same g.tups⟩,g _ _ A.hh,g _ _ A.hm,A.ne,A.fm,A.s8,A.rm,A.l1,A.l2,A.dp,A.cm⟩
theorem ShAt.tups (A:ShAt C H p S) (b:But p S H H'):TupS H H':=fun c xs e=>by
 obtain⟨ys,h1,_⟩:=A.hr
 refine b c _ e (fun z=>?_) (fun z=>?_) (fun z=>?_) (fun z=>?_) (fun z=>?_)
 ·rw[z,A.ob] at e;cases e
 ·rw[z,A.hc] at e;cases e
 ·rw[z,h1] at e;cases e
 ·rw[z,A.hh] at e;cases e
 ·rw[z,A.hm] at e;cases e
theorem ShAt.lists (A:ShAt C H p S):p ≠ S.pc/\p ≠ S.pr/\p ≠ S.ph/\p ≠ S.pm:=by
 obtain⟨ys,h1,_⟩:=A.hr
 refine⟨fun z=>?_,fun z=>?_,fun z=>?_,fun z=>?_⟩
 ·have:=A.ob;rw[z,A.hc] at this;cases this
 ·have:=A.ob;rw[z,h1] at this;cases this
 ·have:=A.ob;rw[z,A.hh] at this;cases this
 ·have:=A.ob;rw[z,A.hm] at this;cases this
theorem ShAt.small (A:ShAt C H p S):S.os.length<=4096/\8<=S.n/\S.n<=4096:=by
 have:=A.s8.range
 have:=A.rm
 omega
end
end L2
namespace L2
open PySem PySem.Spec PyProof.Rows
def Plc (os:List (Option Kd)) (k:Kd) (F:Option Nat->Prop):Prop:=(∀ i:Nat,os[i]? = some (some k)->F (some i))/\((∀ i:Nat,os[i]? ≠ some (some k))->F none)
theorem zL1 (os:List (Option Kd)) (k:Kd):(∃ i:Nat,os[i]? = some (some k))\/∀ i:Nat,os[i]? ≠ some (some k):=by
 by_cases h:∃ i:Nat,os[i]? = some (some k)
 ·exact .inl h
 ·exact .inr fun i e=>h ⟨i,e⟩
end L2
namespace L2
open PySem PySem.Spec PyProof.Rows
theorem FunD.bindsN {K:W.Frag} {x qual:Str} {st:Stmt} {f:Addr} {fd:FuncData} {ds:List Value} {ps:List Str} (es:List Value) (n:Nat) (hn:n+es.length=ps.length) (F:FunD K x qual st f fd ds)
  (h:∀ (T:Addr) (kV doc pm:Value) (an:Option Addr) (cdv ct:Value) (us:List Value),us.length=n->∃ k:Option (Array Value)->Sem (List (Str × Value)),
   bindArgs (W.fnOf x qual (YE st) (Q5 st) (QJ st) (.ref T) kV doc pm an cdv ct) ⟨us,[]⟩=seqItems? (.ref T) >>= k/\k (some ds.toArray)=pure (ps.zip (us++es))):Binds K fd ps es :=
 F.binds es fun T kV doc pm an cdv ct us hl=>h T kV doc pm an cdv ct us (by rw[List.length_append] at hl;omega)
end L2
namespace L2
open PySem PySem.Spec PyProof.Rows
end L2
namespace L2
open PySem PySem.Spec PyProof.Rows
def RowT (B H:Hp) (r:Addr) (ks:List Th):Prop:=∃ vs,H r=some (.lst vs)/\IsTs B H ks vs
structure StT (B H0 H:Hp) (R:Addr) (rs:List Addr) (kss:List (List Th)):Prop where
 hR:H R=some (.lst (rs.map V.ref))
 R0:H0 R=none
 rs0:∀ r∈rs,H0 r=none
 nR:R ∉ rs
 nd:rs.Nodup
 rows:Paired (RowT B H) rs kss
 same:Same H0 H
section
variable {B H0 H H':Hp} {R r:Addr} {rs:List Addr} {kss:List (List Th)} {ks:List Th} {k:Th} {v:V} {vs:List V}
theorem RowT.ts (h:RowT B H r ks) (e:∀ vs,H r=some (.lst vs)->H' r=some (.lst vs)) (t:TupS H H'):RowT B H' r ks:=by
 obtain⟨vs,h1,h2⟩:=h
 exact⟨vs,e vs h1,h2.same t⟩
end
structure ShT (tss:List (List Th)):Prop where
 lo:1<=tss.length
 hi:tss.length<=3
 len:∀ (j:Nat) ks,tss[j]? = some ks->ks.length<=6
 room:∀ (j:Nat) ks,tss[j]? = some ks->j+1 < tss.length->ks.length<=5
end L2
namespace L2
open PySem PySem.Spec PyProof.Rows
theorem XC.sub {K:W.Frag} {C:Addr} {bm:List Value} {b:Value} {r:Bool} (c:XC K C bm) (m:W.mroIn K C b=some r):(Value.ref C::bm).contains b=r:=by
 obtain⟨nm,q,N,bs,hdct,sn,sub,ab,col,dd,k0,k1,k2,k3,k5,newId,lk⟩:=c.ob
 unfold W.mroIn PySem.W.clsIn at m
 rw[lk] at m
 exact Option.some.inj m
theorem Yj {K:W.Frag} {D C:Addr} {b:Bool} (ty:PySem.W.typeIn K (.ref C)=some (.type "type")) (mo:W.mroIn K C (.type "object")=some true) (su:W.mroIn K D (.ref C)=some b) (sd:W.mroIn K D (.ref D)=some true) :
  W.kitOne K (.ref D) (.ref C)=some b:=by
 unfold W.kitOne
 by_cases e:D=C
 ·subst e
  rw[su] at sd
  rw[if_pos (beq_self_eq_true _),sd]
 ·rw[if_neg (fun z=>e (Value.ref.inj (beq_iff_eq.mp z)))]
  unfold PySem.W.kitCls
  obtain⟨cd,hc,_⟩:=Option.bind_eq_some_iff.mp mo
  dsimp only
  rw[hc,ty,if_pos (by rw[Option.isSome_some,Bool.true_and];exact beq_self_eq_true _)]
  exact su
theorem zLj {K:W.Frag} {D:Addr} {T:String} {b:Bool} (hm:PySem.W.kitMeta T=true) (su:W.mroIn K D (.type T)=some b):W.kitOne K (.ref D) (.type T)=some b:=by
 unfold W.kitOne PySem.W.kitCls
 rw[if_neg (show ¬ (Value.ref D == Value.type T)=true from fun z=>by cases (beq_iff_eq.mp z))]
 dsimp only
 rw[if_pos hm]
 exact su
section
variable {X:Cx} {ea D:Addr}
def zLJ (K:W.Frag) (ea D:Addr):List V->Hp->VK->Prop:=fun xs H Q=>∃ v c b,xs=[.ref ea,v]/\ClsV v c/\H ea=some (ExO ea (.ref D))/\XI K D/\W.kitOne K (.ref D) c=some b/\Q (.bl b) H
theorem YC:ZD X (.builtin "isinstance") (zLJ X.K ea D):=fun pins s σ H xs us Q I r h=>by
 obtain⟨v,c,b,rfl,cv,hE,xi,k,q⟩:=h
 exact zHL pins s σ H _ us Q I r ⟨ea,D,v,c,b,rfl,cv,hE,xi,k,q⟩
theorem Yk {K:W.Frag} {H:Hp} {Q:VK} {v:V} {c:Value} {b:Bool} (hE:H ea=some (ExO ea (.ref D))) (xi:XI K D) (cv:ClsV v c) (k:W.kitOne K (.ref D) c=some b):zLJ K ea D [.ref ea,v] H Q=Q (.bl b) H:=by
 refine propext ⟨fun h=>?_,fun q=>⟨v,c,b,rfl,cv,hE,xi,k,q⟩⟩
 obtain⟨v',c',b',e,cv',_,_,k',q⟩:=h
 cases e
 have:c'=c:=by
  cases cv <;> cases cv' <;> rfl
 subst this
 rw[k] at k'
 cases k'
 exact q
end
end L2
namespace L2
open PySem PySem.Spec PyProof.Rows
section
variable {P:Program} {w:World} {K:W.Frag} {mg:Str->Option Value} {base:Heap} {N:List Str} {qual:Str} {scope:Scope} {f:Addr} {cd:Value} {A:Around} {outer:List Env} {s₀:Shared} {H₀:Hp} {E E':XK}
def zFt (C:Addr) (E:XK) (t:TA):TS:=fun _ σ H=>t σ H fun vs H1=>vs.length<=sizeLine/\∀ ea,H1 ea=none->E (.ref C) (some ea) H1
theorem ZR {x:Str} {C:Addr} {bm:List Value} {e:Expr} {es:List Expr} {t:TA} {np cpos pos:Pos} (hh:A.handled=none) (hg:Gl (cxE P w K mg base N qual scope f cd A outer s₀ H₀ E) x) (hm:mg x=some (.ref C)) (c:XC K C bm)
  (ha:PA (cxE P w K mg base N qual scope f cd A outer s₀ H₀ E) (e::es) t) (hdb:(x == ("__debug__" : Str))=false:=by decide)
  (he:starEach (e::es) (cxE P w K mg base N qual scope f cd A outer s₀ H₀ E).env=(false,eval e (cxE P w K mg base N qual scope f cd A outer s₀ H₀ E).env)::starEach es (cxE P w K mg base N qual scope f cd A outer s₀ H₀ E).env:=by rfl)
  (hpl:(backTo cpos (starEach es (cxE P w K mg base N qual scope f cd A outer s₀ H₀ E).env)).any (·.1)=false:=by rfl) :
  PS (cxE P w K mg base N qual scope f cd A outer s₀ H₀ E) (.Raise (some (.Call (.Name x np) (e::es) [] cpos)) none pos) (zFt C E t):=by
 intro pins s σ H D I h
 obtain⟨N',nm,q,bs,hdct,sn,sub,ab,col,dd,k0,k1,k2,k3,k5,mN,hC,hN,hni,TL⟩:=c.at I.mod.kin
 refine wpAny_Raise_call_subT (C:=C) (nm:=nm) (q:=q) (N:=N') (bs:=bs) (bm:=bm) (hdct:=hdct) (sn:=sn) (sub:=sub) (ab:=ab) (col:=col) (dd:=dd) (k0:=k0) (k1:=k1) (k2:=k2) (k3:=k3) (k5:=k5)
  F.excBase_ValueError (mN:=mN) (TL.hasType rfl) hh (by rw[he];exact (Bool.false_or _).trans hpl) hni (Yy I hg hm ⟨rfl,?_⟩ hdb)
 have z:=ha cpos pins s σ H _ I h
 rw[he] at z ⊢
 refine Calls.evalArgs_plain (thn z fun us s2 ⟨vs,H1,I2,r,hz,q⟩=>⟨rfl,by rw[← r.length];exact hz,I2.bk _ _ hC,hN.keeps I2.bk,TL.keeps I2.bk,fun h' ea mx=>?_⟩)
 show wpAny _ _ (leaving _ (.ref ea)) _ _ _
 have hl:=I2.stack
 refine zFM (s:={ s2 with heap:=h' }) (h₀:=s2.heap) (B:=W.hideAll s2.heap (frs (cxE P w K mg base N qual scope f cd A outer s₀ H₀ E).stack)) I2.ok.frames rfl (fun b o e=>PySem.W.of_hideAll _ e)
  (PySem.W.funFrames_hide hl fun env he b hb=>List.mem_filterMap.mpr ⟨env,he,hb⟩) mx fun h2 y u=>?_
 have tb:ToB (frs (cxE P w K mg base N qual scope f cd A outer s₀ H₀ E).stack) H1 H1 s2.heap (W.hideAll s2.heap (frs (cxE P w K mg base N qual scope f cd A outer s₀ H₀ E).stack)) :=
  ⟨fun b o e _ hb=>PySem.W.hideAll_get _ e hb,fun _ _ _ n=>n,fun b o e hb=>⟨o,PySem.W.hideAll_get _ e hb⟩,fun _ _ e=>e,fun _ _ _ e=>e,fun _ _ e=>⟨#[],by rw[e];simp⟩⟩
 have hok:HOk P w H1 (W.hideAll s2.heap (frs (cxE P w K mg base N qual scope f cd A outer s₀ H₀ E).stack)):=by
  intro b u e
  refine (I2.hok b u e).stay (fun b' u' hb' e'=>PySem.W.hideAll_get _ e' fun hm=>?_) (fun _ z=>z) fun _ _ z=>z
  have hn:=I2.stkFree b' hm
  rcases hb' with rfl | hb'
  ·rw[hn] at e;cases e
  ·rw[hn] at hb';cases hb'
 have hn:H1 ea=none:=by
  cases z:H1 ea with
  | none=>rfl
  | some o =>
   obtain⟨ob,e⟩:=(hok ea o z).got
   rw[y.new] at e
   cases e
 refine⟨ea,.ref C,_,H1,rfl,I2.os,I2.bare,y,hok,tb.out I2 zAW,zCJ I2 zAW fun b o e hb=>?_,q ea hn⟩
 have hb':b∈frs (cxE P w K mg base N qual scope f cd A outer s₀ H₀ E).stack:=by
  obtain⟨env,h1,h2⟩:=List.mem_filterMap.mp hb
  exact List.mem_filterMap.mpr ⟨env,List.mem_cons_of_mem _ h1,h2⟩
 exact u b o (mx.keeps b o e) (JQ hl hb' e)
end
def zMU (K:W.Frag) (C:Addr) (tb:(St->Hp->XK)->TS) (ts:Addr->TS):TS:=fun D σ H=>tb (fun σ' _ cls a H'=>∃ ea Dc bm,a=some ea/\cls=.ref Dc/\XC K Dc bm/\(Value.ref Dc::bm).contains (.ref C)=true /\
 ts ea D σ' (upd H' ea (ExO ea (.ref Dc)))) D σ H
theorem zLX {X:Cx} {body:List Stmt} {tb:(St->Hp->XK)->TS} {ts:Addr->TS} {x:Str} {C:Addr} {bmC:List Value} {b₀:Stmt} {suite:List Stmt} {np hpos pos:Pos} (O:Own X)
  (hb:∀ pl RX,PSs ((X.bear pl).wish (xeR (X.bear pl) RX)) body (tb RX)) (hg:Gl X x) (hm:X.mg x=some (.ref C)) (cC:XC X.K C bmC) (hs:∀ ea,PSs (X.inH ea) (b₀::suite) (ts ea))
  (hdb:(x == ("__debug__" : Str))=false:=by decide) :
  PS X (.Try body [.ExceptHandler (some (.Name x np)) none (b₀::suite) hpos] [] [] pos) (zMU X.K C tb ts):=by
 intro pins s σ H D I h
 refine wpAny_Try_except ?_
 refine wpAny_mono (hb pins _ [] s σ H D (I.bear.wish _) h) (fun f s1 q=>?_) (fun e s1 q=>?_)
 ·have q1:=SP.unwish q
  have q2:SP X pins D f s1:=by
   cases f with
   | next=>obtain⟨σ',H',J,z⟩:=q1;exact⟨σ',H',J.unbear,z⟩
   | brk=>obtain⟨σ',H',J,z⟩:=q1;exact⟨σ',H',J.unbear,z⟩
   | cont=>obtain⟨σ',H',J,z⟩:=q1;exact⟨σ',H',J.unbear,z⟩
   | ret u=>obtain⟨v,σ',H',J,r,z⟩:=q1;exact⟨v,σ',H',J.unbear,r,z⟩
  cases f with
  | next=>exact wpAny_execs_nil q2
  | brk=>exact q2
  | cont=>exact q2
  | ret u=>exact q2
 ·obtain⟨pins',σ',H1,s2,I2,ea,cls,B,H',rfl,h1,h2,h3,h6,h7,h8,ea',Dc,bm,e1,rfl,cD,hct,q⟩:=q
  cases e1
  have I2:Inv X pins σ' H1 s2:=I2.unbear
  have h3':Fly B s1.heap (X.env::X.outer) ea (.ref Dc) .none:=by rw[← O.stk];exact h3
  have hfr:X.A.frames=some (X.env::X.outer):=by rw[← O.stk];exact I.ok.frames
  have up:∀ {ha hb:Heap} {fl:Value},Fly B ha X.stack ea (.ref Dc) fl->ha.UpToSlots hb->(∀ b o,s2.heap.get? b=some o->b∈frs X.stack->∃ sl,ha.get? b=some { o with slots:=sl })->∀ b o,s2.heap.get? b=some o->b∈frs X.stack->∃ sl,hb.get? b=some { o with slots:=sl } :=
   fun {ha hb fl} y u z b o e hb'=>by
    obtain⟨sl1,e1⟩:=z b o e hb'
    obtain⟨sl2,e2⟩:=u b _ e1 (JQ y.frames hb' e1)
    exact⟨sl2,e2⟩
  refine zAp (s:=s1) hfr O.fr h3' fun h4 y4 u4=>?_
  refine ZS (s:={ s1 with heap:=h4 }) y4 fun h5 y5 u5=>?_
  have y4':Fly B h4 X.stack ea (.ref Dc) (rawInt X.env.locals):=by rw[O.stk];exact y4
  have y5':Fly B h5 X.stack ea (.ref Dc) .none:=by rw[O.stk];exact y5
  have sl5:=up y4' u5 (up h3 u4 h8)
  have I5:Inv (X.inH ea) pins σ' (upd H' ea (ExO ea (.ref Dc))) { s1 with heap:=h5 }:=(I2.landed (s':=s1) h1 h2 y5' h6 h7 sl5).inH ea
  refine wpAny_handleBy_cons (codeAny_handlers_test ?_) (by intro z;cases z)
  refine Yy I5 hg hm ?_ hdb
  obtain⟨oe,vs,T,oT,ts',he,hc,hd,_⟩:=y5.trc
  refine zAI (s:={ s1 with heap:=h5 }) I5.kIn cD cC he hc ?_
  rw[hct]
  refine codeAny_handlers_suite ?_
  refine ZS (s:={ s1 with heap:=h5 }) y5 fun h7' y7 u7=>?_
  have y7':Fly B h7' X.stack ea (.ref Dc) .none:=by rw[O.stk];exact y7
  have I7:Inv (X.inH ea) pins σ' (upd H' ea (ExO ea (.ref Dc))) { s1 with heap:=h7' }:=(I2.landed (s':=s1) h1 h2 y7' h6 h7 (up y5' u7 sl5)).inH ea
  refine wpAny_mono (hs ea pins _ _ _ _ I7 q) (fun f s9 z=>?_) (fun _ _ z=>z.elim)
  cases f with
  | next=>obtain⟨σ2,H2,J,z⟩:=z;exact⟨_,_,J.outH I.ok,z⟩
  | brk=>obtain⟨σ2,H2,J,z⟩:=z;exact⟨_,_,J.outH I.ok,z⟩
  | cont=>obtain⟨σ2,H2,J,z⟩:=z;exact⟨_,_,J.outH I.ok,z⟩
  | ret u=>obtain⟨v,σ2,H2,J,r,z⟩:=z;exact⟨v,_,_,J.outH I.ok,r,z⟩
end L2
namespace L2
open PySem PySem.Spec PyProof.Rows
def zFJ (C:Addr) (m:Str) (sp:Sp) (dvs:List V) (RX:St->Hp->XK) (ta:TE) (t:TA):TE:=fun σ H Q=>ta σ H fun x H1=>zBC C m x H1 fun H1=>t σ H1 fun vs H2=>sp (x::(vs++dvs)) H2 Q (RX σ H2)
section
variable {X:Cx} {RX:St->Hp->XK} {k:Nat} {f C:Addr} {fd:FuncData} {ps:List Str} {sp:Sp} {dvs:List V} {ds:List Value} {m:Str} {pos apos:Pos} {e o:Expr} {es:List Expr} {ta:TE} {t:TA}
theorem zGK {pins:List (Addr × Obj)} {σ:St} {H:Hp} {s:Shared} {Q:VK} {us:List Value} {vs:List V} (F:FnOk X.prog X.w X.K X.mg X.base (CXe X.prog X.w) k f fd ps sp) (hr:Room k X.A) (hb:Binds X.K fd ps ds) (hd:Vals dvs ds)
  (I:Inv (X.wish (xeR X RX)) pins σ H s) (r:Vals vs us) (q:sp (vs++dvs) H Q (RX σ H)):wpAny (model X.prog X.w) X.A (call (.ref f) us) (EP (X.wish (xeR X RX)) pins σ Q) (X.wish (xeR X RX)).xe s:=by
 have r2:Vals (vs++dvs) (us++ds):=r.append hd
 have hl:(us++ds).length=ps.length:=by rw[← r2.length];exact F.len _ _ _ _ q
 refine wpAny_call (codeAny_mono (F.run X.A X.stack s H ⟨us,[]⟩ (us++ds) (vs++dvs) Q (RX σ H) hr I.env0 (hb s us I.kIn hl) r2 q) fun r s' hq=>?_)
 cases r with
 | error e=>exact⟨pins,σ,H,s,I.unwish,hq⟩
 | ok fl =>
  cases fl with
  | ret u=>exact I.after hq
  | next=>exact False.elim hq
  | brk=>exact False.elim hq
  | cont=>exact False.elim hq
theorem JI {pl:Sem Bool} (he:PE (X.wish (xeR X RX)) o ta) (c:Cls X.K C) (hm:Meth X.K C m f) (F:FnOk X.prog X.w X.K X.mg X.base (CXe X.prog X.w) k f fd ps sp) (hr:Room k X.A) (hb:Binds X.K fd ps ds) (hd:Vals dvs ds) (ha:PA (X.wish (xeR X RX)) (e::es) t)
  (hst:starEach (e::es) X.env=(false,eval e X.env)::starEach es X.env:=by rfl) (hpl:(backTo pos (starEach es X.env)).any (·.1)=false:=by rfl)
  (ht:eval (.Call (.Attribute o m apos) (e::es) [] pos) X.env=(do
   let ov ← eval o X.env
   standAt apos.atName
   let (f,first) ← holding [ov] (getMethod ov m pl)
   callWith pos f first (backTo pos (starEach (e::es) X.env)) (backToKw pos (keywordEach [] X.env))):=by rfl) :
  PE (X.wish (xeR X RX)) (.Call (.Attribute o m apos) (e::es) [] pos) (zFJ C m sp dvs RX ta t):=by
 intro pins s σ H Q I h
 refine PySem.W.methodCall_KW (pl:=pl) (thn (he pins s σ H _ I h) fun u s1 ⟨x,H1,I1,rx,q0⟩=>?_) ht
 obtain⟨a,dx,fs,ex,ea,l,q⟩:=JL q0
 subst ex
 obtain rfl:u=Value.ref a:=rx
 refine Zb I1 ea c hm l ?_
 refine PySem.W.callWith_K (first:=[.ref a]) (h₀:=X.base) I.ok.mod.kin hm.kp (thn (ha pos pins s1 σ H1 _ I1 q) fun us s2 ⟨vs,H2,I2,r,q2⟩=>⟨I2.kIn,?_⟩) hst hpl
 exact zGK (us:=.ref a::us) (vs:=.ref a::vs) F hr hb hd I2 (.cons rfl r) q2
theorem zBx {pl:Sem Bool} (he:PE (X.wish (xeR X RX)) o ta) (c:Cls X.K C) (hm:Meth X.K C m f) (F:FnOk X.prog X.w X.K X.mg X.base (CXe X.prog X.w) k f fd ps sp) (hr:Room k X.A) (hb:Binds X.K fd ps ds) (hd:Vals dvs ds)
  (ht:eval (.Call (.Attribute o m apos) [] [] pos) X.env=(do
   let ov ← eval o X.env
   standAt apos.atName
   let (f,first) ← holding [ov] (getMethod ov m pl)
   callWith pos f first (backTo pos (starEach [] X.env)) (backToKw pos (keywordEach [] X.env))):=by rfl) :
  PE (X.wish (xeR X RX)) (.Call (.Attribute o m apos) [] [] pos) (zFJ C m sp dvs RX ta zHG):=by
 intro pins s σ H Q I h
 refine PySem.W.methodCall_KW (pl:=pl) (thn (he pins s σ H _ I h) fun u s1 ⟨x,H1,I1,rx,q0⟩=>?_) ht
 obtain⟨a,dx,fs,ex,ea,l,q⟩:=JL q0
 subst ex
 obtain rfl:u=Value.ref a:=rx
 refine Zb I1 ea c hm l ?_
 exact PySem.W.callWith_K0 (first:=[.ref a]) I1.kIn hm.kp (zGK (us:=[.ref a]) (vs:=[.ref a]) F hr hb hd I1 (.cons rfl .nil) q)
end
end L2
namespace L2
open PySem PySem.Spec PyProof.Rows
end L2
namespace L2
open PySem PySem.Spec PyProof.Rows
section
variable {X:Cx}
def zNc:R2:=fun x y H Q=>∃ b c,x=.bl b/\y=.bl c/\Q (.bl (b == c)) H
theorem zJi {b c:Bool} {H:Hp} {Q:VK}:zNc (.bl b) (.bl c) H Q=Q (.bl (b == c)) H:=propext ⟨fun ⟨b',c',e1,e2,h⟩=>by cases e1;cases e2;exact h,fun h=>⟨b,c,rfl,rfl,h⟩⟩
theorem zLb:(true == true)=true:=rfl
theorem zL9:(false == true)=false:=rfl
theorem zLa:(true == false)=false:=rfl
theorem zLL:(false == false)=true:=rfl
end
end L2
namespace L2
open PySem PySem.Spec PyProof.Rows
inductive Dv where
 | val (v:V)
 | pair (k:Kd) (v:V)
 | cnt (l:List Int)
end L2
namespace L2
open PySem PySem.Spec PyProof.Rows
section
variable {α:Type}
def Q8:List (Option Kd)->List α->List (Kd × α)
 | some k::os,v::hs=>(k,v)::Q8 os hs
 | none::os,_::hs=>Q8 os hs
 | _,_=>[]
theorem Jt {k:Kd} {y:α}:∀ {os:List (Option Kd)} {hs:List α},hs.length=os.length->Q8 (os++[some k]) (hs++[y])=Q8 os hs++[(k,y)]
 | [],[],_=>rfl
 | some k'::os,v::hs,h=>by
  show (k',v)::Q8 (os++[some k]) (hs++[y])=_
  rw[Jt (by simpa using h)];rfl
 | none::os,v::hs,h=>by
  show Q8 (os++[some k]) (hs++[y])=_
  rw[Jt (by simpa using h)];rfl
theorem zAd {k:Kd} {v:α}:∀ {os:List (Option Kd)} {hs:List α} {j:Nat},(Q8 os hs)[j]? = some (k,v)->∃ i:Nat,os[i]? = some (some k)/\hs[i]? = some v
 | some k'::os,w::hs,0,h=>by
  have h':some (k',w)=some (k,v):=h
  cases h'
  exact⟨0,rfl,rfl⟩
 | some k'::os,w::hs,j+1,h=>by
  have h':(Q8 os hs)[j]? = some (k,v):=h
  obtain⟨i,h1,h2⟩:=zAd h'
  exact⟨i+1,by simpa using h1,by simpa using h2⟩
 | none::os,w::hs,j,h=>by
  have h':(Q8 os hs)[j]? = some (k,v):=h
  obtain⟨i,h1,h2⟩:=zAd h'
  exact⟨i+1,by simpa using h1,by simpa using h2⟩
 | [],hs,j,h=>by cases hs <;> simp[Q8] at h
 | some _::_,[],j,h=>by simp[Q8] at h
 | none::_,[],j,h=>by simp[Q8] at h
theorem zCK {k:Kd} {z0:α}:∀ {os:List (Option Kd)} {hs:List α} {i:Nat},os[i]? = some (some k)->hs.length=os.length ->
  ∃ (j:Nat) (v:α),hs[i]? = some v/\(Q8 os hs)[j]? = some (k,v)/\(∀ y,Q8 os (hs.set i y)=(Q8 os hs).set j (k,y))/\Q8 (os.set i none) (hs.set i z0)=(Q8 os hs).eraseIdx j /\
   ((∀ a:Nat,i < a->∀ k',os[a]? ≠ some (some k'))->j+1=(Q8 os hs).length)
 | some k'::os,w::hs,0,h,hl=>by
  have h':some (some k')=some (some k):=h
  cases h'
  refine⟨0,w,rfl,rfl,fun y=>rfl,rfl,fun hn=>?_⟩
  have:Q8 os hs=[]:=by
   cases e:Q8 os hs with
   | nil=>rfl
   | cons p r =>
    obtain⟨a,ha,_⟩:=zAd (os:=os) (hs:=hs) (j:=0) (k:=p.1) (v:=p.2) (by rw[e];rfl)
    exact absurd (by simpa using ha) (hn (a+1) (by omega) p.1)
  show 0+1=(Q8 os hs).length+1
  rw[this];rfl
 | some k'::os,w::hs,i+1,h,hl=>by
  obtain⟨j,v,h1,h2,h3,h4,h5⟩:=zCK (os:=os) (hs:=hs) (i:=i) (by simpa using h) (by simpa using hl)
  refine⟨j+1,v,by simpa using h1,h2,fun y=>?_,?_,fun hn=>?_⟩
  ·show (k',w)::Q8 os (hs.set i y)=(k',w)::(Q8 os hs).set j (k,y)
   rw[h3]
  ·show (k',w)::Q8 (os.set i none) (hs.set i z0)=(k',w)::(Q8 os hs).eraseIdx j
   rw[h4]
  ·show j+1+1=(Q8 os hs).length+1
   rw[h5 fun a ha k2 e=>hn (a+1) (by omega) k2 (by simpa using e)]
 | none::os,w::hs,0,h,hl=>by
  have h':some (none:Option Kd)=some (some k):=h
  cases h'
 | none::os,w::hs,i+1,h,hl=>by
  obtain⟨j,v,h1,h2,h3,h4,h5⟩:=zCK (os:=os) (hs:=hs) (i:=i) (by simpa using h) (by simpa using hl)
  refine⟨j,v,by simpa using h1,h2,fun y=>?_,?_,fun hn=>?_⟩
  ·show Q8 os (hs.set i y)=(Q8 os hs).set j (k,y)
   rw[h3]
  ·show Q8 (os.set i none) (hs.set i z0)=(Q8 os hs).eraseIdx j
   rw[h4]
  ·show j+1=(Q8 os hs).length
   rw[h5 fun a ha k2 e=>hn (a+1) (by omega) k2 (by simpa using e)]
 | [],hs,i,h,hl=>by simp at h
 | some _::_,[],i,h,hl=>by simp at hl
 | none::_,[],i,h,hl=>by simp at hl
theorem zCi:∀ {os:List (Option Kd)} {hs:List α},(Q8 os hs).length<=os.length
 | some k::os,v::hs=>by
  show (Q8 os hs).length+1<=os.length+1
  have:=zCi (os:=os) (hs:=hs)
  omega
 | none::os,v::hs=>by
  show (Q8 os hs).length<=os.length+1
  have:=zCi (os:=os) (hs:=hs)
  omega
 | [],hs=>by cases hs <;> exact Nat.zero_le _
 | some _::_,[]=>Nat.zero_le _
 | none::_,[]=>Nat.zero_le _
end
abbrev Tr:=Kd × Int × V
def Y8 (os:List (Option Kd)) (ms:List Int) (hs:List V):List Tr:=Q8 os (ms.zip hs)
theorem zCc {y:V}:∀ {i:Nat} {ms:List Int} {hs:List V} {m:Int},ms[i]? = some m->ms.zip (hs.set i y)=(ms.zip hs).set i (m,y)
 | 0,m'::ms,v::hs,m,h=>by cases h;rfl
 | i+1,m'::ms,v::hs,m,h=>by
  show (m',v)::ms.zip (hs.set i y)=(m',v)::(ms.zip hs).set i (m,y)
  rw[zCc (i:=i) (by simpa using h)]
 | _,[],hs,_,h=>by simp at h
 | 0,m'::ms,[],_,_=>rfl
 | _+1,m'::ms,[],_,_=>rfl
theorem zG9 {os:List (Option Kd)} {ms:List Int} {hs:List V} {k:Kd} {m:Int} {y:V} (h1:hs.length=os.length) (h2:ms.length=os.length):Y8 (os++[some k]) (ms++[m]) (hs++[y])=Y8 os ms hs++[(k,m,y)]:=by
 unfold Y8
 rw[List.zip_append (by omega)]
 exact Jt (by rw[List.length_zip];omega)
theorem zGA {os:List (Option Kd)} {ms:List Int} {hs:List V} {j:Nat} {k:Kd} {m:Int} {v:V} (h:(Y8 os ms hs)[j]? = some (k,m,v)):∃ i:Nat,os[i]? = some (some k)/\ms[i]? = some m/\hs[i]? = some v:=by
 obtain⟨i,h1,h2⟩:=zAd h
 rw[List.getElem?_zip_eq_some] at h2
 exact⟨i,h1,h2.1,h2.2⟩
theorem zJR {os:List (Option Kd)} {ms:List Int} {hs:List V} {i:Nat} {k:Kd} (h:os[i]? = some (some k)) (h1:hs.length=os.length) (h2:ms.length=os.length) :
  ∃ (j:Nat) (m:Int) (v:V),ms[i]? = some m/\hs[i]? = some v/\(Y8 os ms hs)[j]? = some (k,m,v)/\(∀ y,Y8 os ms (hs.set i y)=(Y8 os ms hs).set j (k,m,y))/\Y8 (os.set i none) ms (hs.set i V.non)=(Y8 os ms hs).eraseIdx j /\
   ((∀ a:Nat,i < a->∀ k',os[a]? ≠ some (some k'))->j+1=(Y8 os ms hs).length):=by
 have hi:=(List.getElem?_eq_some_iff.mp h).1
 have hm:ms[i]? = some ms[i]:=List.getElem?_eq_getElem (by omega)
 obtain⟨j,⟨m,v⟩,e1,e2,e3,e4,e5⟩:=zCK (hs:=ms.zip hs) (z0:=(ms[i],V.non)) h (by rw[List.length_zip];omega)
 rw[List.getElem?_zip_eq_some] at e1
 refine⟨j,m,v,e1.1,e1.2,e2,fun y=>?_,?_,e5⟩
 ·unfold Y8
  rw[zCc (i:=i) e1.1]
  exact e3 _
 ·unfold Y8
  rw[zCc (i:=i) hm]
  exact e4
theorem zBD {H:Hp} {N:V->Bool} (hN:∀ o x,IsKo H o x->N x=o.isSome):∀ {os:List (Option Kd)} {xs hs:List V} {ms:List Int},(∀ (i:Nat) o x,os[i]? = some o->xs[i]? = some x->IsKo H o x)->xs.length=os.length->hs.length=os.length->ms.length=os.length ->
  Paired (fun (e:Int × V × V) (p:Tr)=>IsK H p.1 e.2.1/\e.1=p.2.1/\e.2.2=p.2.2) ((ms.zip (xs.zip hs)).filter fun e=>N e.2.1) (Y8 os ms hs)
 | o::os,x::xs,v::hs,m::ms,h,h1,h2,h3=>by
  have ih:=zBD hN (os:=os) (xs:=xs) (hs:=hs) (ms:=ms) (fun i o x e1 e2=>h (i+1) o x (by simpa using e1) (by simpa using e2)) (by simpa using h1) (by simpa using h2) (by simpa using h3)
  have h0:=h 0 o x rfl rfl
  have n0:=hN o x h0
  show Paired _ (((m,x,v)::(ms.zip (xs.zip hs))).filter fun e=>N e.2.1) _
  cases o with
  | none =>
   rw[List.filter_cons_of_neg (by show ¬ N x=true;rw[n0];decide)]
   exact ih
  | some k =>
   rw[List.filter_cons_of_pos (by show N x=true;rw[n0];rfl)]
   exact .cons ⟨h0,rfl,rfl⟩ ih
 | [],[],[],[],_,_,_,_=>.nil
def Ris (es:List Tr):Prop:=es.Pairwise fun a b=>a.2.1 < b.2.1
theorem zIv {es:List Tr} {e:Tr} (h:Ris es) (h2:∀ x∈es,x.2.1 < e.2.1):Ris (es++[e]):=by
 unfold Ris
 rw[List.pairwise_append]
 exact⟨h,List.pairwise_singleton _ _,fun a ha b hb=>by rw[List.mem_singleton.mp hb];exact h2 a ha⟩
theorem zHF {es:List Tr} {j:Nat} (h:Ris es):Ris (es.eraseIdx j):=h.sublist (List.eraseIdx_sublist ..)
theorem zGL {k:Kd} {m:Int} {v y:V}:∀ {es:List Tr} {j:Nat},Ris es->es[j]? = some (k,m,v)->Ris (es.set j (k,m,y))
 | e::es,0,h,e0=>by
  cases e0
  have h':=List.pairwise_cons.mp h
  exact List.pairwise_cons.mpr ⟨fun b hb=>h'.1 b hb,h'.2⟩
 | e::es,j+1,h,e0=>by
  have h':=List.pairwise_cons.mp h
  have e1:es[j]? = some (k,m,v):=by simpa using e0
  refine List.pairwise_cons.mpr ⟨fun b hb=>?_,zGL h'.2 e1⟩
  rcases List.mem_or_eq_of_mem_set hb with z | z
  ·exact h'.1 b z
  ·rw[z];have q:=h'.1 _ (List.mem_of_getElem? e1);exact q
 | [],_,_,e0=>by simp at e0
end L2
namespace PySem
namespace F
theorem zBf:Slot "reversed" "__init__" "object.__init__" :=
 .of (owner := "object") (n := "__init__") (by rw[typeLookup_type,builtinLookup_eq_fast];kernel_rfl) (by decide +kernel) (by decide +kernel) (by decide +kernel)
  (by first | exact .inl (by decide +kernel) | exact .inr (by decide +kernel)) (by rw[isSubtype_type];kernel_rfl)
theorem called_rvd:TypeCalled "reversed" "reversed.__new__" "object.__init__" :=
 ⟨by decide +kernel,by decide +kernel,⟨_,_,mro_reversed⟩,made_reversed,by decide +kernel,by rw[isSubtype_type];kernel_rfl,zBf⟩
end F
end PySem
namespace PySem
end PySem
namespace L2
open PySem PySem.Spec PyProof.Rows
end L2
namespace PySem
namespace F
theorem zCB:Manifest.owners.lookup (String.ofList ['r','o','t','a','r','e','t','i','e','s','r','e','v','e','r','_','t','s','i','l'].reverse)=some Manifest.sig_list_reverseiterator:=by kernel_rfl
theorem slot_lrv_next:Slot "list_reverseiterator" "__next__" "list_reverseiterator.__next__" :=
 .of (owner := "list_reverseiterator") (n := "__next__") (by rw[typeLookup_type,builtinLookup_eq_fast];kernel_rfl) (by decide +kernel) (by decide +kernel) (by decide +kernel)
  (by first | exact .inl (by decide +kernel) | exact .inr (by decide +kernel)) (by rw[isSubtype_type];kernel_rfl)
theorem entry_lrv_next:entryFor table "list_reverseiterator.__next__" = some Builtin.«list_reverseiterator.__next__»:=entryFor_of_tree (by kernel_rfl)
theorem args_lrv_next_1 (a:Value):argsOk "list_reverseiterator.__next__" ⟨[a],[]⟩:=by
 unfold argsOk;rw[signature?_of (id := "list_reverseiterator.__next__") (n:=['_','_','t','x','e','n','_','_']) (o:=['r','o','t','a','r','e','t','i','e','s','r','e','v','e','r','_','t','s','i','l']) (by kernel_rfl) zCB];kernel_rfl
theorem slot_lrv_iter:Slot "list_reverseiterator" "__iter__" "list_reverseiterator.__iter__" :=
 .of (owner := "list_reverseiterator") (n := "__iter__") (by rw[typeLookup_type,builtinLookup_eq_fast];kernel_rfl) (by decide +kernel) (by decide +kernel) (by decide +kernel)
  (by first | exact .inl (by decide +kernel) | exact .inr (by decide +kernel)) (by rw[isSubtype_type];kernel_rfl)
theorem args_lrv_iter_1 (a:Value):argsOk "list_reverseiterator.__iter__" ⟨[a],[]⟩:=by
 unfold argsOk;rw[signature?_of (id := "list_reverseiterator.__iter__") (n:=['_','_','r','e','t','i','_','_']) (o:=['r','o','t','a','r','e','t','i','e','s','r','e','v','e','r','_','t','s','i','l']) (by kernel_rfl) zCB];kernel_rfl
theorem entry_lrv_iter:entryFor table "list_reverseiterator.__iter__" = some Builtin.«dict_keyiterator.__iter__» :=
 entryFor_alias (id' := "dict_keyiterator.__iter__") (by kernel_rfl) (by first | rfl | decide +kernel | (unfold String.splitOn;simp +decide [String.splitOnAux])) (by decide +kernel) (by kernel_rfl)
theorem slot_lrv_hint:Slot "list_reverseiterator" "__length_hint__" "list_reverseiterator.__length_hint__" :=
 .of (owner := "list_reverseiterator") (n := "__length_hint__") (by rw[typeLookup_type,builtinLookup_eq_fast];kernel_rfl) (by decide +kernel) (by decide +kernel) (by decide +kernel)
  (by first | exact .inl (by decide +kernel) | exact .inr (by decide +kernel)) (by rw[isSubtype_type];kernel_rfl)
theorem lrv_no_len:typeLookup (.type "list_reverseiterator") "__len__" = pure none:=by rw[typeLookup_type,builtinLookup_eq_fast];kernel_rfl
theorem sub_lrv_rvd:isSubtype (.type "list_reverseiterator") (.type "reversed")=pure false:=by rw[isSubtype_type];kernel_rfl
end F
def YA (l:Addr) (i:Int):Obj:={ cls:=.type "list_reverseiterator",data:=.fields #[.ref l,rawInt i] }
theorem WU (l:Addr) (items:Array Value) (n:Nat) :
  Meets (Builtin.«reversed.__new__» ⟨[.type "reversed",.ref l],[]⟩) (fun _ R s=>s.heap.get? l=some { cls:=.type "list",dict:=none,data:=.seq items n,slots := #[] } /\
   R (.ok (.ret (.ref s.heap.objs.size))) { s with heap:=s.heap.push (YA l ((items.size:Int) - 1)) }) :=
 .of_wp fun prog w A R s h=>by
  obtain⟨hl,h⟩:=h
  have hT:s.TypeIs (.ref l) "list" := ⟨_,hl,rfl⟩
  unfold Builtin.«reversed.__new__»
  refine wpAny_bind (wpAny_of_eq (newClass_reversed _) ?_)
  try dsimp only
  refine wpAny_bind (wpAny_of_eq (a:=()) (by first | rfl | kernel_rfl) ?_)
  refine wpAny_bind (wpAny_of_eq (a:=()) (by first | rfl | kernel_rfl) ?_)
  try dsimp only
  refine wpAny_bind (wpAny_specialOf hT F.slot_list_reversed.lookup ?_)
  try dsimp only
  refine wpAny_bind (wpAny_of_eq (F.slot_list_reversed.bind _) ?_)
  try dsimp only
  rw[if_neg (show ¬ ((Value.builtin "list.__reversed__" == Value.none)=true) from Bool.false_ne_true)]
  refine wpAny_bind (wpAny_rule ?_)
  refine wpAny_bind ?_
  show wpAny _ _ (call (.builtin "list.__reversed__") [.ref l]) _ _ _
  refine call_meets F.slot_list_reversed hT F.entry_list_reversed (F.args_list_reversed_1 _) (AutoListH.list___reversed___list_0 l items n) ⟨hl,?_⟩
  exact wpAny_pure ⟨_,rfl,h⟩
section
variable {prog:Program} {w:World} {A:Around} {E:Value->Shared->Prop} {s:Shared}
theorem zBq {l:Addr} {items:Array Value} {n:Nat} {Q:Value->Shared->Prop} (hl:s.heap.get? l=some { cls:=.type "list",dict:=none,data:=.seq items n,slots := #[] })
  (h:Q (.ref s.heap.objs.size) { s with heap:=s.heap.push (YA l ((items.size:Int) - 1)) }) :
  wpAny (model prog w) A (call (.type "reversed") [.ref l]) Q E s:=by
 have ft:=F.called_rvd
 obtain⟨c,tl,hmro⟩:=ft.mro
 have hmade:=ft.made
 have hsub:=F.sub_lrv_rvd
 have hct:=F.typeCall_reversed_1 (.ref l)
 refine wpAny_call (codeAny_of_tree ?_)
 show wpAny _ _ (callAny (.type "reversed") _) _ _ _
 refine wpAny_pure ⟨Code.quiet_builtin _ (by decide +kernel),codeAny_builtin F.entry_type_call ?_⟩
 rw[Around.under_plain (weight_type_call_type "reversed" [.ref l] []) rfl]
 have h1:=ft.notType
 have h2:=ft.canCreate
 repeat (any_goals (first | assumption | wp_step))
 have hn:codeAny (model prog w) A.in1 (.call (.builtin "reversed.__new__") ⟨[.type "reversed",.ref l],[]⟩) (fun r s1=>r=.ok (.ret (.ref s.heap.objs.size))/\s1={ s with heap:=s.heap.push (YA l ((items.size:Int) - 1)) }) s :=
  codeAny_call_builtin ft.plain F.entry_reversed_new (wpAny_of_eq (F.newCall_reversed_1 _) (WU l items n prog w A.in1 (fun r s1=>r=.ok (.ret (.ref s.heap.objs.size))/\s1={ s with heap:=s.heap.push (YA l ((items.size:Int) - 1)) }) s ⟨hl,rfl,rfl⟩))
 refine codeAny_mono hn fun r s₁ hr=>?_
 obtain⟨rfl,rfl⟩:=hr
 have hT:Shared.TypeIs { s with heap:=s.heap.push (YA l ((items.size:Int) - 1)) } (.ref s.heap.objs.size) "list_reverseiterator" := ⟨_,Heap.get?_push_size _ rfl,rfl⟩
 repeat (any_goals (first | assumption | wp_step))
theorem zBv {it l:Addr} {items:Array Value} {i:Nat} {x:Value} {Q:Option Value->Shared->Prop} (ho:s.heap.get? it=some (YA l (i:Int))) (hl:s.heap.IsList l items) (hx:items[i]? = some x)
  (hQ:∀ h',h'.get? it=some (YA l ((i:Int) - 1))->Heap.SameBut it s.heap h'->Q (some x) { s with heap:=h' }):wpAny (model prog w) A (pyNext (.ref it)) Q E s:=by
 obtain⟨ol,hol,_,nl,hdl⟩:=hl
 have hT:s.TypeIs (.ref it) "list_reverseiterator" := ⟨_,ho,rfl⟩
 unfold pyNext
 refine wpAny_bind (wpAny_attempt (wpAny_callSpecial?_slot (name:=Str.ofString "__next__") hT F.slot_lrv_next
  (wpAny_call_entry F.slot_lrv_next hT F.entry_lrv_next ?_ (F.args_lrv_next_1 _))))
 unfold Builtin.«list_reverseiterator.__next__»
 refine wpAny_bind (wpAny_of_eq (a:=(Value.ref it,[])) rfl ?_)
 try dsimp only
 refine wpAny_bind (wpAny_field ho rfl (x:=rawInt (i:Int)) rfl ?_)
 show wpAny _ _ (if (i:Int) < 0 then _ else _) _ _ s
 rw[if_neg (by omega)]
 refine wpAny_bind (wpAny_field ho rfl (x:=.ref l) rfl ?_)
 refine wpAny_bind (wpAny_seqItems hol hdl ?_)
 simp only[Int.toNat_natCast,hx]
 refine wpAny_bind (wpAny_setField ho rfl (by simp) (wpAny_pure ⟨x,rfl,wpAny_pure (hQ _ ?_ (Heap.SameBut.update ..))⟩))
 rw[Heap.get?_update_self _ ho (Obj.isFreed_of_fields (Obj.data_mapFields rfl _))]
 rfl
theorem zC1 {it l:Addr} {Q:Option Value->Shared->Prop} (hh:A.handled=none) (ho:s.heap.get? it=some (YA l (-1)))
  (hQ:∀ h',Heap.ExtBut it s.heap h'->Q none { s with heap:=h' }):wpAny (model prog w) A (pyNext (.ref it)) Q E s:=by
 have hT:s.TypeIs (.ref it) "list_reverseiterator" := ⟨_,ho,rfl⟩
 unfold pyNext
 refine wpAny_bind (wpAny_attempt (wpAny_callSpecial?_slot (name:=Str.ofString "__next__") hT F.slot_lrv_next
  (wpAny_call_entry F.slot_lrv_next hT F.entry_lrv_next ?_ (F.args_lrv_next_1 _))))
 unfold Builtin.«list_reverseiterator.__next__»
 refine wpAny_bind (wpAny_of_eq (a:=(Value.ref it,[])) rfl ?_)
 try dsimp only
 refine wpAny_bind (wpAny_field ho rfl (x:=rawInt (-1)) rfl ?_)
 show wpAny _ _ (if (-1:Int) < 0 then _ else _) _ _ s
 rw[if_pos (by decide)]
 refine wpAny_bind (wpAny_rule ?_)
 refine wpAny_bind ?_
 show wpAny _ _ (newExc (.type "StopIteration") [] >>= fun e=>raiseNew e) _ _ _
 refine wpAny_bind ?_
 simp only[newExc,newTuple]
 refine wpAny_bind (wpAny_newObj_type ?_ (by size_fits))
 refine wpAny_bind (m:=firstArgMember _ _) (wpAny_of_eq (a:=Value.none) (by first | rfl | (simp only[firstArgMember];rfl)) ?_)
 refine wpAny_newObj_type ?_ (by size_fits)
 simp only[raiseNew]
 refine wpAny_bind (wpAny_handled ?_)
 first | rw[show A.in1.handled=none from hh] | rw[hh]
 refine wpAny_bind (wpAny_pure (wpAny_throw ?_))
 refine wpAny_bind (wpAny_isInstance (T := "StopIteration") (b:=true) ⟨_,Heap.get?_push_size _ rfl,rfl⟩ isSubtype_stop ?_)
 exact wpAny_pure (hQ _ (fun b o hb e=>Heap.get?_push_of_some _ (Heap.get?_push_of_some _ e)))
theorem zI2 {it l:Addr} {i:Int} {Q:Value->Shared->Prop} (ho:s.heap.get? it=some (YA l i)) (h:Q (.ref it) s):wpAny (model prog w) A (pyIter (.ref it)) Q E s:=by
 have hT:s.TypeIs (.ref it) "list_reverseiterator" := ⟨_,ho,rfl⟩
 refine wpAny_pyIter_slot hT F.slot_lrv_iter (wpAny_call_entry F.slot_lrv_iter hT F.entry_lrv_iter ?_ (F.args_lrv_iter_1 _))
 show wpAny _ _ (ret (.ref it)) _ _ s
 exact wpAny_pure ⟨_,rfl, "list_reverseiterator",_,hT,F.slot_lrv_next.lookup,h⟩
end
end PySem
namespace L2
open PySem PySem.Spec PyProof.Rows
end L2
namespace PySem
section
variable {prog:Program} {w:World} {A:Around} {s:Shared} {R:Result->Shared->Prop}
variable {I:Addr} {fp wr:List Addr} {G:Array GenState->Array GenState->Prop} {n:Nat} {P:Nat->Value->Prop} {St:Nat->Shared->Prop}
theorem zEY {l:Addr} {items:Array Value} (W:WalksS prog w A.in1 I fp wr G n P St) (hz:items.size<=sizeLine) (ho:s.heap.get? I=some (YA l ((items.size:Int) - 1))) (hli:s.heap.IsList l items) (S:Addr) (res:Value) (c₀:Nat) (hst:St 0 s) (hSf:S ∉ fp) (hI:I∈fp) (hlf:l∈fp)
  (hS:s.heap.get? S=some { cls:=.type "list",data:=.seq #[] c₀ })
  (hR:∀ s' acc' c',Moved (S::wr) G s s'->s'.heap.get? S=some { cls:=.type "list",dict:=none,data:=.seq acc' c',slots := #[] }->ItemsOf P acc' n->R (.ok (.ret res)) s') (hn:n<=sizeLine:=by size_fits) :
  wpAny (model prog w) A.in1 (Builtin.List.listExtendWith (.ref S) (.ref I) res)
   (fun fin s'=>match fin with | .done f=>R (.ok f) s' | .again c'=>c'.quiet=true/\codeAny (model prog w) A c' R s') (fun e s'=>R (.error e) s') s:=by
 have hT:s.TypeIs (.ref I) "list_reverseiterator" := ⟨_,ho,rfl⟩
 have hSI:S ≠ I:=fun e=>hSf (e ▸ hI)
 unfold Builtin.List.listExtendWith
 refine wpAny_bind (wpAny_typeOf hT ?_)
 have h1:Builtin.List.listSameRef (.ref S) (.ref I)=false:=by simp[Builtin.List.listSameRef,hSI]
 have h2:(Value.type "list_reverseiterator" == Value.type "list")=false:=by decide
 have h3:(Value.type "list_reverseiterator" == Value.type "tuple")=false:=by decide
 simp only[h1,h2,h3,Bool.or_false,Bool.false_eq_true,if_false]
 refine wpAny_bind (W.self 0 _ _ _ hst ?_)
 refine wpAny_bind (wpAny_holding ?_)
 unfold Builtin.List.listLengthHint
 refine wpAny_bind (wpAny_specialOf hT F.lrv_no_len ?_)
 show wpAny _ A.in1 (specialOf (Value.ref I) (Str.ofString "__length_hint__") >>= _) _ _ _
 refine wpAny_bind (wpAny_specialOf hT F.slot_lrv_hint.lookup ?_)
 (generalize hid:("list_reverseiterator.__length_hint__" : String)=id0;(fail_if_success (clear hid id0));wp_delta;rw[show splitId id0=some ("list_reverseiterator", "__length_hint__") from by subst hid;decide +kernel];subst hid)
 refine wpAny_bind (wpAny_isInstance (b:=true) hT (by rw[isSubtype_type];kernel_rfl) ?_)
 rw[if_neg (by decide)]
 dsimp only
 split
 ·rw[if_neg (by decide +kernel)]
  refine wpAny_pure ?_
  rw[if_neg (by decide)]
  refine wpAny_pure ⟨plainId_quiet F.plain_extend_loop _,codeAny_extend_loopS W hn _ hSf _ n 0 _ _ _ rfl (Nat.zero_le _) hst hS (ItemsOf.nil P) fun s' acc' c' hm hS' hacc=>?_⟩
  exact hR s' acc' c' hm hS' hacc
 ·rename_i hs
  exact absurd (by decide +kernel) hs
theorem zBZ {l:Addr} {items:Array Value} (W:WalksS prog w A.in1 I fp wr G n P St) (hz:items.size<=sizeLine) (ho:s.heap.get? I=some (YA l ((items.size:Int) - 1))) (hli:s.heap.IsList l items) (S:Addr) (hst:St 0 s) (hSf:S ∉ fp) (hI:I∈fp) (hlf:l∈fp)
  (hS:s.heap.get? S=some { cls:=.type "list",data:=.seq #[] })
  (hR:∀ s' acc' c',Moved (S::wr) G s s'->s'.heap.get? S=some { cls:=.type "list",dict:=none,data:=.seq acc' c',slots := #[] }->ItemsOf P acc' n->R (.ok (.ret .none)) s') (hn:n<=sizeLine:=by size_fits) :
  wpAny (model prog w) A.in1 (Builtin.«list.__init__» ⟨[.ref S,.ref I],[]⟩)
   (fun fin s'=>match fin with | .done f=>R (.ok f) s' | .again c'=>c'.quiet=true/\codeAny (model prog w) A c' R s') (fun e s'=>R (.error e) s') s:=by
 have hSI:S ≠ I:=fun e=>hSf (e ▸ hI)
 unfold Builtin.«list.__init__»
 dsimp only
 rw[if_neg (by decide),if_neg (by simp)]
 refine wpAny_bind ?_
 unfold Builtin.List.listItems
 refine wpAny_bind (wpAny_seqItems hS rfl (wpAny_pure ?_))
 refine wpAny_bind (wpAny_updateSeq hS rfl ?_)
 have hS₂:=Heap.get?_update_self (Obj.mapSeq (fun _=>(#[]:Array Value))) hS rfl
 have oth:∀ b o,b ≠ S->s.heap.get? b=some o->(s.heap.update S (Obj.mapSeq (fun _=>(#[]:Array Value)))).get? b=some o :=
  fun b o hb e=>(Heap.get?_update_other _ _ (Ne.symm hb)).trans e
 refine wpAny_bind (wpAny_letGo ?_)
 refine zEY (s:={ s with heap:=s.heap.update S (Obj.mapSeq (fun _=>(#[]:Array Value))) }) (hn:=hn) W hz (oth _ _ (Ne.symm hSI) ho) (hli.at fun o e=>oth _ _ (fun h=>hSf (h ▸ hlf)) e) S .none _ (W.frame 0 s _ s.toks hst (Nat.le_refl _) fun b hb o e=>oth b o (fun h=>hSf (h ▸ hb)) e) hSf hI hlf hS₂ fun s' acc' c' hm hS' hacc=>?_
 exact hR s' acc' c' (Moved.trans W.gtrans ((Moved.refl W.grefl).then_heap (Nat.le_refl _) fun b o hb e=>oth b o (fun h=>hb (h ▸ List.mem_cons_self)) e) hm) hS' hacc
theorem zBt {E:Value->Shared->Prop} {Q:Value->Shared->Prop} {l:Addr} {items:Array Value} (W:WalksS prog w A.in1.in1 I fp wr G n P St) (hz:items.size<=sizeLine) (ho:s.heap.get? I=some (YA l ((items.size:Int) - 1))) (hli:s.heap.IsList l items) (hst:St 0 s) (hfp:∀ b∈fp,b < s.heap.objs.size) (hI:I∈fp) (hlf:l∈fp)
  (hQ:∀ s' acc' c',Moved (s.heap.objs.size::wr) G { s with heap:=s.heap.push { cls:=.type "list",data:=.seq #[] } } s' ->
   s'.heap.get? s.heap.objs.size=some { cls:=.type "list",dict:=none,data:=.seq acc' c',slots := #[] }->ItemsOf P acc' n->Q (.ref s.heap.objs.size) s') (hn:n<=sizeLine:=by size_fits) :
  wpAny (model prog w) A (call (.type "list") [.ref I]) Q E s:=by
 have hSf:s.heap.objs.size ∉ fp:=fun hm=>Nat.lt_irrefl _ (hfp _ hm)
 refine callType_codes (Q₁:=fun obj s₁=>obj=.ref s.heap.objs.size/\s₁={ s with heap:=s.heap.push { cls:=.type "list",data:=.seq #[] } }) F.called_list (F.typeCall_list_1 _) F.entry_list_init
  (code_list_new _ ⟨rfl,rfl⟩) fun obj s₁ h₁=>?_
 obtain⟨rfl,rfl⟩:=h₁
 have hS:(s.heap.push { cls:=.type "list",data:=.seq #[] }).get? s.heap.objs.size=some { cls:=.type "list",data:=.seq #[] }:=Heap.get?_push_size _ rfl
 refine⟨⟨_,hS,rfl⟩,F.args_list_init_2 _ _,zBZ (s:={ s with heap:=s.heap.push { cls:=.type "list",data:=.seq #[] } }) (hn:=hn) W hz (Heap.get?_push_of_some _ ho) (hli.at fun o e=>Heap.get?_push_of_some _ e) _ (W.frame 0 s _ s.toks hst (Nat.le_refl _) fun b _ o e=>Heap.get?_push_of_some _ e) hSf hI hlf hS fun s' acc' c' hm hS' hacc=>?_⟩
 exact⟨rfl,hQ s' acc' c' hm hS' hacc⟩
end
theorem Walks.listRv {prog:Program} {w:World} {A:Around} (hh:A.handled=none) (I l:Addr) (hne:l ≠ I) (items:Array Value) :
  Walks prog w A I [I,l] [I] items.size (fun i v=>items[items.size - 1 - i]? = some v) (fun i h=>i<=items.size/\h.get? I=some (YA l ((items.size:Int) - 1 - (i:Int)))/\h.IsList l items) where
 sub:=fun b hb=>by simp at hb;simp[hb]
 frame:=fun _ _ _ x hk=>⟨x.1,hk I (by simp) _ x.2.1,x.2.2.at fun o e=>hk l (by simp) o e⟩
 item:=fun i s Q E hi x hQ=>by
  have e:(items.size:Int) - 1 - (i:Int)=((items.size - 1 - i:Nat):Int):=by omega
  have ho:=x.2.1
  rw[e] at ho
  have hx:items[items.size - 1 - i]? = some (items[items.size - 1 - i]'(by omega)):=Array.getElem?_eq_getElem (by omega)
  refine zBv ho x.2.2 hx fun h' ho' hs'=>?_
  have e2:((items.size - 1 - i:Nat):Int) - 1=(items.size:Int) - 1 - ((i+1:Nat):Int):=by omega
  rw[e2] at ho'
  exact hQ _ h' s.toks hx ⟨hi,ho',x.2.2.extBut hs'.extBut hne⟩ fun b o hb eo=>hs'.extBut b o (fun h=>hb (by simp[h])) eo
 done:=fun s Q E x hQ=>by
  have e:(items.size:Int) - 1 - (items.size:Int) = -1:=by omega
  have ho:=x.2.1
  rw[e] at ho
  exact zC1 hh ho fun h' he'=>hQ h' s.toks fun b o hb eo=>he' b o (fun h=>hb (by simp[h])) eo
 self:=fun _ _ _ _ x hQ=>zI2 x.2.1 hQ
end PySem
namespace L2
open PySem PySem.Spec PyProof.Rows
section
variable {X:Cx}
theorem zFP {xs:List V} {its:List Value} {acc:Array Value} (r:Vals xs its) (h:ItemsOf (fun i v=>its.toArray[its.toArray.size - 1 - i]? = some v) acc its.toArray.size):Vals xs.reverse acc.toList:=by
 have e:acc.toList=its.reverse:=by
  refine List.ext_getElem? fun i=>?_
  by_cases hi:i < its.length
  ·have hs:acc.size=its.length:=by have:=h.1;simpa using this
   have hia:i < acc.size:=by omega
   have h2:=h.2 i acc[i] (Array.getElem?_eq_getElem hia)
   rw[List.getElem?_reverse hi]
   have h3:its[its.length - 1 - i]? = some acc[i]:=by simpa using h2
   rw[h3]
   simp[hia]
  ·have hs:acc.size=its.length:=by have:=h.1;simpa using this
   rw[List.getElem?_eq_none (by simp;omega),List.getElem?_eq_none (by simp;omega)]
 rw[e]
 exact r.reverse
def zBw (te:TE):TE:=fun σ H Q=>te σ H fun x H1=>∃ a xs,x=.ref a/\H1 a=some (.lst xs)/\∀ l,H1 l=none->Q (.ref l) (upd H1 l (.lst xs.reverse))
theorem zDY {e:Expr} {te:TE} {p1 p2 pos1 pos2:Pos} (hc:X.calm=true) (hgL:Gl X "list") (hmL:X.mg "list" = none) (hgR:Gl X "reversed") (hmR:X.mg "reversed" = none) (he:PE X e te)
  (hs1:starEach [e] X.env=[(false,eval e X.env)]:=by rfl) (hs2:starEach [Expr.Call (.Name "reversed" p2) [e] [] pos2] X.env=[(false,eval (Expr.Call (.Name "reversed" p2) [e] [] pos2) X.env)]:=by rfl) :
  PE X (.Call (.Name "list" p1) [.Call (.Name "reversed" p2) [e] [] pos2] [] pos1) (zBw te):=by
 intro pins s σ H Q I h
 refine wpAny_Call_Name_kw (Zf I hgL hmL boot_list ?_)
 refine PyProof.Rows.callWith_type1 ?_ hs2 rfl
 rw[hs2]
 show wpAny _ _ (spliced ((false,eval (Expr.Call (.Name "reversed" p2) [e] [] pos2) X.env)::[])) _ _ s
 refine Calls.spliced_cons ?_
 refine wpAny_Call_Name_kw (Zf I hgR hmR boot_reversed ?_)
 refine PyProof.Rows.callWith_type1 ?_ hs1 rfl
 rw[hs1]
 show wpAny _ _ (spliced ((false,eval e X.env)::[])) _ _ s
 refine Calls.spliced_cons (thn (he pins s σ H _ I h) fun u s1 ⟨x,H1,I1,r1,a,xs,e1,hq,q⟩=>Calls.spliced_nil ?_)
 subst e1
 cases r1
 obtain⟨hz,its,n,r,eo⟩:=I1.hok a _ hq
 have hlen:=r.length
 have hal:a < s1.heap.objs.size:=Heap.lt_size eo
 have hzz:its.toArray.size<=sizeLine:=by rw[List.size_toArray];omega
 refine zBq eo (Calls.spliced_nil ?_)
 have ho:(s1.heap.push (YA a ((its.toArray.size:Int) - 1))).get? s1.heap.objs.size=some (YA a ((its.toArray.size:Int) - 1)):=Heap.get?_push_size _ rfl
 have hsz:(s1.heap.push (YA a ((its.toArray.size:Int) - 1))).objs.size=s1.heap.objs.size+1:=Heap.size_push ..
 have hli:(s1.heap.push (YA a ((its.toArray.size:Int) - 1))).IsList a its.toArray:=⟨_,Heap.get?_push_of_some _ eo,rfl,_,rfl⟩
 have W:=(Walks.listRv (prog:=X.prog) (w:=X.w) (A:=X.A.in1.in1) (I1.ok.hd hc) s1.heap.objs.size a (Nat.ne_of_lt hal) its.toArray).toS
 refine zBt (s:={ s1 with heap:=s1.heap.push (YA a ((its.toArray.size:Int) - 1)) }) W hzz ho hli ⟨Nat.zero_le _,by rw[show ((its.toArray.size:Int) - 1 - ((0:Nat):Int))=(its.toArray.size:Int) - 1 from by omega];exact ho,hli⟩ (fun b hb=>by
   show _ < (s1.heap.push _).objs.size
   rw[hsz]
   rcases List.mem_cons.mp hb with z | z
   ·rw[z];exact Nat.lt_succ_self _
   ·rw[List.mem_singleton.mp z];exact Nat.lt_succ_of_lt hal) (by simp) (by simp) (fun s' acc' c' hm hS' hacc=>?_) hzz
 have kp:∀ b o,s1.heap.get? b=some o->s'.heap.get? b=some o:=fun b o eb=>by
  have hb:=Heap.lt_size eb
  refine hm.heap b o (fun hmem=>?_) (Heap.get?_push_of_some _ (Heap.get?_push_of_some _ eb))
  have hmem':b∈[(s1.heap.push (YA a ((its.toArray.size:Int) - 1))).objs.size,s1.heap.objs.size]:=hmem
  rw[hsz] at hmem'
  rcases List.mem_cons.mp hmem' with e2 | e2
  ·exact absurd e2 (Nat.ne_of_lt (Nat.lt_succ_of_lt hb))
  ·exact absurd (List.mem_singleton.mp e2) (Nat.ne_of_lt hb)
 have hS2:s'.heap.get? (s1.heap.objs.size+1)=some { cls:=.type "list",dict:=none,data:=.seq acc' c',slots := #[] }:=by rw[← hsz];exact hS'
 have I2:Inv X pins σ (upd H1 (s1.heap.objs.size+1) (.lst xs.reverse)) { s1 with heap:=s'.heap,toks:=s'.toks } :=
  I1.laid kp (Nat.le_succ _) ⟨by rw[List.length_reverse];exact hz,acc'.toList,c',zFP r hacc,by rw[hS2]⟩
 have es:s'={ s1 with heap:=s'.heap,toks:=s'.toks }:=by
  have h1:=hm.gens
  have h2:=hm.drawn
  have h3:=hm.os
  cases s'
  simp only at h1 h2 h3
  subst h1 h2 h3
  rfl
 rw[es]
 refine⟨.ref (s1.heap.objs.size+1),_,I2,?_,q _ (I1.hok.fresh (Nat.le_succ _))⟩
 show Value.ref _=Value.ref _
 rw[hsz]
end
end L2
namespace L2
open PySem PySem.Spec PyProof.Rows
structure CMeth (K:W.Frag) (C:Addr) (m:Str) (f:Addr):Prop where
 rd:PySem.W.readsIn K C (.type "type")=true
 sg:PySem.W.specialIn K (.ref C) "__getattribute__" = some (some (.builtin "type.__getattribute__"))
 fc:PySem.W.findCls K (.ref C) (.type "type") m=some (.val (.ref f))
 kp:W.keepIn K (.ref f)=true
section
variable {X:Cx} {CX:CXT} {k:Nat} {f C:Addr} {fd:FuncData} {ps:List Str} {sp:Sp} {dvs:List V} {ds:List Value} {E:XK} {x m:Str} {p pos apos:Pos} {e:Expr} {es:List Expr} {t:TA}
theorem zEe {pl:Sem Bool} (hg:Gl X x) (hm:X.mg x=some (.ref C)) (c:CMeth X.K C m f) (F:FnOk X.prog X.w X.K X.mg X.base CX k f fd ps sp) (hr:Room k X.A) (hb:Binds X.K fd ps ds) (hd:Vals dvs ds) (hx:Yo CX X E) (ha:PA X (e::es) t)
  (hdb:(x == ("__debug__" : Str))=false:=by decide) (hst:starEach (e::es) X.env=(false,eval e X.env)::starEach es X.env:=by rfl) (hpl:(backTo pos (starEach es X.env)).any (·.1)=false:=by rfl)
  (ht:eval (.Call (.Attribute (.Name x p) m apos) (e::es) [] pos) X.env=(do
   let ov ← eval (.Name x p) X.env
   standAt apos.atName
   let (f,first) ← holding [ov] (getMethod ov m pl)
   callWith pos f first (backTo pos (starEach (e::es) X.env)) (backToKw pos (keywordEach [] X.env))):=by rfl) :
  PE X (.Call (.Attribute (.Name x p) m apos) (e::es) [] pos) (zIp sp dvs E t):=by
 intro pins s σ H Q I h
 refine PySem.W.methodCall_KW (pl:=pl) (Yy I hg hm ?_ hdb) ht
 refine PySem.W.method_cls I.kIn c.sg (PySem.W.cls_value I.kIn c.rd c.fc rfl ?_)
 refine PySem.W.callWith_K (first:=[]) (h₀:=X.base) I.ok.mod.kin c.kp (thn (ha pos pins { s with toks:=s.toks+1 } σ H _ (I.tok _) h) fun us s1 ⟨vs,H1,I1,r,q⟩=>⟨I1.kIn,?_⟩) hst hpl
 exact zDF F hr hb hd hx I1 r q
end
end L2
namespace L2
open PySem PySem.Spec PyProof.Rows
theorem LB.cnt {st:Nat->Option Int} {n i:Nat} {cs:List Int} (hn:0 < n) (h:LB st n i cs):(∀ p,p < i->∃ m,st p=some m)->cs.countP (fun v=>v != -1)=i:=by
 induction h with
 | zero=>intro _;rw[List.countP_replicate];simp
 | skip _ e _=>intro ha;obtain⟨m,hm⟩:=ha _ (Nat.lt_succ_self _);rw[e] at hm;cases hm
 | @put i c m cs hb e hc ih =>
  intro ha
  have L:=hb.laid hn
  have hlen:=L.len
  have hsl:sl m n c < cs.length:=by rw[hlen];exact zBN hn
  have hat:cs[sl m n c]? = some (-1):=by
   have:=ZX (cs:=cs) (m:=m) (c:=c) (by omega)
   rw[hlen,hc.2.1] at this
   exact this
  have he:cs[sl m n c] = -1:=by
   rw[List.getElem?_eq_getElem hsl] at hat
   exact Option.some.inj hat
  rw[List.countP_set hsl,ih fun p hp=>ha p (by omega),he]
  have z:((i:Int) != -1)=true:=by simp
  rw[z]
  simp
theorem Fm.of_lb {st:Nat->Option Int} {n:Nat} {cs:List Int} {os:List (Option Kd)} (h2:IsP2 (n:Int)) (h:LB st n os.length cs) (hr:os.length < n) (hst:∀ p,p < os.length->∃ k:Kd,os[p]? = some (some k)/\st p=some k.st)
  (hk:∀ (p q:Nat) (k:Kd),os[p]? = some (some k)->os[q]? = some (some k)->p=q):Fm n cs os:=by
 have hn:0 < n:=by omega
 have L:=h.laid hn
 refine⟨L.len,h2,h.cnt hn (fun p hp=>let ⟨k,_,e⟩:=hst p hp;⟨k.st,e⟩),hr,fun j v hv=>?_,fun p k hp=>?_,fun i j v h1 h3 h4=>L.one i j v h1 h3 (by omega),hk⟩
 ·rcases L.old j v hv with e | ⟨p,hp,e,_⟩
  ·exact .inl e
  ·obtain⟨k,hk,_⟩:=hst p hp
   exact .inr (.inr ⟨p,k,e,hk⟩)
 ·have hpl:=(List.getElem?_eq_some_iff.mp hp).1
  obtain⟨k',e1,e2⟩:=hst p hpl
  rw[hp] at e1
  cases e1
  obtain⟨c,c1,c2,c3⟩:=L.has p _ hpl e2
  exact⟨c,c1,c2,fun c' hc'=>by have:=c3 c' hc';omega⟩
def Qv {α:Type}:List (Option Kd)->List α->List α
 | some _::os,a::l=>a::Qv os l
 | none::os,_::l=>Qv os l
 | _,_=>[]
def Qk (os:List (Option Kd)):List (Option Kd):=os.filter Option.isSome
theorem Yz {α:Type}:∀ {os:List (Option Kd)} {l:List α},l.length=os.length->(Qv os l).length=(Qk os).length
 | [],[],_=>rfl
 | some k::os,a::l,h=>by
  show (Qv os l).length+1=(Qk (some k::os)).length
  rw[Yz (os:=os) (l:=l) (by simpa using h)]
  rfl
 | none::os,a::l,h=>by
  show (Qv os l).length=(Qk (none::os)).length
  rw[Yz (os:=os) (l:=l) (by simpa using h)]
  rfl
theorem Jq {α β:Type} {f:α->β}:∀ {os:List (Option Kd)} {l:List α},(Qv os l).map f=Qv os (l.map f)
 | [],l=>by cases l <;> rfl
 | some k::os,[]=>rfl
 | none::os,[]=>rfl
 | some k::os,a::l=>by
  show f a::(Qv os l).map f=f a::Qv os (l.map f)
  rw[Jq]
 | none::os,a::l=>by
  show (Qv os l).map f=Qv os (l.map f)
  rw[Jq]
theorem J3 {α:Type} {x:α}:∀ {os:List (Option Kd)} {l:List α},x∈Qv os l->x∈l
 | [],l,h=>by cases l <;> simp[Qv] at h
 | some k::os,[],h=>by simp[Qv] at h
 | none::os,[],h=>by simp[Qv] at h
 | some k::os,a::l,h=>by
  have h':x∈a::Qv os l:=h
  rcases List.mem_cons.mp h' with z | z
  ·rw[z];exact List.mem_cons_self
  ·exact List.mem_cons_of_mem _ (J3 z)
 | none::os,a::l,h=>by
  have h':x∈Qv os l:=h
  exact List.mem_cons_of_mem _ (J3 h')
theorem zGh {os:List (Option Kd)} {p:Nat} (hp:p < (Qk os).length):∃ k:Kd,(Qk os)[p]? = some (some k):=by
 have e:(Qk os)[p]? = some (Qk os)[p]:=List.getElem?_eq_getElem hp
 have hm:(Qk os)[p]∈Qk os:=List.getElem_mem hp
 have:=(List.mem_filter.mp hm).2
 cases h:(Qk os)[p] with
 | none=>rw[h] at this;cases this
 | some k=>rw[h] at e;exact⟨k,e⟩
theorem Js {os:List (Option Kd)} {o:Option Kd} (h:o∈Qk os):o∈os:=(List.mem_filter.mp h).1
theorem zA6:∀ {os:List (Option Kd)} {p:Nat} {k:Kd},(Qk os)[p]? = some (some k)->∃ i:Nat,os[i]? = some (some k)
 | os,p,k,h=>List.getElem?_of_mem (Js (List.mem_of_getElem? h))
theorem Wo:∀ {os:List (Option Kd)},(∀ (p q:Nat) (k:Kd),os[p]? = some (some k)->os[q]? = some (some k)->p=q)->∀ (p q:Nat) (k:Kd),(Qk os)[p]? = some (some k)->(Qk os)[q]? = some (some k)->p=q
 | [],_,p,q,k,h,_=>by simp[Qk] at h
 | none::os,hu,p,q,k,h1,h2=>Wo (os:=os) (fun p q k e1 e2=>by have:=hu (p+1) (q+1) k (by simpa using e1) (by simpa using e2);omega) p q k h1 h2
 | some k0::os,hu,p,q,k,h1,h2=>by
  have ih:=Wo (os:=os) (fun p q k e1 e2=>by have:=hu (p+1) (q+1) k (by simpa using e1) (by simpa using e2);omega)
  have c:Qk (some k0::os)=some k0::Qk os:=rfl
  rw[c] at h1 h2
  match p,q,h1,h2 with
  | 0,0,_,_=>rfl
  | 0,q+1,h1,h2 =>
   cases h1
   obtain⟨i,hi⟩:=zA6 (os:=os) (p:=q) (k:=k0) (by simpa using h2)
   have:=hu 0 (i+1) k0 rfl (by simpa using hi)
   omega
  | p+1,0,h1,h2 =>
   cases h2
   obtain⟨i,hi⟩:=zA6 (os:=os) (p:=p) (k:=k0) (by simpa using h1)
   have:=hu 0 (i+1) k0 rfl (by simpa using hi)
   omega
  | p+1,q+1,h1,h2=>rw[ih p q k (by simpa using h1) (by simpa using h2)]
theorem Jy {α:Type}:∀ {os:List (Option Kd)} {l:List α},l.length=os.length->Q8 (Qk os) (Qv os l)=Q8 os l
 | [],[],_=>rfl
 | some k::os,a::l,h=>by
  show (k,a)::Q8 (Qk os) (Qv os l)=(k,a)::Q8 os l
  rw[Jy (by simpa using h)]
 | none::os,a::l,h=>by
  show Q8 (Qk os) (Qv os l)=Q8 os l
  rw[Jy (by simpa using h)]
def YR (os:List (Option Kd)):Nat:=(Qk os).length
theorem zGQ {os:List (Option Kd)} {k:Kd}:YR (os++[some k])=YR os+1:=by
 unfold YR Qk
 rw[List.filter_append,List.length_append]
 rfl
theorem zBI {k:Kd}:∀ {os:List (Option Kd)} {i:Nat},os[i]? = some (some k)->YR (os.set i none)+1=YR os
 | [],i,h=>by simp at h
 | o::os,0,h=>by cases h;rfl
 | some k0::os,i+1,h=>by
  have:=zBI (os:=os) (i:=i) (by simpa using h)
  show (Qk (os.set i none)).length+1+1=(Qk os).length+1
  unfold YR at this
  omega
 | none::os,i+1,h=>by
  have:=zBI (os:=os) (i:=i) (by simpa using h)
  show (Qk (os.set i none)).length+1=(Qk os).length
  exact this
end L2
namespace L2
open PySem PySem.Spec PyProof.Rows
theorem zA4 {H:Hp} {o:Option Kd} {os:List (Option Kd)} {x:V} {xs:List V} (h:IsKos H (o::os) (x::xs)):IsKo H o x/\IsKos H os xs :=
 ⟨h.2 0 o x rfl rfl,by have:=h.1;simpa using this,fun i o' x' e1 e2=>h.2 (i+1) o' x' (by simpa using e1) (by simpa using e2)⟩
theorem zEQ {H:Hp} {o:Option Kd} {os:List (Option Kd)} {x:V} {xs:List V} (h:IsKo H o x) (t:IsKos H os xs):IsKos H (o::os) (x::xs):=(IsKos.one h).app t
theorem zHS {H:Hp} {o:Option Kd} {x:V} (h:IsKo H o x):NN x=o.isSome:=by
 unfold NN
 rw[h.non]
 cases o <;> rfl
theorem zE1 {H:Hp}:∀ {os:List (Option Kd)} {xs:List V},IsKos H os xs->IsKos H (Qk os) (Kp xs)
 | [],[],_=>IsKos.nil
 | [],x::xs,h=>by have:=h.1;simp at this
 | o::os,[],h=>by have:=h.1;simp at this
 | o::os,x::xs,h=>by
  obtain⟨h1,h2⟩:=zA4 h
  have ih:=zE1 h2
  have n:=zHS h1
  unfold Kp at ih ⊢
  cases o with
  | none=>rw[List.filter_cons_of_neg (by rw[n];decide)];exact ih
  | some k=>rw[List.filter_cons_of_pos (by rw[n];rfl)];exact zEQ h1 ih
theorem zCZ {H:Hp}:∀ {os:List (Option Kd)} {xs ys:List V},IsKos H os xs->ys.length=os.length->Kb xs ys=Qv os ys
 | [],xs,[],h,_=>by cases xs with | nil=>rfl | cons x xs=>have:=h.1;simp at this
 | o::os,[],y::ys,h,_=>by have:=h.1;simp at this
 | o::os,x::xs,y::ys,h,hl=>by
  obtain⟨h1,h2⟩:=zA4 h
  have ih:=zCZ (ys:=ys) h2 (by simpa using hl)
  have n:=zHS h1
  unfold Kb at ih ⊢
  rw[List.zip_cons_cons]
  cases o with
  | none=>rw[List.filter_cons_of_neg (by show ¬ NN x=true;rw[n];decide)];exact ih
  | some k =>
   rw[List.filter_cons_of_pos (by show NN x=true;rw[n];rfl)]
   show y::_=y::Qv os ys
   rw[ih]
end L2
namespace L2
open PySem PySem.Spec PyProof.Rows
def gm (os:List (Option Kd)) (v:Int):Int:=if v < 0 then v else match os[v.toNat]? with | some (some _)=>v | _ => -2
structure Hist (n:Nat) (cs:List Int) (os:List (Option Kd)) (ks:List Kd):Prop where
 len:ks.length=os.length
 at_:∀ (i:Nat) k,os[i]? = some (some k)->ks[i]? = some k
 lb:∃ L,LB (fun p=>(ks[p]?).map Kd.st) n ks.length L/\cs=L.map (gm os)
end L2
namespace L2
open PySem PySem.Spec PyProof.Rows
theorem zMw {X:Cx} {P:Program} {w:World}:Yo (CXe P w) X E0:=fun _ _ _ _ _ _ _ h=>by
 obtain⟨_,_,_,_,_,_,_,_,_,_,_,h⟩:=h
 exact h.elim
end L2
namespace L2
open PySem PySem.Spec PyProof.Rows
end L2
namespace L2
open PySem PySem.Spec PyProof.Rows
section
variable {X:Cx}
def zFq:R2:=fun x y H Q=>∃ z k,x=.str z/\y=.int k/\0<=k/\k<=1000/\1<=z.length/\z.length<=1000/\∀ r:Str,(r.length:Int)=k*z.length->Q (.str r) H
theorem zCQ:OpR X (binaryOp .Mult) zFq:=by
 intro pins s σ H x y v u Q I rx ry h
 obtain⟨z,k,rfl,rfl,h1,h2,h3,h4,q⟩:=h
 by_cases e:1<=k
 ·exact zKE pins s σ H _ _ v u Q I rx ry ⟨z,k,rfl,rfl,e,h2,h3,h4,q⟩
 ·have e0:k=0:=by omega
  subst e0
  obtain⟨t,rfl⟩:=rx
  obtain⟨t',rfl⟩:=ry
  exact PySem.P.mul_str_none (by decide) (by decide) ⟨.str Str.empty,H,I.tok _,⟨_,rfl⟩,q Str.empty (by rw[Int.zero_mul];rfl)⟩
end
end L2
namespace PySem
structure KeyAt (prog:Program) (w:World) (A:Around) (s:Shared) (es:Array DictEntry) (key:Value) (hs:Int) (b:Nat->Bool):Prop where
 eq:∀ i e tk,es[i]? = some e->SeqAt.EqAt A { s with toks:=tk } e.key key (b i)
 hash:∀ i e,es[i]? = some e->b i=true->e.hash=hs
 uni:∀ i j,i < es.size->j < es.size->b i=true->b j=true->i=j
 quiet:∀ (E:Value->Shared->Prop) (Q:Bool->Shared->Prop) tk,Q true { s with toks:=tk }->wpAny (model prog w) A (eqIsQuiet 8 key) Q E { s with toks:=tk }
 quiets:∀ e∈es,∀ (E:Value->Shared->Prop) (Q:Bool->Shared->Prop) tk,Q true { s with toks:=tk }->wpAny (model prog w) A (eqIsQuiet 8 e.key) Q E { s with toks:=tk }
 ref:∀ e∈es,e.key=key->carriedByValue key=false->e.hash=hs
 kind:(∃ i t,key=.int i t)\/(∃ x t,key=.str x t/\∀ i e,es[i]? = some e->isExactStrKey e.key=true->e.key.isStr x=b i)\/∃ a,key=.ref a
 py:∀ (E:Value->Shared->Prop) (Q:Int->Shared->Prop) tk,(∀ tk',Q hs { s with toks:=tk' })->wpAny (model prog w) A (pyHash key) Q E { s with toks:=tk }
section
variable {prog:Program} {w:World} {A:Around} {E:Value->Shared->Prop} {s:Shared} {es:Array DictEntry} {key:Value} {hs:Int} {b:Nat->Bool} {d:Addr} {o:Obj} {ep:Nat}
theorem KeyAt.tok (K:KeyAt prog w A s es key hs b) (tk:Nat):KeyAt prog w A { s with toks:=tk } es key hs b :=
 ⟨fun i e t h=>K.eq i e t h,K.hash,K.uni,fun E Q t h=>K.quiet E Q t h,fun e he E Q t h=>K.quiets e he E Q t h,K.ref,K.kind,fun E Q t h=>K.py E Q t h⟩
def ZE (es:Array DictEntry) (hs:Int):List Nat:=placesWithHash es.size (fun i=>es[i]?.map (·.hash)) hs
theorem zJv:(ZE es hs).Nodup:=by
 unfold ZE placesWithHash
 exact List.filter_sublist.nodup List.nodup_range
theorem Jb {i:Nat} (h:i∈ZE es hs):i < es.size:=by
 unfold ZE placesWithHash at h
 exact List.mem_range.mp (List.mem_filter.mp h).1
theorem KeyAt.in_plcs (K:KeyAt prog w A s es key hs b) {i:Nat} (hi:i < es.size) (hb:b i=true):i∈ZE es hs:=by
 unfold ZE placesWithHash
 refine List.mem_filter.mpr ⟨List.mem_range.mpr hi,?_⟩
 have e:=Array.getElem?_eq_getElem hi
 show (Option.map (fun x:DictEntry=>x.hash) es[i]? == some hs)=true
 rw[e,Option.map_some,K.hash i _ e hb]
 exact beq_self_eq_true _
theorem zEF (K:KeyAt prog w A s es key hs b) (ho:s.heap.get? d=some o) (hd:o.data=.dict es ep) {Q:Option Nat->Shared->Prop} (hnone:(∀ i,i < es.size->b i=false)->Q none s) (hsome:∀ i,i < es.size->b i=true->Q (some i) s) :
  wpAny (model prog w) A (dictWalkPlain d key hs es (ZE es hs)) Q E s:=by
 unfold dictWalkPlain
 refine wpAny_bind ?_
 refine wpAny_forIn_list _ (fun YS r s'=>s'=s/\r=(none,())/\∃ dn,ZE es hs=dn++YS/\∀ j∈dn,b j=false) _ ?_ ?_ _ _ ⟨rfl,rfl,[],rfl,fun _ h=>by cases h⟩
 ·rintro x YS r s' ⟨rfl,rfl,dn,hpl,hdn⟩
  have hx:x < es.size:=Jb (hs:=hs) (by rw[hpl];simp)
  have ex:=Array.getElem?_eq_getElem hx
  rw[ex]
  dsimp only
  have nx:b x=false->∃ dn,ZE es hs=dn++YS/\∀ j∈dn,b j=false:=fun hb=>⟨dn++[x],by rw[hpl];simp,fun j hj=>by
   rcases List.mem_append.mp hj with h | h
   ·exact hdn j h
   ·rw[List.mem_singleton.mp h];exact hb⟩
  by_cases hh:(es[x].hash == hs)=true
  ·rw[if_pos hh]
   refine wpAny_bind (wpAny_dictEpoch ho hd (wpAny_bind (K.eq x _ s'.toks ex prog w E _ (wpAny_bind (wpAny_dictEpoch ho hd ?_)))))
   rw[if_neg (by simp)]
   cases hb:b x with
   | true=>exact wpAny_bind (wpAny_rule (wpAny_pure (wpAny_pure (hsome x hx hb))))
   | false=>exact wpAny_bind (wpAny_rule (wpAny_pure ⟨rfl,rfl,nx hb⟩))
  ·rw[if_neg hh]
   refine wpAny_pure ⟨rfl,rfl,nx ?_⟩
   cases hb:b x with
   | false=>rfl
   | true=>exact absurd (by rw[K.hash x _ ex hb];exact beq_self_eq_true _) hh
 ·rintro r s' ⟨rfl,rfl,dn,hpl,hdn⟩
  refine wpAny_pure (hnone fun i hi=>?_)
  cases hb:b i with
  | false=>rfl
  | true =>
   have hm:=K.in_plcs hi hb
   rw[hpl,List.append_nil] at hm
   rw[← hb,hdn i hm]
theorem zHt (K:KeyAt prog w A s es key hs b) {st:List Value} (hst:∀ v∈st,∃ e∈es,v=e.key) {Q:Bool->Shared->Prop} (h:Q false s):wpAny (model prog w) A (tableMayTell key st) Q E s:=by
 unfold tableMayTell
 split
 ·exact wpAny_pure h
 ·refine wpAny_bind (K.quiet E _ s.toks ?_)
  rw[if_neg (by decide)]
  refine wpAny_bind ?_
  refine wpAny_forIn_list _ (fun YS r s'=>s'=s/\r=(none,())/\∀ v∈YS,∃ e∈es,v=e.key) _ ?_ ?_ _ _ ⟨rfl,rfl,hst⟩
  ·rintro x YS r s' ⟨rfl,rfl,hr⟩
   obtain⟨e,he,rfl⟩:=hr x List.mem_cons_self
   refine wpAny_bind (K.quiets e he E _ s'.toks ?_)
   rw[if_neg (by decide)]
   exact wpAny_pure ⟨rfl,rfl,fun v hv=>hr v (List.mem_cons_of_mem _ hv)⟩
  ·rintro r s' ⟨rfl,rfl,_⟩
   exact wpAny_pure h
theorem zJZ (K:KeyAt prog w A s es key hs b) (ho:s.heap.get? d=some o) (hd:o.data=.dict es ep) {x:Str} (hb:∀ i e,es[i]? = some e->e.key.isStr x=b i) {Q:Option Nat->Shared->Prop} (hnone:(∀ i,i < es.size->b i=false)->Q none s) (hsome:∀ i,i < es.size->b i=true->Q (some i) s) :
  wpAny (model prog w) A (foundByValue d key es x) Q E s:=by
 unfold foundByValue
 cases hf:es.findIdx? (·.key.isStr x) with
 | none =>
  refine wpAny_pure (hnone fun i hi=>?_)
  have:=Array.findIdx?_eq_none_iff.mp hf es[i] (Array.getElem_mem hi)
  rw[← hb i _ (Array.getElem?_eq_getElem hi)]
  simpa using this
 | some i =>
  obtain⟨hi,h1,_⟩:=Array.findIdx?_eq_some_iff_getElem.mp hf
  have ei:=Array.getElem?_eq_getElem hi
  have hbi:b i=true:=by rw[← hb i _ ei];exact h1
  dsimp only
  rw[ei]
  dsimp only
  refine wpAny_bind (wpAny_dictEpoch ho hd (wpAny_bind (K.eq i _ s.toks ei prog w E _ (wpAny_bind (wpAny_dictEpoch ho hd ?_)))))
  rw[if_neg (by simp),hbi]
  exact wpAny_bind (wpAny_rule (wpAny_pure (hsome i hi hbi)))
theorem zDN (K:KeyAt prog w A s es key hs b) (ho:s.heap.get? d=some o) (hd:o.data=.dict es ep) {Q:Option Nat->Shared->Prop} (hnone:(∀ i,i < es.size->b i=false)->Q none s) (hsome:∀ i,i < es.size->b i=true->Q (some i) s) :
  wpAny (model prog w) A (dictFind d key hs) Q E s:=by
 have hst:∀ v∈(ZE es hs).filterMap (fun i=>es[i]?.map (·.key)),∃ e∈es,v=e.key:=by
  intro v hv
  obtain⟨i,hi,hv⟩:=List.mem_filterMap.mp hv
  have ei:=Array.getElem?_eq_getElem (Jb hi)
  rw[ei] at hv
  exact⟨_,Array.getElem_mem _,(Option.some.inj hv).symm⟩
 unfold dictFind
 try with_reducible refine wpAny_holding ?_
 refine wpAny_bind (wpAny_dictEntries ho hd ?_)
 rcases K.kind with ⟨i,t,rfl⟩ | ⟨x,t,rfl,hx⟩ | ⟨a,rfl⟩
 case' inl =>
  show wpAny _ _ (if (_::(ZE es hs).filterMap (fun i=>es[i]?.map (·.key))).all carriedByValue=true then _ else _) _ _ _
  by_cases hv:(Value.int i t::(ZE es hs).filterMap (fun i=>es[i]?.map (·.key))).all carriedByValue=true
  ·rw[if_pos hv]
   exact zEF K ho hd hnone hsome
  rw[if_neg hv]
 case' inr.inl =>
  show wpAny _ _ (if es.all (fun e=>isExactStrKey e.key)=true then _ else _) _ _ _
  by_cases hall:es.all (fun e=>isExactStrKey e.key)=true
  ·rw[if_pos hall]
   exact zJZ K ho hd (fun i e he=>hx i e he (by
    have:=Array.all_eq_true_iff_forall_mem.mp hall e (Array.mem_of_getElem? he)
    exact this)) hnone hsome
  rw[if_neg hall]
  show wpAny _ _ (if (_::(ZE es hs).filterMap (fun i=>es[i]?.map (·.key))).all carriedByValue=true then _ else _) _ _ _
  by_cases hv:(Value.str x t::(ZE es hs).filterMap (fun i=>es[i]?.map (·.key))).all carriedByValue=true
  ·rw[if_pos hv]
   exact zEF K ho hd hnone hsome
  rw[if_neg hv]
 case' inr.inr =>
  show wpAny _ _ (if (_::(ZE es hs).filterMap (fun i=>es[i]?.map (·.key))).all carriedByValue=true then _ else _) _ _ _
  rw[if_neg (by simp[carriedByValue])]
  show wpAny _ _ (if (es.any fun e=>e.key == Value.ref a && e.hash != hs)=true then _ else _) _ _ _
  rw[if_neg (by
   rw[← Array.any_toList,List.any_eq_true]
   rintro ⟨e,he,hc⟩
   rw[Bool.and_eq_true] at hc
   have h1:e.key=Value.ref a:=eq_of_beq hc.1
   have h2:=K.ref e (Array.mem_toList_iff.mp he) h1 rfl
   simp[h2] at hc)]
 all_goals
  show wpAny _ _ (if ((ZE es hs).filterMap (fun i=>es[i]?.map (·.key)) == [_])=true then _ else _) _ _ _
 case' inl=>by_cases hone:((ZE es hs).filterMap (fun i=>es[i]?.map (·.key)) == [Value.int i t])=true
 case' inr.inl=>by_cases hone:((ZE es hs).filterMap (fun i=>es[i]?.map (·.key)) == [Value.str x t])=true
 case' inr.inr=>by_cases hone:((ZE es hs).filterMap (fun i=>es[i]?.map (·.key)) == [Value.ref a])=true
 all_goals first | rw[if_pos hone] | rw[if_neg hone]
 all_goals first | refine wpAny_bind (wpAny_pure ?_) | refine wpAny_bind (zHt K hst ?_)
 all_goals
  show wpAny _ _ (if (false && _)=true then _ else _) _ _ _
  rw[if_neg (by simp)]
  refine wpAny_bind ?_
  refine wpAny_forIn_list _ (fun YS r s'=>s'=s/\∃ hit dn,r=(none,hit)/\ZE es hs=dn++YS/\((hit=none/\∀ j∈dn,b j=false)\/∃ j,j∈dn/\hit=some j/\b j=true)) _ ?_ ?_ _ _
   ⟨rfl,none,[],rfl,rfl,.inl ⟨rfl,fun _ h=>by cases h⟩⟩
  ·rintro x YS r s' ⟨rfl,hit,dn,rfl,hpl,hH⟩
   have hx:x < es.size:=Jb (hs:=hs) (by rw[hpl];simp)
   have ex:=Array.getElem?_eq_getElem hx
   have hpl':ZE es hs=(dn++[x])++YS:=by rw[hpl];simp
   have nx:b x=false->((hit=none/\∀ j∈dn++[x],b j=false)\/∃ j,j∈dn++[x]/\hit=some j/\b j=true):=fun hb=>by
    rcases hH with ⟨h0,hdn⟩ | ⟨j,hj,h1,h2⟩
    ·refine .inl ⟨h0,fun j hj=>?_⟩
     rcases List.mem_append.mp hj with h | h
     ·exact hdn j h
     ·rw[List.mem_singleton.mp h];exact hb
    ·exact .inr ⟨j,List.mem_append_left _ hj,h1,h2⟩
   rw[ex]
   dsimp only
   by_cases hh:(es[x].hash == hs)=true
   ·rw[if_pos hh]
    refine wpAny_bind (wpAny_dictEpoch ho hd (wpAny_bind (K.eq x _ s'.toks ex prog w E _ (wpAny_bind (wpAny_dictEpoch ho hd ?_)))))
    rw[if_neg (by simp)]
    cases hb:b x with
    | true =>
     rcases hH with ⟨rfl,hdn⟩ | ⟨j,hj,_,h2⟩
     ·rw[if_pos rfl,if_neg (by simp)]
      refine wpAny_bind (wpAny_rule ?_)
      split
      ·exact wpAny_pure (wpAny_pure (hsome x hx hb))
      ·exact wpAny_pure ⟨rfl,some x,dn++[x],rfl,hpl',.inr ⟨x,by simp,rfl,hb⟩⟩
     ·have hjx:j=x:=K.uni j x (Jb (hs:=hs) (by rw[hpl];simp[hj])) hx h2 hb
      have nd:=zJv (es:=es) (hs:=hs)
      rw[hpl,List.nodup_append] at nd
      exact absurd hjx (nd.2.2 j hj x List.mem_cons_self)
    | false =>
     rw[if_neg (by decide)]
     refine wpAny_bind (wpAny_rule ?_)
     rw[if_neg (by simp)]
     exact wpAny_pure ⟨rfl,hit,dn++[x],rfl,hpl',nx hb⟩
   ·rw[if_neg hh]
    refine wpAny_pure ⟨rfl,hit,dn++[x],rfl,hpl',nx ?_⟩
    cases hb:b x with
    | false=>rfl
    | true=>exact absurd (by rw[K.hash x _ ex hb];exact beq_self_eq_true _) hh
  ·rintro r s' ⟨rfl,hit,dn,rfl,hpl,hH⟩
   rcases hH with ⟨rfl,hdn⟩ | ⟨j,hj,rfl,h2⟩
   ·refine wpAny_pure (hnone fun i hi=>?_)
    cases hb:b i with
    | false=>rfl
    | true =>
     have hm:=K.in_plcs hi hb
     rw[hpl,List.append_nil] at hm
     rw[← hb,hdn i hm]
   ·exact wpAny_pure (hsome j (Jb (hs:=hs) (by rw[hpl];simp[hj])) h2)
end
end PySem
namespace PySem
def RawD (h:Heap) (d:Addr) (es:Array DictEntry) (ep:Nat):Prop:=∃ o,h.get? d=some o/\o.ExactDict/\o.data=.dict es ep
section
variable {prog:Program} {w:World} {A:Around} {E:Value->Shared->Prop} {s:Shared} {es:Array DictEntry} {key:Value} {hs:Int} {b:Nat->Bool} {d:Addr} {ep:Nat}
theorem RawD.typeIs (r:RawD s.heap d es ep):s.TypeIs (.ref d) "dict" := let ⟨o,ho,hc,_⟩:=r;⟨o,ho,hc.1⟩
theorem zHc (K:KeyAt prog w A s es key hs b) (r:RawD s.heap d es ep) {Q:Option Value->Shared->Prop} (hnone:(∀ i,i < es.size->b i=false)->∀ tk,Q none { s with toks:=tk })
  (hsome:∀ i e,es[i]? = some e->b i=true->∀ tk,Q (some e.val) { s with toks:=tk }):wpAny (model prog w) A (dictGet d key) Q E s:=by
 obtain⟨o,ho,hc,hd⟩:=r
 unfold dictGet
 try with_reducible refine wpAny_holding ?_
 refine wpAny_bind (K.py E _ s.toks fun tk=>wpAny_bind (zDN (K.tok tk) ho hd ?_ ?_))
 ·intro h
  exact wpAny_pure (hnone h tk)
 ·intro i hi hb
  refine wpAny_bind (wpAny_dictEntries (s:={ s with toks:=tk }) ho hd ?_)
  have ei:=Array.getElem?_eq_getElem hi
  rw[ei]
  exact wpAny_pure (hsome i _ ei hb tk)
theorem zLN (K:KeyAt prog w A s es key hs b) (r:RawD s.heap d es ep) (hz:es.size<=sizeLine) {v:Value} {Q:Unit->Shared->Prop}
  (hnew:(∀ i,i < es.size->b i=false)->∀ h' tk,RawD h' d (es.push ⟨hs,key,v⟩) (ep+1)->Heap.SameBut d s.heap h'->Q () { s with heap:=h',toks:=tk })
  (hold:∀ i e,es[i]? = some e->b i=true->∀ h' tk,RawD h' d (es.modify i fun e=>{ e with val:=v }) ep->Heap.SameBut d s.heap h'->Q () { s with heap:=h',toks:=tk }):wpAny (model prog w) A (dictSet d key v) Q E s:=by
 obtain⟨o,ho,hc,hd⟩:=r
 unfold dictSet
 try with_reducible refine wpAny_holding ?_
 refine wpAny_bind (K.py E _ s.toks fun tk=>?_)
 unfold dictSetHashed
 try with_reducible refine wpAny_holding ?_
 refine wpAny_bind (zDN (K.tok tk) ho hd ?_ ?_)
 ·intro h
  refine wpAny_bind (wpAny_rule (wpAny_updateDictKeys (hz:=hz) (s:={ s with toks:=tk }) ho hd (hnew h _ tk ⟨_,Heap.get?_update_self _ ho (Obj.isFreed_of_dict (Obj.data_mapDictKeys hd _)),hc.mapDictKeys _,Obj.data_mapDictKeys hd _⟩ (Heap.SameBut.update ..))))
 ·intro i hi hb
  exact wpAny_bind (wpAny_rule (wpAny_bind (wpAny_updateDict (s:={ s with toks:=tk }) ho hd (wpAny_point (hold i _ (Array.getElem?_eq_getElem hi) hb _ tk ⟨_,Heap.get?_update_self _ ho (Obj.isFreed_of_dict (Obj.data_mapDict hd _)),hc.mapDict _,Obj.data_mapDict hd _⟩ (Heap.SameBut.update ..))))))
theorem zLe (K:KeyAt prog w A s es key hs b) (r:RawD s.heap d es ep) (hz:es.size<=sizeLine) {Q:Option DictEntry->Shared->Prop} (hnone:(∀ i,i < es.size->b i=false)->∀ tk,Q none { s with toks:=tk })
  (hsome:∀ i e,es[i]? = some e->b i=true->∀ h' tk,RawD h' d (es.eraseIdxIfInBounds i) (ep+1)->Heap.SameBut d s.heap h'->Q (some e) { s with heap:=h',toks:=tk }):wpAny (model prog w) A (Builtin.Dict.takeOut d key) Q E s:=by
 obtain⟨o,ho,hc,hd⟩:=r
 unfold Builtin.Dict.takeOut
 try with_reducible refine wpAny_holding ?_
 refine wpAny_bind (K.py E _ s.toks fun tk=>wpAny_bind (zDN (K.tok tk) ho hd ?_ ?_))
 ·intro h
  exact wpAny_pure (hnone h tk)
 ·intro i hi hb
  refine wpAny_bind (wpAny_dictEntries (s:={ s with toks:=tk }) ho hd ?_)
  have ei:=Array.getElem?_eq_getElem hi
  rw[ei]
  exact wpAny_bind (wpAny_updateDictKeys (hz:=hz) (s:={ s with toks:=tk }) ho hd (wpAny_pure (hsome i _ ei hb _ tk ⟨_,Heap.get?_update_self _ ho (Obj.isFreed_of_dict (Obj.data_mapDictKeys hd _)),hc.mapDictKeys _,Obj.data_mapDictKeys hd _⟩ (Heap.SameBut.update ..))))
theorem zDr (K:KeyAt prog w A.in1 s es key hs b) (r:RawD s.heap d es ep) (hd:(d == sysModules)=false) {Q:Bool->Shared->Prop} (hnone:(∀ i,i < es.size->b i=false)->∀ tk,Q false { s with toks:=tk })
  (hsome:∀ i e,es[i]? = some e->b i=true->∀ tk,Q true { s with toks:=tk }):wpAny (model prog w) A (contains (.ref d) key) Q E s:=by
 unfold contains
 try with_reducible refine wpAny_holding ?_
 refine wpAny_bind (wpAny_specialOf r.typeIs slot_dict_contains.lookup ?_)
 show wpAny _ _ (if (some (Value.builtin "dict.__contains__") == some Value.none)=true then _ else _) _ E s
 rw[if_neg (by rw[beq_builtin_none];exact Bool.false_ne_true)]
 refine wpAny_bind (wpAny_callSpecialUnlessNone?_slot (name:=Str.ofString "__contains__") r.typeIs slot_dict_contains
  (wpAny_call_entry slot_dict_contains r.typeIs entry_dict_contains ?_ (args_dict_contains _ _)))
 show wpAny _ _ (dictGet d key >>= _) _ _ s
 refine wpAny_bind (zHc K r ?_ ?_)
 ·intro h tk
  show wpAny _ _ (Builtin.Dict.pendingKey? d key >>= _) _ _ _
  exact wpAny_bind (wpAny_pendingKey_other hd (wpAny_pure ⟨_,rfl,wpAny_truthy_bool (hnone h tk)⟩))
 ·intro i e ei hb tk
  exact wpAny_pure ⟨_,rfl,wpAny_truthy_bool (hsome i e ei hb tk)⟩
theorem zJ0 (K:KeyAt prog w A.in1 s es key hs b) (r:RawD s.heap d es ep) {Q:Value->Shared->Prop} {i:Nat} {e:DictEntry} (hi:es[i]? = some e) (hb:b i=true) (h:∀ tk,Q e.val { s with toks:=tk }) :
  wpAny (model prog w) A (getItem (.ref d) key) Q E s:=by
 unfold getItem
 try with_reducible refine wpAny_holding ?_
 refine wpAny_bind (wpAny_sequenceKey r.typeIs (by decide) ?_)
 refine wpAny_bind (wpAny_callSpecial?_slot (name:=Str.ofString "__getitem__") r.typeIs slot_dict_getitem
  (wpAny_call_entry slot_dict_getitem r.typeIs entry_dict_getitem ?_ (args_dict_getitem _ _)))
 show wpAny _ _ (dictGet d key >>= _) _ _ s
 have hlt:i < es.size:=(Array.getElem?_eq_some_iff.mp hi).1
 refine wpAny_bind (zHc K r (fun h=>absurd hb (by rw[h i hlt];decide)) ?_)
 intro j e' ej hbj tk
 have hjl:j < es.size:=(Array.getElem?_eq_some_iff.mp ej).1
 obtain rfl:=K.uni i j hlt hjl hb hbj
 obtain rfl:e=e':=Option.some.inj (hi.symm.trans ej)
 exact wpAny_pure ⟨e.val,rfl,wpAny_pure (h tk)⟩
theorem zE2 (K:KeyAt prog w A.in1 s es key hs b) (r:RawD s.heap d es ep) (hz:es.size<=sizeLine) {v:Value} {Q:Unit->Shared->Prop}
  (hnew:(∀ i,i < es.size->b i=false)->∀ h' tk,RawD h' d (es.push ⟨hs,key,v⟩) (ep+1)->Heap.SameBut d s.heap h'->Q () { s with heap:=h',toks:=tk })
  (hold:∀ i e,es[i]? = some e->b i=true->∀ h' tk,RawD h' d (es.modify i fun e=>{ e with val:=v }) ep->Heap.SameBut d s.heap h'->Q () { s with heap:=h',toks:=tk }):wpAny (model prog w) A (setItem (.ref d) key v) Q E s:=by
 unfold setItem
 try with_reducible refine wpAny_holding ?_
 refine wpAny_bind (wpAny_sequenceKey r.typeIs (by decide) ?_)
 refine wpAny_bind (wpAny_callSpecial?_slot (name:=Str.ofString "__setitem__") r.typeIs slot_dict_setitem
  (wpAny_call_entry slot_dict_setitem r.typeIs entry_dict_setitem ?_ (args_dict_setitem _ _ _)))
 show wpAny _ _ (Builtin.Dict.notOrdered "__setitem__" ⟨[.ref d,key,v],[]⟩ >>= _) _ _ s
 refine wpAny_bind (wpAny_notOrdered_dict r.typeIs ?_)
 show wpAny _ _ (dictSet d key v >>= _) _ _ s
 exact wpAny_bind (zLN K r hz (fun h h' tk r' hs'=>wpAny_pure ⟨.none,rfl,wpAny_pure (hnew h h' tk r' hs')⟩) fun i e ei hb h' tk r' hs'=>wpAny_pure ⟨.none,rfl,wpAny_pure (hold i e ei hb h' tk r' hs')⟩)
theorem zLP (K:KeyAt prog w A.in1 s es key hs b) (r:RawD s.heap d es ep) (hz:es.size<=sizeLine) {Q:Value->Shared->Prop} {i:Nat} {e:DictEntry} (hi:es[i]? = some e) (hb:b i=true)
  (h:∀ h' tk,RawD h' d (es.eraseIdxIfInBounds i) (ep+1)->Heap.SameBut d s.heap h'->Q e.val { s with heap:=h',toks:=tk }):wpAny (model prog w) A (call (.builtin "dict.pop") [.ref d,key]) Q E s:=by
 refine wpAny_call_entry PySem.F.slot_dict_pop r.typeIs PySem.F.entry_dict_pop ?_ (PySem.F.args_dict_pop_2 _ _)
 have hlt:i < es.size:=(Array.getElem?_eq_some_iff.mp hi).1
 have go:wpAny (model prog w) A.in1 (Builtin.Dict.takeOut d key) (fun o s'=>o=some e/\Q e.val s') E s :=
  zLe K r hz (fun h=>absurd hb (by rw[h i hlt];decide)) fun j e' ej hbj h' tk r' hs'=>by
   have hjl:j < es.size:=(Array.getElem?_eq_some_iff.mp ej).1
   obtain rfl:=K.uni i j hlt hjl hb hbj
   obtain rfl:e=e':=Option.some.inj (hi.symm.trans ej)
   exact⟨rfl,h h' tk r' hs'⟩
 unfold Builtin.«dict.pop»
 refine wpAny_bind ?_
 unfold Builtin.Dict.keyAndDefault
 refine wpAny_bind (wpAny_notOrdered_dict r.typeIs ?_)
 refine wpAny_pure ?_
 obtain⟨o,ho,hc,hd⟩:=id r
 dsimp only
 split
 ·refine wpAny_bind (wpAny_pure ?_)
  rw[if_neg (by decide)]
  refine wpAny_bind (wpAny_mono go ?_ fun _ _ h=>h)
  rintro o' s' ⟨rfl,q⟩
  exact wpAny_bind (wpAny_letGo (wpAny_pure ⟨e.val,rfl,q⟩))
 ·refine wpAny_bind (wpAny_dictEntries ho hd (wpAny_bind (wpAny_pure ?_)))
  rw[if_neg (by rw[Array.isEmpty_iff_size_eq_zero];omega)]
  refine wpAny_bind (wpAny_mono go ?_ fun _ _ h=>h)
  rintro o' s' ⟨rfl,q⟩
  exact wpAny_bind (wpAny_letGo (wpAny_pure ⟨e.val,rfl,q⟩))
theorem zIt (r:RawD s.heap d es ep) (hz:es.size<=sizeLine) {Q:Value->Shared->Prop} (h:∀ h',RawD h' d #[] (ep+1)->Heap.SameBut d s.heap h'->Q .none { s with heap:=h' }) :
  wpAny (model prog w) A (call (.builtin "dict.clear") [.ref d]) Q E s:=by
 refine wpAny_call_entry PySem.F.slot_dict_clear r.typeIs PySem.F.entry_dict_clear ?_ (PySem.F.args_dict_clear_1 _)
 obtain⟨o,ho,hc,hdat⟩:=id r
 unfold Builtin.«dict.clear»
 refine wpAny_bind ?_
 unfold Builtin.Dict.noArgs
 refine wpAny_bind (wpAny_notOrdered_dict r.typeIs ?_)
 refine wpAny_pure ?_
 refine wpAny_bind (wpAny_dictEntries ho hdat ?_)
 refine wpAny_bind ?_
 unfold bearsInstanceDictMark
 refine wpAny_bind (wpAny_load ho (wpAny_pure ?_))
 refine wpAny_bind (wpAny_updateDictKeys (hz:=hz) ho hdat ?_)
 have hnew:RawD (s.heap.update d (Obj.mapDictKeys fun _ => #[])) d #[] (ep+1):=⟨_,Heap.get?_update_self _ ho (Obj.isFreed_of_dict (Obj.data_mapDictKeys hdat _)),hc.mapDictKeys _,Obj.data_mapDictKeys hdat _⟩
 split
 ·exact wpAny_bind (wpAny_letGo (wpAny_pure ⟨.none,rfl,h _ hnew (Heap.SameBut.update ..)⟩))
 ·exact wpAny_bind (wpAny_pure (wpAny_pure ⟨.none,rfl,h _ hnew (Heap.SameBut.update ..)⟩))
theorem zDp (r:RawD s.heap d es ep) (hd:(d == sysModules)=false) (hz:es.size<=sizeLine) {Q:Value->Shared->Prop} (h:∀ t tk,Q (.int es.size t) { s with toks:=tk }) :
  wpAny (model prog w) A (Builtin.«len» ⟨[.ref d],[]⟩) (fun fin s'=>∃ r,fin=.done (.ret r)/\Q r s') E s:=by
 have hz':(es.size:Int) < 2 ^ 63:=by have:=L2.Wu;omega
 unfold Builtin.«len»
 refine wpAny_bind (m:=oneArg "len" _) (wpAny_pure ?_)
 refine wpAny_bind (m:=callSpecial? (.ref d) (Str.ofString "__len__")) (wpAny_callSpecial?_slot (name:=Str.ofString "__len__") r.typeIs F.slot_dict_len
  (wpAny_call_entry F.slot_dict_len r.typeIs F.entry_dict_len ?_ (F.args_dict_len_1 _)))
 obtain⟨o,ho,hc,hdat⟩:=id r
 show wpAny _ _ (dictSize d >>= _) _ _ s
 unfold dictSize
 refine wpAny_bind (wpAny_bind (wpAny_dictEntries ho hdat (wpAny_pure ?_)))
 show wpAny _ _ (Builtin.Dict.pendingCount d >>= _) _ _ s
 refine wpAny_bind (wpAny_pendingCount_other hd ?_)
 refine wpAny_ret_mkInt ?_
 rw[Nat.add_zero]
 refine wpAny_bind (wpAny_holding (wpAny_pure ?_))
 refine wpAny_bind (wpAny_letGo ?_)
 show wpAny _ _ (if ((es.size:Nat):Int) < 0 then _ else _) _ _ _
 rw[if_neg (by omega)]
 show wpAny _ _ (if ((es.size:Nat):Int) ≥ 2 ^ 63 then _ else _) _ _ _
 rw[if_neg (by omega)]
 exact wpAny_bind (wpAny_mkInt (wpAny_pure ⟨_,rfl,h _ _⟩))
theorem zLh (r:RawD s.heap d es ep) (hd:(d == sysModules)=false) (hz:es.size<=sizeLine) {Q:Value->Shared->Prop} (h:∀ t tk,Q (.int es.size t) { s with toks:=tk }) :
  wpAny (model prog w) A (call (.builtin "len") [.ref d]) Q E s :=
 Calls.call_function_entry kind_len plain_len entry_len (args_len1 _) (zDp r hd hz h)
end
end PySem
namespace PySem
section
variable {prog:Program} {w:World} {A:Around} {E:Value->Shared->Prop} {s:Shared} {es:Array DictEntry} {d it:Addr} {ep i:Nat}
theorem RawD.at {h h':Heap} (r:RawD h d es ep) (k:∀ o,h.get? d=some o->h'.get? d=some o):RawD h' d es ep:=let ⟨o,ho,c⟩:=r;⟨o,k o ho,c⟩
theorem zKe (r:RawD s.heap d es ep) (hd:(d == sysModules)=false) {Q:Value->Shared->Prop}
  (hQ:∀ h',h'.IsKeyIter s.heap.objs.size d 0 es.size ep->h'.objs.size=s.heap.objs.size+1->(∀ b o,s.heap.get? b=some o->h'.get? b=some o)->Q (.ref s.heap.objs.size) { s with heap:=h' }):wpAny (model prog w) A (pyIter (.ref d)) Q E s:=by
 obtain⟨o,ho,hc,hdat⟩:=id r
 refine wpAny_pyIter_slot r.typeIs F.slot_dict_iter (wpAny_call_entry F.slot_dict_iter r.typeIs F.entry_dict_iter ?_ (F.args_dict_iter_1 _))
 unfold Builtin.«dict.__iter__»
 refine wpAny_bind ?_
 unfold Builtin.Dict.dictSlotNone
 refine wpAny_bind (wpAny_notOrdered_dict r.typeIs (wpAny_pure ?_))
 show wpAny _ _ (Builtin.Dict.showsAll d >>= _) _ _ s
 refine wpAny_bind ?_
 unfold Builtin.Dict.showsAll
 rw[hd,if_neg (by decide)]
 refine wpAny_pure ?_
 refine wpAny_bind (wpAny_dictEntries ho hdat ?_)
 refine wpAny_bind (wpAny_dictEpoch ho hdat ?_)
 exact wpAny_bind (wpAny_newObj_type (wpAny_pure ⟨_,rfl, "dict_keyiterator",_,⟨_,Heap.get?_push_size _ rfl,rfl⟩,F.slot_dict_keyiterator_next.lookup,hQ _ ⟨_,Heap.get?_push_size _ rfl,rfl,rfl⟩ (Heap.size_push ..) fun b o e=>Heap.get?_push_of_some _ e⟩))
theorem zKj (hit:s.heap.IsKeyIter it d i es.size ep) (r:RawD s.heap d es ep) {e:DictEntry} (hx:es[i]? = some e) {Q:Option Value->Shared->Prop}
  (hQ:∀ h',h'.IsKeyIter it d (i+1) es.size ep->Heap.SameBut it s.heap h'->Q (some e.key) { s with heap:=h' }):wpAny (model prog w) A (pyNext (.ref it)) Q E s:=by
 obtain⟨oi,hoi,hci,hdi⟩:=id hit
 obtain⟨o,ho,hc,hdat⟩:=id r
 unfold pyNext
 refine wpAny_bind (wpAny_attempt (wpAny_callSpecial?_slot (name:=Str.ofString "__next__") hit.typeIs F.slot_dict_keyiterator_next
  (wpAny_call_entry F.slot_dict_keyiterator_next hit.typeIs F.entry_dict_keyiterator_next ?_ (F.args_dict_keyiterator_next_1 _))))
 refine wpAny_bind (wpAny_pure ?_)
 refine wpAny_bind (wpAny_bind ?_)
 first | refine wpAny_bind (wpAny_typeNameOfWhole_keyiter hit.typeIs (wpAny_pure ?_)) | refine wpAny_bind (wpAny_typeNameOf_keyiter hit.typeIs (wpAny_pure ?_))
 refine wpAny_bind (wpAny_fieldsOf hoi hdi ?_)
 simp only[show Builtin.Dict_items.ownsTuple "dict_keyiterator" = false by decide,Bool.false_eq_true,if_false]
 show wpAny _ _ (if (Value.ref d == Value.none)=true then _ else _) _ _ s
 rw[if_neg (c:=(Value.ref d == Value.none)=true) Bool.false_ne_true]
 refine wpAny_bind (wpAny_pure (wpAny_bind (wpAny_dictEntries ho hdat ?_)))
 rw[if_neg (by simp)]
 refine wpAny_bind (wpAny_pure (wpAny_bind (wpAny_dictEpoch ho hdat ?_)))
 rw[if_neg (by simp)]
 refine wpAny_pure ?_
 simp only[show ¬ ((i:Int) < 0) from by omega,if_false,Int.toNat_natCast,hx]
 refine wpAny_bind ?_
 first | refine wpAny_bind (wpAny_typeNameOfWhole_keyiter hit.typeIs (wpAny_pure ?_)) | refine wpAny_bind (wpAny_typeNameOf_keyiter hit.typeIs (wpAny_pure ?_))
 refine wpAny_bind (wpAny_isOneOf_keyiter hit.typeIs ?_)
 show wpAny _ _ (setField (.ref it) 1 (rawInt ((i:Int)+1)) >>= _) _ _ s
 refine wpAny_bind (wpAny_setField hoi hdi (by simp) ?_)
 have hit':(s.heap.update it (Obj.mapFields (·.setIfInBounds 1 (rawInt ((i:Int)+1))))).IsKeyIter it d (i+1) es.size ep :=
  ⟨_,Heap.get?_update_self _ hoi (Obj.isFreed_of_fields (Obj.data_mapFields hdi _)),(Obj.cls_mapFields ..).trans hci,by rw[Obj.data_mapFields hdi];simp[rawInt]⟩
 refine wpAny_bind (wpAny_holding ?_)
 refine wpAny_bind (wpAny_isOneOf_keyiter (s:={ s with heap:=s.heap.update it (Obj.mapFields (·.setIfInBounds 1 (rawInt ((i:Int)+1)))) }) hit'.typeIs ?_)
 show wpAny _ _ (pure e.key) _ _ _
 exact wpAny_pure (wpAny_pure ⟨_,rfl,wpAny_pure (hQ _ hit' (Heap.SameBut.update ..))⟩)
theorem zLl (hh:A.handled=none) (hit:s.heap.IsKeyIter it d es.size es.size ep) (r:RawD s.heap d es ep) {Q:Option Value->Shared->Prop}
  (hQ:∀ h',Heap.ExtBut it s.heap h'->Q none { s with heap:=h' }):wpAny (model prog w) A (pyNext (.ref it)) Q E s:=by
 obtain⟨oi,hoi,hci,hdi⟩:=id hit
 obtain⟨o,ho,hc,hdat⟩:=id r
 unfold pyNext
 refine wpAny_bind (wpAny_attempt (wpAny_callSpecial?_slot (name:=Str.ofString "__next__") hit.typeIs F.slot_dict_keyiterator_next
  (wpAny_call_entry F.slot_dict_keyiterator_next hit.typeIs F.entry_dict_keyiterator_next ?_ (F.args_dict_keyiterator_next_1 _))))
 refine wpAny_bind (wpAny_pure ?_)
 refine wpAny_bind (wpAny_bind ?_)
 first | refine wpAny_bind (wpAny_typeNameOfWhole_keyiter hit.typeIs (wpAny_pure ?_)) | refine wpAny_bind (wpAny_typeNameOf_keyiter hit.typeIs (wpAny_pure ?_))
 refine wpAny_bind (wpAny_fieldsOf hoi hdi ?_)
 simp only[show Builtin.Dict_items.ownsTuple "dict_keyiterator" = false by decide,Bool.false_eq_true,if_false]
 show wpAny _ _ (if (Value.ref d == Value.none)=true then _ else _) _ _ s
 rw[if_neg (c:=(Value.ref d == Value.none)=true) Bool.false_ne_true]
 refine wpAny_bind (wpAny_pure (wpAny_bind (wpAny_dictEntries ho hdat ?_)))
 rw[if_neg (by simp)]
 refine wpAny_bind (wpAny_pure (wpAny_bind (wpAny_dictEpoch ho hdat ?_)))
 rw[if_neg (by simp)]
 refine wpAny_pure ?_
 simp only[show ¬ ((es.size:Int) < 0) from by omega,if_false,Int.toNat_natCast,Array.getElem?_eq_none (Nat.le_refl es.size)]
 refine wpAny_bind ?_
 first | refine wpAny_bind (wpAny_typeNameOfWhole_keyiter hit.typeIs (wpAny_pure ?_)) | refine wpAny_bind (wpAny_typeNameOf_keyiter hit.typeIs (wpAny_pure ?_))
 show wpAny _ _ (setField (.ref it) 0 .none >>= _) _ _ s
 refine wpAny_bind (wpAny_setField hoi hdi (by simp) ?_)
 show wpAny _ _ (newExc (.type "StopIteration") [] >>= _) _ _ _
 refine wpAny_bind ?_
 simp only[newExc,newTuple]
 refine wpAny_bind (wpAny_newObj_type ?_ (by size_fits))
 refine wpAny_bind (m:=firstArgMember _ _) (wpAny_of_eq (a:=Value.none) (by first | rfl | (simp only[firstArgMember];rfl)) ?_)
 refine wpAny_newObj_type ?_ (by size_fits)
 simp only[raiseNew]
 refine wpAny_bind (wpAny_handled ?_)
 rw[show A.in1.handled=none from hh]
 refine wpAny_bind (wpAny_pure (wpAny_throw ?_))
 refine wpAny_bind (wpAny_isInstance (T := "StopIteration") (b:=true) ⟨_,Heap.get?_push_size _ rfl,rfl⟩ isSubtype_stop ?_)
 exact wpAny_pure (hQ _ (((Heap.SameBut.update ..).extBut.push _).push _))
end
theorem Walks.dkeys {prog:Program} {w:World} {A:Around} (hh:A.handled=none) (I d:Addr) (hne:d ≠ I) (es:Array DictEntry) (ep:Nat) :
  Walks prog w A I [I,d] [I] es.size (fun i v=>∃ e,es[i]? = some e/\v=e.key) (fun i h=>h.IsKeyIter I d i es.size ep/\RawD h d es ep) where
 sub:=fun b hb=>by simp at hb;simp[hb]
 frame:=fun _ _ _ x hk=>⟨let ⟨o,e,c⟩:=x.1;⟨o,hk I (by simp) o e,c⟩,x.2.at fun o e=>hk d (by simp) o e⟩
 item:=fun i s Q E hi x hQ=>by
  have ei:=Array.getElem?_eq_getElem hi
  exact zKj x.1 x.2 ei fun h' hit' hs'=>hQ _ h' s.toks ⟨_,ei,rfl⟩ ⟨hit',x.2.at fun o e=>hs'.extBut d o hne e⟩ fun b o hb e=>hs'.extBut b o (fun h=>hb (by simp[h])) e
 done:=fun s Q E x hQ=>zLl hh x.1 x.2 fun h' he'=>hQ h' s.toks fun b o hb e=>he' b o (fun h=>hb (by simp[h])) e
 self:=fun _ _ _ _ x hQ=>wpAny_pyIter_keyiter x.1 hQ
section
variable {prog:Program} {w:World} {A:Around} {E:Value->Shared->Prop} {s:Shared} {es:Array DictEntry} {d:Addr} {ep:Nat} {R:Result->Shared->Prop}
theorem zGM (hh:A.in1.handled=none) (r:RawD s.heap d es ep) (hd:(d == sysModules)=false) (hz:es.size<=sizeLine) (S:Addr) (res:Value) (c₀:Nat) (hSd:S ≠ d)
  (hS:s.heap.get? S=some { cls:=.type "list",data:=.seq #[] c₀ })
  (hR:∀ s' acc' c',(∀ b o,b ≠ S->s.heap.get? b=some o->s'.heap.get? b=some o)->s'.gens=s.gens->s'.drawn=s.drawn->s'.os=s.os->s'.heap.get? S=some { cls:=.type "list",dict:=none,data:=.seq acc' c',slots := #[] } ->
   ItemsOf (fun i v=>∃ e,es[i]? = some e/\v=e.key) acc' es.size->R (.ok (.ret res)) s') :
  wpAny (model prog w) A.in1 (Builtin.List.listExtendWith (.ref S) (.ref d) res)
   (fun fin s'=>match fin with | .done f=>R (.ok f) s' | .again c'=>c'.quiet=true/\codeAny (model prog w) A c' R s') (fun e s'=>R (.error e) s') s:=by
 have hT:=r.typeIs
 unfold Builtin.List.listExtendWith
 refine wpAny_bind (wpAny_typeOf hT ?_)
 have h1:Builtin.List.listSameRef (.ref S) (.ref d)=false:=by simp[Builtin.List.listSameRef,hSd]
 have h2:(Value.type "dict" == Value.type "list")=false:=by decide
 have h3:(Value.type "dict" == Value.type "tuple")=false:=by decide
 simp only[h1,h2,h3,Bool.or_false,Bool.false_eq_true,if_false]
 refine wpAny_bind (zKe r hd fun h1 hit hsz1 kp1=>?_)
 have hdI:d ≠ s.heap.objs.size:=by
  obtain⟨o,ho,_⟩:=r
  exact Nat.ne_of_lt (Heap.lt_size ho)
 have hSI:S ≠ s.heap.objs.size:=Nat.ne_of_lt (Heap.lt_size hS)
 have W:=(Walks.dkeys (prog:=prog) (w:=w) (A:=A.in1) hh s.heap.objs.size d hdI es ep).toS
 have r1:RawD h1 d es ep:=r.at fun o e=>kp1 _ _ e
 have hS1:=kp1 _ _ hS
 have hSf:S ∉ [s.heap.objs.size,d]:=by simp[hSI,hSd]
 refine wpAny_bind (wpAny_holding ?_)
 unfold Builtin.List.listLengthHint
 refine wpAny_bind (wpAny_specialOf (s:={ s with heap:=h1 }) r1.typeIs F.slot_dict_len.lookup ?_)
 (generalize hid:("dict.__len__" : String)=id0;(fail_if_success (clear hid id0));wp_delta;rw[show splitId id0=some ("dict", "__len__") from by subst hid;decide +kernel];subst hid)
 refine wpAny_bind (wpAny_isInstance (b:=true) (s:={ s with heap:=h1 }) r1.typeIs (by rw[isSubtype_type];kernel_rfl) ?_)
 show wpAny _ _ (if (!true)=true then _ else _) _ _ _
 rw[if_neg (by decide)]
 show wpAny _ _ (ite (_=true) _ _) _ _ _
 rw[if_pos (by decide +kernel)]
 ·refine wpAny_bind (wpAny_typeOf (s:={ s with heap:=h1 }) r1.typeIs ?_)
  refine wpAny_pure ?_
  have fini:∀ s':Shared,Moved (S::[s.heap.objs.size]) (fun a b=>b=a) { s with heap:=h1 } s'->(∀ b o,b ≠ S->s.heap.get? b=some o->s'.heap.get? b=some o)/\s'.gens=s.gens/\s'.drawn=s.drawn/\s'.os=s.os:=fun s' hm =>
   ⟨fun b o hb e=>hm.heap b o (by simp[hb,Nat.ne_of_lt (Heap.lt_size e)]) (kp1 _ _ e),hm.gens,hm.drawn,hm.os⟩
  split
  ·refine wpAny_bind (wpAny_rule ?_)
   refine wpAny_bind ?_
   unfold Builtin.List.listTouch
   refine wpAny_bind (wpAny_updateSeq (s:={ s with heap:=h1 }) hS1 rfl ?_)
   have hS₂:=Heap.get?_update_self (Obj.mapSeq (·.push Value.none)) hS1 rfl
   refine wpAny_updateSeq (hz:=by seq_fits) hS₂ rfl ?_
   have hS₃:=Heap.get?_update_self (Obj.mapSeq (·.pop)) hS₂ rfl
   have oth:∀ b o,b ≠ S->h1.get? b=some o->((h1.update S (Obj.mapSeq (·.push Value.none))).update S (Obj.mapSeq (·.pop))).get? b=some o :=
    fun b o hb e=>(Heap.get?_update_other _ _ (Ne.symm hb)).trans ((Heap.get?_update_other _ _ (Ne.symm hb)).trans e)
   refine wpAny_pure ⟨plainId_quiet F.plain_extend_loop _,codeAny_extend_loopS W hz _ hSf _ es.size 0 _ _ _ rfl (Nat.zero_le _)
    (W.frame 0 { s with heap:=h1 } _ s.toks ⟨hit,r1⟩ (Nat.le_refl _) fun b hb o e=>oth b o (fun h=>hSf (h ▸ hb)) e) hS₃ (ItemsOf.nil _) fun s' acc' c' hm hS' hacc=>?_⟩
   have m0:Moved (S::[s.heap.objs.size]) (fun a b=>b=a) { s with heap:=h1 } { s with heap:=(h1.update S (Obj.mapSeq (·.push Value.none))).update S (Obj.mapSeq (·.pop)) } :=
    ⟨fun b o hb e=>oth b o (fun h=>hb (by simp[h])) e,rfl,rfl,rfl,Nat.le_refl _⟩
   obtain⟨f1,f2,f3,f4⟩:=fini s' (Moved.trans W.gtrans m0 hm)
   exact hR s' acc' c' f1 f2 f3 f4 hS' hacc
  ·refine wpAny_pure ⟨plainId_quiet F.plain_extend_loop _,codeAny_extend_loopS W hz _ hSf _ es.size 0 _ _ _ rfl (Nat.zero_le _) ⟨hit,r1⟩ hS1 (ItemsOf.nil _) fun s' acc' c' hm hS' hacc=>?_⟩
   obtain⟨f1,f2,f3,f4⟩:=fini s' hm
   exact hR s' acc' c' f1 f2 f3 f4 hS' hacc
theorem zKR (hh:A.in1.handled=none) (r:RawD s.heap d es ep) (hd:(d == sysModules)=false) (hz:es.size<=sizeLine) (S:Addr) (hSd:S ≠ d) (hS:s.heap.get? S=some { cls:=.type "list",data:=.seq #[] })
  (hR:∀ s' acc' c',(∀ b o,b ≠ S->s.heap.get? b=some o->s'.heap.get? b=some o)->s'.gens=s.gens->s'.drawn=s.drawn->s'.os=s.os->s'.heap.get? S=some { cls:=.type "list",dict:=none,data:=.seq acc' c',slots := #[] } ->
   ItemsOf (fun i v=>∃ e,es[i]? = some e/\v=e.key) acc' es.size->R (.ok (.ret .none)) s') :
  wpAny (model prog w) A.in1 (Builtin.«list.__init__» ⟨[.ref S,.ref d],[]⟩)
   (fun fin s'=>match fin with | .done f=>R (.ok f) s' | .again c'=>c'.quiet=true/\codeAny (model prog w) A c' R s') (fun e s'=>R (.error e) s') s:=by
 unfold Builtin.«list.__init__»
 dsimp only
 rw[if_neg (by decide),if_neg (by simp)]
 refine wpAny_bind ?_
 unfold Builtin.List.listItems
 refine wpAny_bind (wpAny_seqItems hS rfl (wpAny_pure ?_))
 refine wpAny_bind (wpAny_updateSeq hS rfl ?_)
 have hS₂:=Heap.get?_update_self (Obj.mapSeq (fun _=>(#[]:Array Value))) hS rfl
 have oth:∀ b o,b ≠ S->s.heap.get? b=some o->(s.heap.update S (Obj.mapSeq (fun _=>(#[]:Array Value)))).get? b=some o :=
  fun b o hb e=>(Heap.get?_update_other _ _ (Ne.symm hb)).trans e
 refine wpAny_bind (wpAny_letGo ?_)
 exact zGM (s:={ s with heap:=s.heap.update S (Obj.mapSeq (fun _=>(#[]:Array Value))) }) hh (r.at fun o e=>oth _ _ (Ne.symm hSd) e) hd hz S .none _ hSd hS₂ fun s' acc' c' f1 f2 f3 f4 hS' hacc =>
  hR s' acc' c' (fun b o hb e=>f1 b o hb (oth b o hb e)) f2 f3 f4 hS' hacc
theorem zJX (hh:A.handled=none) (r:RawD s.heap d es ep) (hd:(d == sysModules)=false) (hz:es.size<=sizeLine) {Q:Value->Shared->Prop}
  (hQ:∀ h' tk acc' c',(∀ b o,s.heap.get? b=some o->h'.get? b=some o)->h'.get? s.heap.objs.size=some { cls:=.type "list",dict:=none,data:=.seq acc' c',slots := #[] } ->
   ItemsOf (fun i v=>∃ e,es[i]? = some e/\v=e.key) acc' es.size->Q (.ref s.heap.objs.size) { s with heap:=h',toks:=tk }):wpAny (model prog w) A (call (.type "list") [.ref d]) Q E s:=by
 refine callType_codes (Q₁:=fun obj s₁=>obj=.ref s.heap.objs.size/\s₁={ s with heap:=s.heap.push { cls:=.type "list",data:=.seq #[] } }) F.called_list (F.typeCall_list_1 _) F.entry_list_init
  (code_list_new _ ⟨rfl,rfl⟩) fun obj s₁ h₁=>?_
 obtain⟨rfl,rfl⟩:=h₁
 have hS:(s.heap.push { cls:=.type "list",data:=.seq #[] }).get? s.heap.objs.size=some { cls:=.type "list",data:=.seq #[] }:=Heap.get?_push_size _ rfl
 have hSd:s.heap.objs.size ≠ d:=by
  obtain⟨o,ho,_⟩:=r
  exact Nat.ne_of_gt (Heap.lt_size ho)
 refine⟨⟨_,hS,rfl⟩,F.args_list_init_2 _ _,zKR (A:=A.in1) (s:={ s with heap:=s.heap.push { cls:=.type "list",data:=.seq #[] } }) hh (r.at fun o e=>Heap.get?_push_of_some _ e) hd hz _ hSd hS fun s' acc' c' f1 f2 f3 f4 hS' hacc=>?_⟩
 have q:=hQ s'.heap s'.toks acc' c' (fun b o e=>f1 b o (Nat.ne_of_lt (Heap.lt_size e)) (Heap.get?_push_of_some _ e)) hS' hacc
 have es:s'={ s with heap:=s'.heap,toks:=s'.toks }:=by
  cases s'
  simp only at f2 f3 f4
  subst f2 f3 f4
  rfl
 rw[es]
 exact⟨rfl,q⟩
end
end PySem
namespace L2
open PySem PySem.Spec PyProof.Rows
mutual
def Kd.hsh (w:World):Kd->Int
 | .num i=>hashInt i
 | .txt x=>hashStr w x
 | .tup ks=>reduceHash (Builtin.Tuple.tupleHashOf (Kd.hshL w ks))
def Kd.hshL (w:World):List Kd->List Int
 | []=>[]
 | k::r=>k.hsh w::Kd.hshL w r
end
theorem Kd.hshL_snoc (w:World) (k:Kd):∀ ks:List Kd,Kd.hshL w (ks++[k])=Kd.hshL w ks++[k.hsh w]
 | []=>by show Kd.hshL w [k]=_;unfold Kd.hshL Kd.hshL;rfl
 | j::r=>by show Kd.hshL w (j::(r++[k]))=_;unfold Kd.hshL;rw[Kd.hshL_snoc w k r];rfl
def TK (H:Hp) (ks:List Kd) (us:List Value):Prop:=∃ vs,IsKs H ks vs/\Vals vs us
theorem TK.cons_inv {H:Hp} {ks:List Kd} {u:Value} {us:List Value} (t:TK H ks (u::us)):∃ k kr x,ks=k::kr/\IsK H k x/\RelV x u/\TK H kr us:=by
 obtain⟨vs,h,r⟩:=t
 cases r with
 | @cons x _ xr _ rx rr =>
  cases ks with
  | nil=>unfold IsKs at h;cases h
  | cons k kr =>
   unfold IsKs at h
   obtain⟨v,vr,e,h1,h2⟩:=h
   obtain⟨rfl,rfl⟩:=List.cons.inj e
   exact⟨k,kr,x,rfl,h1,rx,xr,h2,rr⟩
theorem TK.nil_inv {H:Hp} {ks:List Kd} (t:TK H ks []):ks=[]:=by
 obtain⟨vs,h,r⟩:=t
 cases r
 cases ks with
 | nil=>rfl
 | cons k kr=>unfold IsKs at h;obtain⟨v,vr,e,_⟩:=h;cases e
section
variable {X:Cx} {pins:List (Addr × Obj)} {σ:St} {H:Hp} {s:Shared}
theorem zNI (I:Inv X pins σ H s):∀ (n:Nat) {k:Kd} {x:V} {u:Value} {A:Around},k.deep<=n->IsK H k x->RelV x u->A.units+n < cLine ->
  ∀ (E:Value->Shared->Prop) (Q:Int->Shared->Prop) tk,(∀ tk',Q (k.hsh X.w) { s with toks:=tk' })->wpAny (model X.prog X.w) A (pyHash u) Q E { s with toks:=tk }:=by
 intro n
 induction n with
 | zero =>
  intro k x u A hd hk rx hu E Q tk h
  cases k with
  | num i=>unfold IsK at hk;subst hk;obtain⟨t,rfl⟩:=rx;unfold Kd.hsh at h;exact wpAny_pyHash_int (h _)
  | txt i=>unfold IsK at hk;subst hk;obtain⟨t,rfl⟩:=rx;unfold Kd.hsh at h;exact wpAny_pyHash_str (h _)
  | tup ks=>unfold Kd.deep at hd;omega
 | succ n ih =>
  intro k x u A hd hk rx hu E Q tk h
  cases k with
  | num i=>exact ih (by unfold Kd.deep;omega) hk rx (by omega) E Q tk h
  | txt i=>exact ih (by unfold Kd.deep;omega) hk rx (by omega) E Q tk h
  | tup ks =>
   unfold IsK at hk;obtain⟨a,vs,rfl,ha,_,hks⟩:=hk;cases rx
   obtain⟨its,r1,⟨o,ho,hc,m,hdt⟩,_⟩:=I.tuple (SqT.of ha)
   have hT:({ s with toks:=tk }:Shared).TypeIs (.ref a) "tuple" := ⟨o,ho,hc⟩
   unfold Kd.deep at hd
   have hdk:∀ j∈ks,j.deep<=n:=fun j hj=>Nat.le_trans (Kd.deep_le hj) (by omega)
   unfold pyHash
   first | unfold pyHashByItsType | skip
   first | refine wpAny_bind (wpAny_cRoomFor_or (.inr (by omega)) ?_) | skip
   refine wpAny_bind (wpAny_specialOf hT F.slot_tuple_hash.lookup ?_)
   show wpAny _ _ (if (some (Value.builtin "tuple.__hash__") == some Value.none)=true then _ else _) Q E _
   rw[if_neg (by rw[beq_builtin_none];exact Bool.false_ne_true)]
   refine wpAny_bind (wpAny_specialOf hT F.slot_tuple_hash.lookup ?_)
   show wpAny _ _ (callSpecialIfBoundUnlessNone? (.ref a) "__hash__" _ >>= _) Q E _
   refine wpAny_bind (wpAny_callSpecialIfBoundUnlessNone?_slot hT F.slot_tuple_hash (wpAny_call_entry F.slot_tuple_hash hT F.entry_tuple_hash ?_ (F.args_tuple_hash_1 _)))
   show wpAny _ _ (Builtin.Tuple.tupleItemsOf (.ref a) >>= _) _ _ _
   refine wpAny_bind (wpAny_tupleItemsOf (s:={ s with toks:=tk }) ho hdt ?_)
   refine wpAny_bind ?_
   rw[← Array.forIn_toList]
   refine wpAny_forIn_list _ (fun YS (b:Array Int) s'=>∃ dn lf,ks=dn++lf/\TK H lf YS/\b.toList=Kd.hshL X.w dn/\∃ t,s'={ s with toks:=t }) _ ?_ ?_ _ _ ⟨[],ks,rfl,⟨vs,hks,by simpa using r1⟩,by unfold Kd.hshL;rfl,tk,rfl⟩
   ·rintro y YS b s' ⟨dn,lf,e1,t1,hb,t,rfl⟩
    obtain⟨k,kr,x,rfl,hk,rx,t2⟩:=t1.cons_inv
    refine wpAny_bind (ih (hdk k (by rw[e1];simp)) hk rx (by show A.units+1+n < cLine;omega) _ _ t fun t'=>?_)
    first
     | exact wpAny_pure ⟨dn++[k],kr,by rw[e1];simp,t2,by rw[Kd.hshL_snoc];simp[hb],t',rfl⟩
     | exact wpAny_bind (wpAny_pure (wpAny_pure ⟨dn++[k],kr,by rw[e1];simp,t2,by rw[Kd.hshL_snoc];simp[hb],t',rfl⟩))
   ·rintro b s' ⟨dn,lf,e1,t1,hb,t,rfl⟩
    have e2:=t1.nil_inv
    subst e2
    rw[List.append_nil] at e1
    subst e1
    show wpAny _ _ (retInt (Builtin.Tuple.tupleHashOf b.toList)) _ _ _
    rw[hb]
    refine wpAny_ret_mkInt ?_
    unfold Kd.hsh reduceHash at h
    generalize Builtin.Tuple.tupleHashOf (Kd.hshL X.w ks)=z at h
    show wpAny _ _ (if (decide (-(2:Int) ^ 63<=z) && decide (z < 2 ^ 63))=true then _ else _) Q E _
    split
    ·rename_i hr
     rw[if_pos hr] at h
     exact wpAny_pure (h _)
    ·rename_i hr
     rw[if_neg hr] at h
     exact wpAny_bind (wpAny_rule (wpAny_pure (h _)))
theorem zFw (I:Inv X pins σ H s):∀ (n:Nat) {k:Kd} {x:V} {u:Value} {A:Around},k.deep<=n->IsK H k x->RelV x u ->
  ∀ (E:Value->Shared->Prop) (Q:Bool->Shared->Prop) tk,Q true { s with toks:=tk }->wpAny (model X.prog X.w) A (eqIsQuiet n u) Q E { s with toks:=tk }:=by
 intro n
 induction n with
 | zero =>
  intro k x u A hd hk rx E Q tk h
  cases k with
  | num i=>unfold IsK at hk;subst hk;obtain⟨t,rfl⟩:=rx;rw[eqIsQuiet_byValue _ rfl];exact wpAny_pure h
  | txt i=>unfold IsK at hk;subst hk;obtain⟨t,rfl⟩:=rx;rw[eqIsQuiet_byValue _ rfl];exact wpAny_pure h
  | tup ks=>unfold Kd.deep at hd;omega
 | succ n ih =>
  intro k x u A hd hk rx E Q tk h
  cases k with
  | num i=>unfold IsK at hk;subst hk;obtain⟨t,rfl⟩:=rx;rw[eqIsQuiet_byValue _ rfl];exact wpAny_pure h
  | txt i=>unfold IsK at hk;subst hk;obtain⟨t,rfl⟩:=rx;rw[eqIsQuiet_byValue _ rfl];exact wpAny_pure h
  | tup ks =>
   unfold IsK at hk;obtain⟨a,vs,rfl,ha,_,hks⟩:=hk;cases rx
   obtain⟨its,r1,⟨o,ho,hc,m,hdt⟩,_⟩:=I.tuple (SqT.of ha)
   have hT:({ s with toks:=tk }:Shared).TypeIs (.ref a) "tuple" := ⟨o,ho,hc⟩
   unfold Kd.deep at hd
   have hdk:∀ j∈ks,j.deep<=n:=fun j hj=>Nat.le_trans (Kd.deep_le hj) (by omega)
   unfold eqIsQuiet
   refine wpAny_bind (wpAny_specialOf hT F.slot_tuple_eq.lookup ?_)
   show wpAny _ _ (isInstance (.ref a) (.type "tuple") >>= _) _ _ _
   refine wpAny_bind (wpAny_isInstance hT isSubtype_tuple_tuple ?_)
   rw[if_neg (by decide)]
   refine wpAny_bind (wpAny_seqItems (s:={ s with toks:=tk }) ho hdt ?_)
   refine wpAny_bind ?_
   show wpAny _ _ (forIn its.toArray _ _) _ _ _
   rw[← Array.forIn_toList]
   refine wpAny_forIn_list _ (fun YS r s'=>r.1=none/\s'={ s with toks:=tk }/\∃ lf,(∀ j∈lf,j.deep<=n)/\TK H lf YS) _ ?_ ?_ _ _ ⟨rfl,rfl,ks,hdk,vs,hks,by simpa using r1⟩
   ·rintro y YS r s' ⟨hr,rfl,lf,hl,t1⟩
    obtain⟨k,kr,x,rfl,hk,rx,t2⟩:=t1.cons_inv
    refine wpAny_bind (ih (hl k List.mem_cons_self) hk rx _ _ tk ?_)
    rw[if_neg (by decide)]
    exact wpAny_pure ⟨rfl,rfl,kr,fun j hj=>hl j (List.mem_cons_of_mem _ hj),t2⟩
   ·rintro ⟨r1,r2⟩ s' ⟨hr,rfl,_⟩
    simp only at hr
    subst hr
    exact wpAny_pure h
end
end L2
namespace L2
open PySem PySem.Spec PyProof.Rows
abbrev En:=Kd × V × V
def EnR (w:World) (p:En) (e:DictEntry):Prop:=e.hash=p.1.hsh w/\RelV p.2.1 e.key/\RelV p.2.2 e.val
def dko (w:World) (a:Addr) (ps:List En):HO:=.ext fun h=>ps.length<=sizeLine/\(a == sysModules)=false/\∃ es ep,RawD h a es ep/\Paired (EnR w) ps es.toList
structure EnOk (H:Hp) (ps:List En):Prop where
 is:∀ p∈ps,IsK H p.1 p.2.1/\p.1.deep<=6
 nd:(ps.map (·.1)).Nodup
theorem EnOk.nil {H:Hp}:EnOk H []:=⟨fun p h=>(by cases h),List.nodup_nil⟩
theorem EnOk.same {H H':Hp} {ps:List En} (h:EnOk H ps) (s:TupS H H'):EnOk H' ps:=⟨fun p hp=>⟨(h.is p hp).1.same s,(h.is p hp).2⟩,h.nd⟩
def atE (ps:List En) (k:Kd):Option V:=(ps.find? fun p=>decide (p.1=k)).map (·.2.2)
def WW (ps:List En) (k:Kd) (x v:V):List En:=if k∈ps.map (·.1) then ps.map (fun p=>if p.1=k then (p.1,p.2.1,v) else p) else ps++[(k,x,v)]
def ZC (ps:List En) (k:Kd):List En:=ps.filter fun p=>decide (p.1 ≠ k)
theorem Z2 {X:Cx} {pins:List (Addr × Obj)} {σ:St} {H:Hp} {s:Shared} {a:Addr} {ps:List En} (I:Inv X pins σ H s) (e:H a=some (dko X.w a ps)) :
  ps.length<=sizeLine/\(a == sysModules)=false/\∃ es ep,RawD s.heap a es ep/\Paired (EnR X.w) ps es.toList:=(I.hok a _ e).1
theorem zBK {P:Program} {w w':World} {H:Hp} {h:Heap} {a:Addr} {ps:List En} {es:Array DictEntry} {ep:Nat} (z:ps.length<=sizeLine) (hd:(a == sysModules)=false) (r:RawD h a es ep) (pr:Paired (EnR w) ps es.toList):ObjOk P w' H h a (dko w a ps) :=
 ⟨⟨z,hd,es,ep,r,pr⟩,let ⟨o,ho,_⟩:=r;⟨o,ho⟩,fun h1 h2 ⟨z,hd,es,ep,r,pr⟩ k=>⟨z,hd,es,ep,r.at k,pr⟩⟩
theorem Paired.getR {α β:Type} {R:α->β->Prop}:∀ {ps:List α} {es:List β} {i:Nat} {e:β},Paired R ps es->es[i]? = some e->∃ p,ps[i]? = some p/\R p e
 | _,_,_,_,.nil,h=>by simp at h
 | _,_,0,_,.cons r _,h=>by simp at h;subst h;exact⟨_,rfl,r⟩
 | _,_,i+1,e,.cons _ t,h=>by
  obtain⟨p,h1,h2⟩:=Paired.getR (i:=i) (e:=e) t (by simpa using h)
  exact⟨p,by simpa using h1,h2⟩
theorem Paired.getL {α β:Type} {R:α->β->Prop}:∀ {ps:List α} {es:List β} {i:Nat} {p:α},Paired R ps es->ps[i]? = some p->∃ e,es[i]? = some e/\R p e
 | _,_,_,_,.nil,h=>by simp at h
 | _,_,0,_,.cons r _,h=>by simp at h;subst h;exact⟨_,rfl,r⟩
 | _,_,i+1,p,.cons _ t,h=>by
  obtain⟨e,h1,h2⟩:=Paired.getL (i:=i) (p:=p) t (by simpa using h)
  exact⟨e,by simpa using h1,h2⟩
theorem Paired.snoc {α β:Type} {R:α->β->Prop} {p:α} {e:β} (r:R p e):∀ {ps:List α} {es:List β},Paired R ps es->Paired R (ps++[p]) (es++[e])
 | _,_,.nil=>.cons r .nil
 | _,_,.cons q t=>.cons q (Paired.snoc r t)
theorem Paired.modi {α β:Type} {R:α->β->Prop} {f:α->α} {g:β->β} (hf:∀ p e,R p e->R (f p) (g e)):∀ {ps:List α} {es:List β} (i:Nat),Paired R ps es->Paired R (ps.modify i f) (es.modify i g)
 | _,_,_,.nil=>by simp;exact .nil
 | _,_,0,.cons q t=>.cons (hf _ _ q) t
 | _,_,i+1,.cons q t=>.cons q (Paired.modi hf i t)
theorem Paired.eras {α β:Type} {R:α->β->Prop}:∀ {ps:List α} {es:List β} (i:Nat),Paired R ps es->Paired R (ps.eraseIdx i) (es.eraseIdx i)
 | _,_,_,.nil=>.nil
 | _,_,0,.cons q t=>t
 | _,_,i+1,.cons q t=>.cons q (Paired.eras i t)
theorem W4 {ps:List En} {i:Nat} {p:En} (h:ps[i]? = some p):p.1∈ps.map (·.1):=List.mem_map.mpr ⟨p,List.mem_of_getElem? h,rfl⟩
theorem zBU:∀ {ps:List En} {i:Nat} {p:En},(ps.map (·.1)).Nodup->ps[i]? = some p->atE ps p.1=some p.2.2
 | [],i,p,_,h=>by simp at h
 | q::r,0,p,_,h=>by simp at h;subst h;simp[atE]
 | q::r,i+1,p,hn,h=>by
  have h':r[i]? = some p:=by simpa using h
  rw[List.map_cons,List.nodup_cons] at hn
  have hne:¬ q.1=p.1:=fun e=>hn.1 (e ▸ W4 h')
  have:=zBU hn.2 h'
  simpa [atE,List.find?_cons,hne] using this
theorem zHm {k:Kd} {v:V}:∀ {ps:List En},¬ k∈ps.map (·.1)->ps.map (fun p=>if p.1=k then (p.1,p.2.1,v) else p)=ps
 | [],_=>rfl
 | q::r,h=>by
  rw[List.map_cons,List.mem_cons,not_or] at h
  rw[List.map_cons,if_neg (fun e=>h.1 e.symm),zHm h.2]
theorem zAm {k:Kd} {x v:V}:∀ {ps:List En} {i:Nat} {p:En},(ps.map (·.1)).Nodup->ps[i]? = some p->p.1=k->ps.modify i (fun p=>(p.1,p.2.1,v))=ps.map (fun p=>if p.1=k then (p.1,p.2.1,v) else p)
 | [],i,p,_,h,_=>by simp at h
 | q::r,0,p,hn,h,e=>by
  rw[List.map_cons,List.nodup_cons] at hn
  have h0:q=p:=by simpa using h
  subst h0
  rw[List.map_cons,if_pos e,zHm (e ▸ hn.1)]
  rfl
 | q::r,i+1,p,hn,h,e=>by
  rw[List.map_cons,List.nodup_cons] at hn
  have h':r[i]? = some p:=by simpa using h
  have hne:¬ q.1=k:=fun z=>hn.1 (z.trans e.symm ▸ W4 h')
  rw[List.map_cons,if_neg hne]
  show q::r.modify i _=_
  rw[zAm (x:=x) hn.2 h' e]
theorem zHR {k:Kd} {ps:List En} (h:¬ k∈ps.map (·.1)):ZC ps k=ps:=List.filter_eq_self.mpr fun p hp=>decide_eq_true fun e=>h (e ▸ List.mem_map.mpr ⟨p,hp,rfl⟩)
theorem J6 {k:Kd}:∀ {ps:List En} {i:Nat} {p:En},(ps.map (·.1)).Nodup->ps[i]? = some p->p.1=k->ps.eraseIdx i=ZC ps k
 | [],i,p,_,h,_=>by simp at h
 | q::r,0,p,hn,h,e=>by
  rw[List.map_cons,List.nodup_cons] at hn
  have h0:q=p:=by simpa using h
  subst h0
  show r=List.filter _ (q::r)
  rw[List.filter_cons,if_neg (by simp[e])]
  exact (zHR (e ▸ hn.1)).symm
 | q::r,i+1,p,hn,h,e=>by
  rw[List.map_cons,List.nodup_cons] at hn
  have h':r[i]? = some p:=by simpa using h
  have hne:¬ q.1=k:=fun z=>hn.1 (z.trans e.symm ▸ W4 h')
  show q::r.eraseIdx i=List.filter _ (q::r)
  rw[List.filter_cons,if_pos (by simp[hne]),J6 hn.2 h' e]
  rfl
theorem zHU {ps:List En} {k:Kd} {x v:V}:(WW ps k x v).length<=ps.length+1:=by
 unfold WW
 split <;> simp
theorem zGn {ps:List En} {k:Kd}:(ZC ps k).length<=ps.length:=List.length_filter_le _ _
theorem zHB {ps:List En} {k:Kd} {x v:V}:(WW ps k x v).map (·.1)=if k∈ps.map (·.1) then ps.map (·.1) else ps.map (·.1)++[k]:=by
 unfold WW
 split
 ·rw[List.map_map]
  refine List.map_congr_left fun p _=>?_
  show (if p.1=k then (p.1,p.2.1,v) else p).1=p.1
  split <;> rfl
 ·simp
theorem zE8 {ps:List En} {k:Kd}:(ZC ps k).map (·.1)=(ps.map (·.1)).filter fun j=>decide (j ≠ k):=by
 unfold ZC
 induction ps with
 | nil=>rfl
 | cons p r ih =>
  rw[List.filter_cons,List.map_cons,List.filter_cons]
  split
  ·rw[List.map_cons,ih]
  ·exact ih
theorem EnOk.put {H:Hp} {ps:List En} {k:Kd} {x v:V} (h:EnOk H ps) (hk:IsK H k x) (hd:k.deep<=6):EnOk H (WW ps k x v):=by
 refine⟨fun p hp=>?_,?_⟩
 ·unfold WW at hp
  split at hp
  ·obtain⟨q,hq,rfl⟩:=List.mem_map.mp hp
   have:=h.is q hq
   split <;> exact this
  ·rcases List.mem_append.mp hp with hp | hp
   ·exact h.is p hp
   ·rw[List.mem_singleton.mp hp];exact⟨hk,hd⟩
 ·rw[zHB]
  split
  ·exact h.nd
  ·rename_i hn
   exact zF9 h.nd hn
theorem EnOk.drop {H:Hp} {ps:List En} {k:Kd} (h:EnOk H ps):EnOk H (ZC ps k) :=
 ⟨fun p hp=>h.is p (List.mem_filter.mp hp).1,by rw[zE8];exact List.filter_sublist.nodup h.nd⟩
section
variable {X:Cx} {pins:List (Addr × Obj)} {σ:St} {H:Hp} {s:Shared} {ps:List En} {es:Array DictEntry} {k:Kd} {x:V} {u:Value} {A:Around}
def bE (ps:List En) (k:Kd):Nat->Bool:=fun i=>(ps[i]?.map fun p=>decide (p.1=k)).getD false
theorem JD {i:Nat} {p:En} (h:ps[i]? = some p):bE ps k i=decide (p.1=k):=by unfold bE;rw[h];rfl
theorem JS (I:Inv X pins σ H s) (hu:A.units+8 < cLine) (ok:EnOk H ps) (pr:Paired (EnR X.w) ps es.toList) (hk:IsK H k x) (hd:k.deep<=6) (rx:RelV x u):KeyAt X.prog X.w A s es u (k.hsh X.w) (bE ps k):=by
 have gt:∀ {i e},es[i]? = some e->∃ p,ps[i]? = some p/\EnR X.w p e/\IsK H p.1 p.2.1/\p.1.deep<=6:=fun {i e} h=>by
  obtain⟨p,h1,h2⟩:=Paired.getR pr (i:=i) (e:=e) (by simpa using h)
  exact⟨p,h1,h2,ok.is p (List.mem_of_getElem? h1)⟩
 have mm:∀ {e},e∈es->∃ i,es[i]? = some e:=fun {e} h=>by
  obtain⟨i,hi⟩:=List.mem_iff_getElem?.mp (Array.mem_toList_iff.mpr h)
  exact⟨i,by simpa using hi⟩
 refine⟨fun i e tk h=>?_,fun i e h hb=>?_,fun i j hi hj h1 h2=>?_,fun E Q tk h=>zFw I 8 (by omega) hk rx E Q tk h,fun e he E Q tk h=>?_,fun e he h1 h2=>?_,?_,fun E Q tk h=>zNI I 6 hd hk rx (by omega) E Q tk h⟩
 ·obtain⟨p,h1,h2,h3,h4⟩:=gt h
  rw[JD h1]
  have z:=zIW (I.tok tk) 6 (A:=A) h4 h3 hk h2.2.1 rx (by omega)
  rw[Kd.eqb_dec] at z
  exact z
 ·obtain⟨p,h1,h2,h3,h4⟩:=gt h
  rw[JD h1] at hb
  rw[h2.1,of_decide_eq_true hb]
 ·obtain⟨p,p1,_⟩:=gt (Array.getElem?_eq_getElem hi)
  obtain⟨q,q1,_⟩:=gt (Array.getElem?_eq_getElem hj)
  rw[JD p1] at h1
  rw[JD q1] at h2
  have e1:(ps.map (·.1))[i]? = some k:=by rw[List.getElem?_map,p1,← of_decide_eq_true h1];rfl
  have e2:(ps.map (·.1))[j]? = some k:=by rw[List.getElem?_map,q1,← of_decide_eq_true h2];rfl
  exact (List.getElem?_inj (List.getElem?_eq_some_iff.mp e1).1 ok.nd).mp (e1.trans e2.symm)
 ·obtain⟨i,hi⟩:=mm he
  obtain⟨p,h1,h2,h3,h4⟩:=gt hi
  exact zFw I 8 (by omega) h3 h2.2.1 E Q tk h
 ·obtain⟨i,hi⟩:=mm he
  obtain⟨p,p1,p2,p3,p4⟩:=gt hi
  have e1:p.2.1=x:=RelV.inj (h1 ▸ p2.2.1) rx
  rw[p2.1,Kd.eqb_eq (p3.inj (e1 ▸ hk))]
 ·cases k with
  | num i=>unfold IsK at hk;subst hk;obtain⟨t,rfl⟩:=rx;exact .inl ⟨i,t,rfl⟩
  | txt y =>
   unfold IsK at hk;subst hk;obtain⟨t,rfl⟩:=rx
   refine .inr (.inl ⟨y,t,rfl,fun i e he hs=>?_⟩)
   obtain⟨p,p1,p2,p3,p4⟩:=gt he
   rw[JD p1]
   have hr:=p2.2.1
   obtain⟨⟨pk,px,pv⟩,rfl⟩:∃ q,q=p:=⟨p,rfl⟩
   dsimp only at p3 hr ⊢
   cases pk with
   | num j=>unfold IsK at p3;subst p3;obtain⟨t',e'⟩:=hr;rw[e'] at hs;cases hs
   | txt z =>
    unfold IsK at p3;subst p3;obtain⟨t',e'⟩:=hr;rw[e']
    rw[← Kd.eqb_dec]
    unfold Kd.eqb
    rfl
   | tup ls=>unfold IsK at p3;obtain⟨b,ws,rfl,_⟩:=p3;rw[show e.key=Value.ref b from hr] at hs;cases hs
  | tup ks=>unfold IsK at hk;obtain⟨b,ws,rfl,_⟩:=hk;cases rx;exact .inr (.inr ⟨b,rfl⟩)
end
section
variable {X:Cx}
def zK4 (w:World):TE:=fun _ H Q=>∀ p,H p=none->Q (.ref p) (upd H p (dko w p []))
theorem zJV {pos:Pos}:PE X (.Dict [] [] pos) (zK4 X.w):=fun pins s σ H Q I h =>
 wpAny_Dict_empty ⟨.ref s.heap.objs.size,_,I.laid (a:=s.heap.objs.size) (o:=dko X.w s.heap.objs.size []) (t':=s.toks) (fun _ _ q=>Heap.get?_push_of_some _ q) (Nat.le_refl _)
  (zBK (Nat.zero_le _) (beq_eq_false_iff_ne.mpr (Ne.symm (Nat.ne_of_lt I.big))) ⟨_,Heap.get?_push_size _ rfl,⟨rfl,rfl,rfl⟩,rfl⟩ .nil),rfl,h _ (I.hok.fresh (Nat.le_refl _))⟩
theorem zK5 {ps:List En} {es:Array DictEntry} {k:Kd} {w:World} (pr:Paired (EnR w) ps es.toList) (h:∀ i,i < es.size->bE ps k i=false):¬ k∈ps.map (·.1):=fun hm=>by
 obtain⟨p,hp,e⟩:=List.mem_map.mp hm
 obtain⟨i,hi⟩:=List.mem_iff_getElem?.mp hp
 obtain⟨e',he,_⟩:=Paired.getL pr hi
 have hl:i < es.size:=by
  have:=(List.getElem?_eq_some_iff.mp he).1
  simpa using this
 have:=h i hl
 rw[JD hi,decide_eq_true e] at this
 cases this
theorem zIY {ps:List En} {es:Array DictEntry} {k:Kd} {w:World} {i:Nat} {e:DictEntry} (pr:Paired (EnR w) ps es.toList) (hi:es[i]? = some e) (h:bE ps k i=true):∃ p,ps[i]? = some p/\p.1=k/\EnR w p e:=by
 obtain⟨p,p1,p2⟩:=Paired.getR pr (i:=i) (e:=e) (by simpa using hi)
 rw[JD p1] at h
 exact⟨p,p1,of_decide_eq_true h,p2⟩
def zNW (w:World) (neg:Bool):R2:=fun x y H Q=>∃ a ps k,y=.ref a/\H a=some (dko w a ps)/\EnOk H ps/\IsK H k x/\k.deep<=6/\Q (.bl (if neg then !decide (k∈ps.map (·.1)) else decide (k∈ps.map (·.1)))) H
theorem zMO (hu:X.A.units+64 < cLine):OpR X (compareOp .In) (zNW X.w false):=by
 intro pins s σ H x y v u Q I rx ry h
 obtain⟨a,ps,k,rfl,e,ok,hk,hd,q⟩:=h
 cases ry
 obtain⟨z,hm,es,ep,r,pr⟩:=Z2 I e
 refine wpAny_bind (zDr (JS I (by show X.A.units+1+8 < cLine;omega) ok pr hk hd rx) r hm (fun h tk=>?_) fun i e' ei hb tk=>?_)
 ·refine wpAny_pure ⟨.bl false,H,I.tok tk,rfl,?_⟩
  rw[if_neg (by decide),decide_eq_false (zK5 pr h)] at q
  exact q
 ·obtain⟨p,p1,p2,_⟩:=zIY pr ei hb
  refine wpAny_pure ⟨.bl true,H,I.tok tk,rfl,?_⟩
  rw[if_neg (by decide),decide_eq_true (p2 ▸ W4 p1)] at q
  exact q
theorem RawD.there {h:Heap} {d:Addr} {es:Array DictEntry} {ep:Nat} (r:RawD h d es ep):∃ q,h.get? d=some q:=let ⟨o,ho,_⟩:=r;⟨o,ho⟩
def zNS (w:World):zHV:=fun o x v H Q=>∃ a ps k,o=.ref a/\H a=some (dko w a ps)/\EnOk H ps/\IsK H k x/\k.deep<=6/\ps.length < sizeLine/\Q (upd H a (dko w a (WW ps k x v)))
theorem zK1 (hu:X.A.units+64 < cLine):zKd X (zNS X.w):=by
 intro pins s σ H o x v ov iv u Q I ro rx rv h
 obtain⟨a,ps,k,rfl,e,ok,hk,hd,hl,q⟩:=h
 cases ro
 obtain⟨z,hm,es,ep,r,pr⟩:=Z2 I e
 have hes:es.size=ps.length:=by have:=Paired.length pr;simpa using this.symm
 have z':(WW ps k x v).length<=sizeLine:=Nat.le_trans zHU hl
 refine zE2 (JS I (by show X.A.units+1+8 < cLine;omega) ok pr hk hd rx) r (by omega) (fun h h' tk r' hs=>⟨_,zAg I (by rw[e];exact True.intro) hs (RawD.there r') (zBK z' hm r' ?_),q⟩) fun i e' ei hb h' tk r' hs=>⟨_,zAg I (by rw[e];exact True.intro) hs (RawD.there r') (zBK z' hm r' ?_),q⟩
 ·unfold WW
  rw[if_neg (zK5 pr h),Array.toList_push]
  exact Paired.snoc ⟨rfl,rx,rv⟩ pr
 ·obtain⟨p,p1,p2,_⟩:=zIY pr ei hb
  unfold WW
  rw[if_pos (p2 ▸ W4 p1),← zAm (x:=x) ok.nd p1 p2,Array.toList_modify]
  exact Paired.modi (fun p e ⟨h1,h2,_⟩=>⟨h1,h2,rv⟩) i pr
def zMc (w:World):V->List V->Hp->VK->Prop:=fun o vs H Q=>∃ a ps k x v,o=.ref a/\vs=[x]/\H a=some (dko w a ps)/\EnOk H ps/\IsK H k x/\k.deep<=6/\atE ps k=some v/\Q v (upd H a (dko w a (ZC ps k)))
theorem zIG {ps:List En} {k:Kd} {v:V} (h:atE ps k=some v):∃ (i:Nat) (p:En),ps[i]? = some p/\p.1=k/\p.2.2=v:=by
 unfold atE at h
 cases hf:ps.find? (fun p=>decide (p.1=k)) with
 | none=>rw[hf] at h;cases h
 | some p =>
  rw[hf] at h
  obtain⟨i,hi⟩:=List.mem_iff_getElem?.mp (List.mem_of_find?_eq_some hf)
  have hp:decide (p.1=k)=true:=List.find?_some (p:=fun p:En=>decide (p.1=k)) hf
  exact⟨i,p,hi,of_decide_eq_true hp,Option.some.inj h⟩
theorem zJG (hu:X.A.units+64 < cLine):MtR X "dict.pop" (zMc X.w):=by
 intro pins s σ H o vs ov us Q I ro rv h
 obtain⟨a,ps,k,x,v,rfl,rfl,e,ok,hk,hd,hv,q⟩:=h
 cases ro
 obtain⟨u,rfl,rx⟩:=rv.one
 obtain⟨z,hm,es,ep,r,pr⟩:=Z2 I e
 have hes:es.size=ps.length:=by have:=Paired.length pr;simpa using this.symm
 obtain⟨i,p,p1,p2,p3⟩:=zIG hv
 obtain⟨en,h1,h2⟩:=Paired.getL pr p1
 have h1':es[i]? = some en:=by simpa using h1
 refine zLP (JS I (by show X.A.units+1+8 < cLine;omega) ok pr hk hd rx) r (by omega) h1' (by rw[JD p1];exact decide_eq_true p2) fun h' tk r' hs=>⟨v,_,zAg I (by rw[e];exact True.intro) hs (RawD.there r') (zBK (Nat.le_trans zGn z) hm r' ?_),p3 ▸ h2.2.2,q⟩
 rw[← J6 ok.nd p1 p2,Array.toList_eraseIdxIfInBounds]
 exact Paired.eras i pr
def zJ5 (w:World):V->List V->Hp->VK->Prop:=fun o vs H Q=>∃ a ps,o=.ref a/\vs=[]/\H a=some (dko w a ps)/\Q .non (upd H a (dko w a []))
theorem zHJ:MtM X "dict.clear" (zJ5 X.w):=by
 intro pins s σ H o vs ov us Q I ro rv h
 obtain⟨a,ps,rfl,rfl,e,q⟩:=h
 cases ro
 have hus:=rv.zero
 subst hus
 obtain⟨z,hm,es,ep,r,pr⟩:=Z2 I e
 have hes:es.size=ps.length:=by have:=Paired.length pr;simpa using this.symm
 exact zIt r (by omega) fun h' r' hs=>⟨.non,_,zAg (t':=s.toks) I (by rw[e];exact True.intro) hs (RawD.there r') (zBK (Nat.zero_le _) hm r' .nil),rfl,q⟩
def zKn (w:World):List V->Hp->VK->Prop:=fun vs H Q=>∃ a ps,vs=[.ref a]/\H a=some (dko w a ps)/\Q (.int ps.length) H
theorem zB0:ZD X (.builtin "len") (zKn X.w):=by
 intro pins s σ H vs us Q I rv h
 obtain⟨a,ps,rfl,e,q⟩:=h
 obtain⟨u,rfl,rx⟩:=rv.one
 cases rx
 obtain⟨z,hm,es,ep,r,pr⟩:=Z2 I e
 have hes:es.size=ps.length:=by have:=Paired.length pr;simpa using this.symm
 refine zLh r hm (by omega) fun t tk=>⟨.int ps.length,H,I.tok tk,⟨t,by rw[hes]⟩,q⟩
def zLn (w:World):List V->Hp->VK->Prop:=fun vs H Q=>∃ a ps,vs=[.ref a]/\H a=some (dko w a ps)/\∀ l,H l=none->Q (.ref l) (upd H l (.lst (ps.map (·.2.1))))
theorem zBV (hc:X.calm=true):ZD X (.type "list") (zLn X.w):=by
 intro pins s σ H vs us Q I rv h
 obtain⟨a,ps,rfl,e,q⟩:=h
 obtain⟨u,rfl,rx⟩:=rv.one
 cases rx
 obtain⟨z,hm,es,ep,r,pr⟩:=Z2 I e
 have hes:es.size=ps.length:=by have:=Paired.length pr;simpa using this.symm
 refine zJX (I.ok.hd hc) r hm (by omega) fun h' tk acc c kp hl ha=>⟨.ref _,_,I.laid (o:=.lst (ps.map (·.2.1))) kp (Nat.le_refl _) ⟨by rw[List.length_map];exact z,acc.toList,c,?_,by rw[hl]⟩,rfl,q _ (I.hok.fresh (Nat.le_refl _))⟩
 have key:∀ (ps:List En) (es us:List _),Paired (EnR X.w) ps es->us.length=es.length->(∀ (i:Nat) u,us[i]? = some u->∃ e,es[i]? = some e/\u=DictEntry.key e)->Vals (ps.map (·.2.1)) us:=by
  intro ps es us pr
  induction pr generalizing us with
  | nil=>intro hl _;cases us with
   | nil=>exact .nil
   | cons u r=>cases hl
  | @cons p e pr' er r t ih=>intro hl hu;cases us with
   | nil=>cases hl
   | cons u us =>
    refine .cons ?_ (ih us (by simpa using hl) fun i u h=>by simpa using hu (i+1) u (by simpa using h))
    obtain⟨e',h1,h2⟩:=hu 0 u rfl
    cases h1
    rw[h2]
    exact r.2.1
 refine key ps es.toList acc.toList pr (by simpa using ha.1) fun i u hu=>?_
 obtain⟨e',h1,h2⟩:=ha.2 i u (by simpa using hu)
 exact⟨e',by simpa using h1,h2⟩
theorem zFO {pins:List (Addr × Obj)} {σ:St} {H:Hp} {s:Shared} {a:Addr} {ps:List En} (I:Inv X pins σ H s) (e:H a=some (dko X.w a ps)):s.TypeIs (.ref a) "dict" /\ ∀ b,Value.ref a=.ref b->∃ ob,s.heap.get? b=some ob/\ob.dict=none:=by
 obtain⟨_,_,es,ep,⟨o,ho,hc,hd⟩,_⟩:=Z2 I e
 exact⟨⟨o,ho,hc.1⟩,fun b q=>by cases q;exact⟨o,ho,hc.2.1⟩⟩
def zM3 (w:World) (r:V->List V->Hp->VK->Prop) (to:TE):TE:=fun σ H Q=>to σ H fun x H1=>(∃ a ps,x=.ref a/\H1 a=some (dko w a ps))/\r x [] H1 Q
def tKM (w:World) (r:V->List V->Hp->VK->Prop) (to:TE) (t:TA):TE:=fun σ H Q=>to σ H fun x H1=>(∃ a ps,x=.ref a/\H1 a=some (dko w a ps))/\t σ H1 fun xs H2=>r x xs H2 Q
variable {o e:Expr} {es:List Expr} {to:TE} {t:TA} {name:Str} {apos cpos:Pos} {id:String} {r:V->List V->Hp->VK->Prop}
theorem zLy (slot:Slot "dict" name id) (hty:typeOf (.builtin id)=pure (.type "method_descriptor")) (hm:MtR X id r) (ho:PE X o to)
  (hbase:attributeBase o name X.env (eval o X.env)=eval o X.env:=by rfl) (hline:(apos.endLine == cpos.line)=true:=by rfl):PE X (.Call (.Attribute o name apos) [] [] cpos) (zM3 X.w r to):=by
 intro pins s σ H Q I h
 refine wpAny_Call_method0_late hbase hline (thn (ho pins s σ H _ I h) fun v s1 ⟨x,H1,I1,r1,⟨a,ps,ex,ea⟩,q1⟩=>?_)
 subst ex
 cases r1
 obtain⟨h1,h2⟩:=zFO I1 ea
 exact⟨"dict",id,PySem.F.plainAttrs_dict,slot,hty,h1,h2,Calls.callWith_builtin rfl (PySem.evalArgs_none (hm pins s1 σ H1 (.ref a) [] _ [] Q I1 rfl .nil q1))⟩
theorem zMq (slot:Slot "dict" name id) (hty:typeOf (.builtin id)=pure (.type "method_descriptor")) (hm:MtR X id r) (ho:PE X o to) (ha:PA X (e::es) t)
  (hbase:attributeBase o name X.env (eval o X.env)=eval o X.env:=by rfl)
  (hfew:((backTo cpos (starEach (e::es) X.env)).all (fun x => !x.1) && (backToKw cpos (keywordEach [] X.env)).all (fun x=>x.1.isSome)
   && decide ((e::es).length+([]:List Keyword).length+(if ([]:List Keyword).isEmpty then 0 else 1) < 30))=true:=by rfl)
  (hline:(apos.endLine == cpos.line)=true:=by rfl) (hs:starEach (e::es) X.env=(false,eval e X.env)::starEach es X.env:=by rfl) (hplain:(backTo cpos (starEach es X.env)).any (·.1)=false:=by rfl) :
  PE X (.Call (.Attribute o name apos) (e::es) [] cpos) (tKM X.w r to t):=by
 intro pins s σ H Q I h
 refine wpAny_Call_method_late hbase hfew hline rfl (thn (ho pins s σ H _ I h) fun v s1 ⟨x,H1,I1,r1,⟨a,ps,ex,ea⟩,q1⟩=>?_)
 subst ex
 cases r1
 obtain⟨h1,h2⟩:=zFO I1 ea
 refine⟨"dict",id,PySem.F.plainAttrs_dict,slot,hty,h1,h2,?_⟩
 have hA:=ha cpos pins s1 σ H1 _ I1 q1
 rw[hs] at hA ⊢
 refine Calls.callWith_builtin (by show (false || (backTo cpos (starEach es X.env)).any (·.1))=false;rw[hplain] <;> rfl) (Calls.evalArgs_plain ?_)
 exact thn hA fun us s2 ⟨vs,H2,I2,r2,q2⟩=>hm pins s2 σ H2 (.ref a) vs _ us Q I2 rfl r2 q2
def zLC (w:World) (td ty:TE):TE:=fun σ H Q=>td σ H fun x H1=>ty σ H1 fun y H2=>∃ a ps k v,x=.ref a/\H2 a=some (dko w a ps)/\EnOk H2 ps/\IsK H2 k y/\k.deep<=6/\atE ps k=some v/\Q v H2
theorem Jf {i:Expr} {pos:Pos} {td ty:TE} (hu:X.A.units+64 < cLine) (ho:PE X o td) (hi:PE X i ty) (hs:zMe i):PE X (.Subscript o i pos) (zLC X.w td ty):=by
 intro pins s σ H Q I h
 refine zJl PySem.F.slot_dict_getitem.lookup hs (thn (ho pins s σ H _ I h) fun u s1 ⟨x,H1,I1,rx,q1⟩=>thn (hi pins s1 σ H1 _ I1 q1) fun iv s2 ⟨y,H2,I2,ry,a,ps,k,v,ex,e,ok,hk,hd,hv,q2⟩=>?_)
 subst ex
 obtain rfl:u=Value.ref a:=rx
 obtain⟨z,hm,es,ep,r,pr⟩:=Z2 I2 e
 obtain⟨j,p,p1,p2,p3⟩:=zIG hv
 obtain⟨en,h1,h2⟩:=Paired.getL pr p1
 exact⟨(zFO I2 e).1,zJ0 (JS I2 (by show X.A.units+1+8 < cLine;omega) ok pr hk hd ry) r (by simpa using h1) (by rw[JD p1];exact decide_eq_true p2) fun tk=>⟨v,H2,I2.tok tk,p3 ▸ h2.2.2,q2⟩⟩
end
end L2
namespace L2
open PySem PySem.Spec PyProof.Rows
theorem zIN {ps:List En} {k:Kd} (h:k∈ps.map (·.1)):∃ v,atE ps k=some v:=by
 obtain⟨p,hp,e⟩:=List.mem_map.mp h
 unfold atE
 cases hf:ps.find? (fun p=>decide (p.1=k)) with
 | none=>exact absurd (decide_eq_true e) (List.find?_eq_none.mp hf p hp)
 | some q=>exact⟨_,rfl⟩
theorem EnOk.kos {H:Hp} {ps:List En} (h:EnOk H ps):IsKos H ((ps.map (·.1)).map some) (ps.map (·.2.1)):=by
 have key:∀ qs:List En,(∀ p∈qs,IsK H p.1 p.2.1)->IsKos H ((qs.map (·.1)).map some) (qs.map (·.2.1)):=by
  intro qs
  induction qs with
  | nil=>exact fun _=>IsKos.nil
  | cons q r ih=>exact fun hq=>zEQ (show IsKo H (some q.1) q.2.1 from hq q List.mem_cons_self) (ih fun p hp=>hq p (List.mem_cons_of_mem _ hp))
 exact key ps fun p hp=>(h.is p hp).1
end L2
namespace L2
open PySem PySem.Spec PyProof.Rows
def Lf3 (x:V):Prop:=(∃ i,x=.int i)\/(∃ z,x=.str z)\/x=.non
def Sm:Nat->Hp->V->V->Prop
 | 0,_,x,y=>x=y/\Lf3 x
 | d+1,H,x,y=>(x=y/\Lf3 x)\/∃ a b xs ys,x=.ref a/\y=.ref b/\H a=some (.tup xs)/\H b=some (.tup ys)/\xs.length=ys.length/\xs.length<=1000/\∀ (i:Nat) u v,xs[i]? = some u->ys[i]? = some v->Sm d H u v
theorem Sm.leaf {d:Nat} {H:Hp} {x:V} (h:Lf3 x):Sm d H x x:=by
 cases d with
 | zero=>exact⟨rfl,h⟩
 | succ d=>exact .inl ⟨rfl,h⟩
theorem Sm.same {H H':Hp} (t:TupS H H'):∀ {d:Nat} {x y:V},Sm d H x y->Sm d H' x y
 | 0,_,_,h=>h
 | d+1,_,_,h=>by
  rcases h with h | ⟨a,b,xs,ys,e1,e2,h1,h2,h3,h4,h5⟩
  ·exact .inl h
  ·exact .inr ⟨a,b,xs,ys,e1,e2,t _ _ h1,t _ _ h2,h3,h4,fun i u v hu hv=>(h5 i u v hu hv).same t⟩
theorem Sm.up {H:Hp}:∀ {d:Nat} {x y:V},Sm d H x y->Sm (d+1) H x y
 | 0,_,_,h=>.inl h
 | d+1,_,_,h=>by
  rcases h with h | ⟨a,b,xs,ys,e1,e2,h1,h2,h3,h4,h5⟩
  ·exact .inl h
  ·exact .inr ⟨a,b,xs,ys,e1,e2,h1,h2,h3,h4,fun i u v hu hv=>(h5 i u v hu hv).up⟩
theorem IsK.sm {H:Hp}:∀ {d:Nat} {k:Kd} {x y:V},IsK H k x->IsK H k y->k.deep<=d->Sm d H x y:=by
 intro d
 induction d with
 | zero =>
  intro k x y hx hy hd
  cases k with
  | num i=>unfold IsK at hx hy;rw[hx,hy];exact .leaf (.inl ⟨i,rfl⟩)
  | txt z=>unfold IsK at hx hy;rw[hx,hy];exact .leaf (.inr (.inl ⟨z,rfl⟩))
  | tup ks=>unfold Kd.deep at hd;omega
 | succ d ih =>
  intro k x y hx hy hd
  cases k with
  | num i=>unfold IsK at hx hy;rw[hx,hy];exact .leaf (.inl ⟨i,rfl⟩)
  | txt z=>unfold IsK at hx hy;rw[hx,hy];exact .leaf (.inr (.inl ⟨z,rfl⟩))
  | tup ks =>
   unfold Kd.deep at hd
   unfold IsK at hx hy
   obtain⟨a,vs,rfl,ha,z1,h1⟩:=hx
   obtain⟨b,ws,rfl,hb,z2,h2⟩:=hy
   refine .inr ⟨a,b,vs,ws,rfl,rfl,ha,hb,by rw[h1.length,h2.length],z1,fun i u v hu hv=>?_⟩
   obtain⟨k1,e1,i1⟩:=h1.get hu
   obtain⟨k2,e2,i2⟩:=h2.get hv
   rw[e1] at e2;cases e2
   exact ih i1 i2 (Nat.le_trans (Kd.deep_le (List.mem_of_getElem? e1)) (by omega))
theorem Paired.modAt {α β:Type} {R:α->β->Prop} {f:α->α} {g:β->β}:∀ {ps:List α} {es:List β} (i:Nat),Paired R ps es->(∀ p e,ps[i]? = some p->es[i]? = some e->R p e->R (f p) (g e))->Paired R (ps.modify i f) (es.modify i g)
 | _,_,_,.nil,_=>by simp;exact .nil
 | _,_,0,.cons q t,h=>.cons (h _ _ rfl rfl q) t
 | _,_,i+1,.cons q t,h=>.cons q (Paired.modAt i t fun p e h1 h2=>h p e (by simpa using h1) (by simpa using h2))
theorem zB3 {α β:Type}:∀ {os:List (Option Kd)} {l:List α} {m:List β},l.length=os.length->m.length=os.length->(Qv os l).zip (Qv os m)=Qv os (l.zip m)
 | [],[],[],_,_=>rfl
 | o::os,x::l,y::m,h1,h2=>by
  have ih:=zB3 (os:=os) (l:=l) (m:=m) (by simpa using h1) (by simpa using h2)
  cases o with
  | none=>exact ih
  | some k=>exact congrArg (List.cons (x,y)) ih
theorem zGX {os:List (Option Kd)} {ms:List Int} {hs:List V} (h1:hs.length=os.length) (h2:ms.length=os.length):Y8 (Qk os) (Qv os ms) (Qv os hs)=Y8 os ms hs:=by
 unfold Y8
 rw[zB3 h2 h1]
 exact Jy (by rw[List.length_zip];omega)
end L2
namespace L2
open PySem PySem.Spec PyProof.Rows
structure Wk where
 dx:Addr
 pt:Addr
 bk:Bool
 st:Bool
 ov:Bool
 la:Int
 ca:Int
 we:Int
abbrev wkK:List Str:=["book", "back", "strict", "changes", "last", "over"]
def wk1 (p:Addr):List (Str × V):=[("book",.ref p)]
def wk2 (p:Addr) (bk:Bool):List (Str × V):=[("book",.ref p),("back",.bl bk)]
def wk3 (p:Addr) (bk st:Bool):List (Str × V):=[("book",.ref p),("back",.bl bk),("strict",.bl st)]
def wk4 (p:Addr) (bk st:Bool) (pt:Addr):List (Str × V):=[("book",.ref p),("back",.bl bk),("strict",.bl st),("changes",.ref pt)]
def wk5 (p:Addr) (bk st:Bool) (pt:Addr) (la:Int):List (Str × V):=[("book",.ref p),("back",.bl bk),("strict",.bl st),("changes",.ref pt),("last",.int la)]
def wkF (p:Addr) (bk st:Bool) (pt:Addr) (la:Int) (ov:Bool):List (Str × V):=[("book",.ref p),("back",.bl bk),("strict",.bl st),("changes",.ref pt),("last",.int la),("over",.bl ov)]
section
variable {p pt:Addr} {bk st ov:Bool} {la:Int}
theorem zFr:(wkF p bk st pt la ov).lookup ("book" : Str)=some (.ref p):=by kernel_rfl
theorem zKk:(wkF p bk st pt la ov).lookup ("back" : Str)=some (.bl bk):=by kernel_rfl
theorem zG6:(wkF p bk st pt la ov).lookup ("strict" : Str)=some (.bl st):=by kernel_rfl
theorem zEf:(wkF p bk st pt la ov).lookup ("changes" : Str)=some (.ref pt):=by kernel_rfl
theorem zKK:(wkF p bk st pt la ov).lookup ("last" : Str)=some (.int la):=by kernel_rfl
theorem zKN:(wkF p bk st pt la ov).lookup ("over" : Str)=some (.bl ov):=by kernel_rfl
theorem zIE:(wk3 p bk st).lookup ("book" : Str)=some (.ref p):=by kernel_rfl
theorem zLo:(wk3 p bk st).lookup ("changes_now" : Str)=none:=by kernel_rfl
theorem zDt:(wk4 p bk st pt).lookup ("changes" : Str)=some (.ref pt):=by kernel_rfl
theorem zKI:Qr "book" (.ref p) []=wk1 p:=by kernel_rfl
theorem zKi:Qr "back" (.bl bk) (wk1 p)=wk2 p bk:=by kernel_rfl
theorem zKH:Qr "strict" (.bl st) (wk2 p bk)=wk3 p bk st:=by kernel_rfl
theorem zJc:(wk3 p bk st).length < 1000:=by show 3 < 1000;decide
theorem zJ9:(wk4 p bk st pt).length < 1000:=by show 4 < 1000;decide
theorem zJd:(wk5 p bk st pt la).length < 1000:=by show 5 < 1000;decide
theorem zJ2:Qr "changes" (.ref pt) (wk3 p bk st)=wk4 p bk st pt:=by kernel_rfl
theorem zJn:Qr "last" (.int la) (wk4 p bk st pt)=wk5 p bk st pt la:=by kernel_rfl
theorem zJO:Qr "over" (.bl ov) (wk5 p bk st pt la)=wkF p bk st pt la ov:=by kernel_rfl
theorem zDm {q:Int}:Qr "last" (.int q) (wkF p bk st pt la ov)=wkF p bk st pt q ov:=by kernel_rfl
theorem zDU {q:Bool}:Qr "over" (.bl q) (wkF p bk st pt la ov)=wkF p bk st pt la q:=by kernel_rfl
theorem zMk {m:Str} (h:wkK.contains m=false):(wkF p bk st pt la ov).lookup m=none:=Jx h
theorem zI9:(wkF p bk st pt la ov).length < 1000:=by show 6 < 1000;decide
end
structure WkAt (C:Addr) (H:Hp) (x p:Addr) (W:Wk):Prop where
 ob:H x=some (.ins C W.dx (wkF p W.bk W.st W.pt W.la W.ov))
 ch:H W.pt=some (.tup [.int W.ca,.int W.we])
def But1 (x:Addr) (H H':Hp):Prop:=∀ b o,H b=some o->b ≠ x->H' b=some o
section
variable {C D x y p q:Addr} {H H' H2:Hp} {W:Wk} {S:Sh}
theorem WkAt.same (A:WkAt C H x p W) (g:Same H H'):WkAt C H' x p W:=⟨g _ _ A.ob,g _ _ A.ch⟩
theorem WkAt.nept (A:WkAt C H x p W):W.pt ≠ x:=fun e=>by have:=A.ch;rw[e,A.ob] at this;cases this
theorem Same.but1 (g:Same H H'):But1 x H H':=fun b o e _=>g b o e
theorem But1.trans (a:But1 x H H') (b:But1 x H' H2):But1 x H H2:=fun c o e n=>b c o (a c o e n) n
theorem zFU {dx:Addr} {fs:List (Str × V)} (hx:H x=some (.ins C dx fs)) (hl:fs.length ≠ 9) (B:ShAt D H p S):x ≠ p/\x ≠ S.pc/\x ≠ S.pr/\x ≠ S.ph/\x ≠ S.pm:=by
 obtain⟨xs,h1,_⟩:=B.hr
 refine⟨fun z=>?_,fun z=>?_,fun z=>?_,fun z=>?_,fun z=>?_⟩
 ·rw[z,B.ob] at hx
  injection hx with hx
  injection hx with _ _ hx
  exact hl (congrArg List.length hx).symm
 ·rw[z,B.hc] at hx;cases hx
 ·rw[z,h1] at hx;cases hx
 ·rw[z,B.hh] at hx;cases hx
 ·rw[z,B.hm] at hx;cases hx
theorem zDn {dx:Addr} {fs:List (Str × V)} (hx:H x=some (.ins C dx fs)) (b:But1 x H H'):TupS H H':=fun c xs e=>b c _ e fun z=>by rw[z,hx] at e;cases e
theorem ShAt.but0 {dx:Addr} {fs:List (Str × V)} (B:ShAt D H p S) (hx:H x=some (.ins C dx fs)) (hl:fs.length ≠ 9) (b:But1 x H H'):ShAt D H' p S:=by
 obtain⟨f1,f2,f3,f4,f5⟩:=zFU hx hl B
 obtain⟨xs,h1,h2⟩:=B.hr
 exact⟨b _ _ B.ob (Ne.symm f1),b _ _ B.hc (Ne.symm f2),⟨xs,b _ _ h1 (Ne.symm f3),h2.same (zDn hx b)⟩,b _ _ B.hh (Ne.symm f4),b _ _ B.hm (Ne.symm f5),B.ne,B.fm,B.s8,B.rm,B.l1,B.l2,B.dp,B.cm⟩
theorem WkAt.far (A:WkAt C H x q W) (B:ShAt D H p S):x ≠ p/\x ≠ S.pc/\x ≠ S.pr/\x ≠ S.ph/\x ≠ S.pm:=zFU A.ob (by show 6 ≠ 9;decide) B
theorem WkAt.tups (A:WkAt C H x q W) (b:But1 x H H'):TupS H H':=zDn A.ob b
end
end L2
namespace L2
open PySem PySem.Spec PyProof.Rows
theorem FnOk.toE {P:Program} {w:World} {K:W.Frag} {mg:Str->Option Value} {base:Heap} {k:Nat} {f:Addr} {fd:FuncData} {ps:List Str} {sp:Sp} (F:FnOk P w K mg base CX0 k f fd ps sp):FnOk P w K mg base (CXe P w) k f fd ps sp :=
 ⟨F.len,fun A outer s H args us vs Q E hr he hb hv hs=>codeAny_mono (F.run A outer s H args us vs Q E hr he hb hv hs) fun r s' h=>by
  cases r with
  | error e=>exact False.elim h
  | ok fl=>cases fl <;> exact h⟩
theorem zE4 {X:Cx} {w:World} (h:X.w=w):ZD X (.builtin "len") (zKn w):=h ▸ zB0
def KB (K:W.Frag) (fd:FuncData) (ps:List Str) (kw:Str) (ds:List Value):Prop :=
 ∀ (s:Shared) (us:List Value) (v:Value),K.In s.heap->(us++ds++[v]).length=ps.length->BindsTo s fd ⟨us,[(kw,v)]⟩ (ps.zip (us++ds++[v]))
theorem FunD.bindsK {K:W.Frag} {x qual:Str} {st:Stmt} {f:Addr} {fd:FuncData} {ds:List Value} {ps:List Str} {kw:Str} (es:List Value) (n:Nat) (hn:n+es.length+1=ps.length) (F:FunD K x qual st f fd ds)
  (h:∀ (T:Addr) (kV doc pm:Value) (an:Option Addr) (cdv ct:Value) (us:List Value) (v:Value),us.length=n->∃ k:Option (Array Value)->Sem (List (Str × Value)),
   bindArgs (W.fnOf x qual (YE st) (Q5 st) (QJ st) (.ref T) kV doc pm an cdv ct) ⟨us,[(kw,v)]⟩=seqItems? (.ref T) >>= k/\k (some ds.toArray)=pure (ps.zip (us++es++[v]))):KB K fd ps kw es:=by
 obtain⟨oc,od,kV,doc,pm,an,cdv,ct,osl,T,o,m,rfl,lk,hcd,lT,hT⟩:=F.ex
 intro s us v KX hl
 obtain⟨k,h1,h2⟩:=h T kV doc pm an cdv ct us v (by simp only[List.length_append,List.length_singleton] at hl;omega)
 exact BindsTo.of_defaults rfl (KX _ _ lT) hT h1 h2
section
variable {X:Cx} {CX:CXT} {k:Nat} {f C:Addr} {fd:FuncData} {ps:List Str} {sp:Sp} {dvs:List V} {ds:List Value} {E:XK} {x kw:Str} {p pos kpos:Pos} {e ke:Expr} {es:List Expr} {t:TA} {te:TE}
def zHx (C:Addr) (sp:Sp) (dvs:List V) (E:XK) (t:TA) (te:TE):TE:=fun σ H Q=>t σ H fun vs H1=>te σ H1 fun z H2=>∀ x dx,H2 x=none->H2 dx=none->dx ≠ x ->
 sp (.ref x::(vs++dvs++[z])) (upd (upd H2 dx (.own x)) x (.ins C dx [])) (fun v H2=>v=.non/\Q (.ref x) H2) E
theorem zHZ (M:Mk X.K C f) (F:FnOk X.prog X.w X.K X.mg X.base CX k f fd ps sp) (hr:Room (k+1) X.A) (hg:Gl X x) (hm:X.mg x=some (.ref C)) (hb:KB X.K fd ps kw ds) (hd:Vals dvs ds) (hx:Yo CX X E)
  (ha:PA X (e::es) t) (hk:PE X ke te) (hdb:(x == ("__debug__" : Str))=false:=by decide) (he:starEach (e::es) X.env=(false,eval e X.env)::starEach es X.env:=by rfl)
  (hpl:((backTo pos (starEach (e::es) X.env)).any (·.1) || (backToKw pos (keywordEach [⟨some kw,ke,kpos⟩] X.env)).any (·.1.isNone))=false:=by rfl) :
  PE X (.Call (.Name x p) (e::es) [⟨some kw,ke,kpos⟩] pos) (zHx C sp dvs E t te):=by
 intro pins s σ H Q I h
 refine wpAny_Call_Name_kw (Yy I hg hm ?_ hdb)
 refine PySem.W.callWith_KW (h₀:=X.base) I.ok.mod.kin M.kp rfl (thn (ha pos pins s σ H _ I h) fun us s1 ⟨vs,H1,I1,r,q⟩=>?_) hpl he
 refine thn ((zKA hk zLO) pos pins s1 σ H1 (fun zs H2=>match zs with
  | [z]=>∀ x dx,H2 x=none->H2 dx=none->dx ≠ x->sp (.ref x::(vs++dvs++[z])) (upd (upd H2 dx (.own x)) x (.ins C dx [])) (fun v H2=>v=.non/\Q (.ref x) H2) E
  | _=>False) I1 q) fun ws s2 ⟨zs,H2,I2,rz,q2⟩=>⟨I2.kIn,?_⟩
 match zs,rz,q2 with
 | [z],.cons (b:=v) rv .nil,q2 =>
  have q2:∀ x dx,H2 x=none->H2 dx=none->dx ≠ x->sp (.ref x::(vs++dvs++[z])) (upd (upd H2 dx (.own x)) x (.ins C dx [])) (fun v H2=>v=.non/\Q (.ref x) H2) E:=q2
  have hq:=q2 (s2.heap.objs.size+1) s2.heap.objs.size (I2.hok.fresh (Nat.le_succ _)) (I2.hok.fresh (Nat.le_refl _)) (Nat.ne_of_lt (Nat.lt_succ_self _))
  have I3:=Inv.made (C:=C) I2
  have r3:Vals (V.ref (s2.heap.objs.size+1)::(vs++dvs++[z])) (Value.ref (s2.heap.objs.size+1)::(us++ds++[v])):=.cons rfl ((r.append hd).append (.cons rv .nil))
  have hl:(Value.ref (s2.heap.objs.size+1)::us++ds++[v]).length=ps.length:=by
   have e:=r3.length
   rw[F.len _ _ _ _ hq] at e
   exact e.symm
  refine wpAny_call (zD8 (f:=f) (kw:=[(kw,v)]) I2.kIn M.makes M.init (beq_iff_eq.mp M.fn) (codeAny_mono (F.run _ X.stack _ _ ⟨Value.ref (s2.heap.objs.size+1)::us,[(kw,v)]⟩ (Value.ref (s2.heap.objs.size+1)::(us++ds++[v])) _ _ E (hr.make C us [(kw,v)])
   (I3.env0.make C us [(kw,v)]) (hb _ (Value.ref (s2.heap.objs.size+1)::us) v I3.kIn hl) r3 hq) fun r s' hq'=>?_))
  cases r with
  | error e=>exact hx pins σ _ _ e s' I3 hq'
  | ok fl =>
   cases fl with
   | ret u =>
    obtain⟨v,H',I4,rv,ev,q3⟩:=I3.after hq'
    subst ev
    exact⟨rv,⟨V.ref (s2.heap.objs.size+1),H',I4,rfl,q3⟩⟩
   | next=>exact False.elim hq'
   | brk=>exact False.elim hq'
   | cont=>exact False.elim hq'
end
end L2
namespace L2
open PySem PySem.Spec PyProof.Rows
end L2
namespace L2
open PySem PySem.Spec PyProof.Rows
open Builtin.Int (intBits)
section
variable {X:Cx}
def zND (i j:Int):Prop:=intBits i<=2 ^ 20/\intBits j<=2 ^ 20
theorem zJ7:OpR X (binaryOp .Mult) (rI zND fun i j=>.int (i*j)):=opI fun _ _ _ _ _ _ _ hc q=>mul_int q (IntMulOk.of_bits hc.1 hc.2)
end
theorem zB2 {x y:Int} (hx:intBits x<=2 ^ 20) (h:y.natAbs<=x.natAbs+1000001/\(y.natAbs<=2 ^ 40\/y.natAbs<=x.natAbs)):intBits y<=2 ^ 20:=by
 have h1:=intBits_le_iff.mp hx
 refine intBits_le_iff.mpr ?_
 have h2:(2:Nat) ^ 41<=2 ^ (2 ^ 20):=Nat.pow_le_pow_right (by decide) (by decide)
 generalize (2:Nat) ^ (2 ^ 20)=N at h1 h2 ⊢
 rcases h.2 with z | z
 ·have:(2:Nat) ^ 40 < 2 ^ 41:=by decide
  omega
 ·omega
end L2
namespace L2
open PySem PySem.Spec PyProof.Rows PySem.W
open Builtin.Int (intBits)
theorem zAH:∀ (ns:List Int) (b:Nat),WData.weightAll (ns.map WData.int)<=b->∀ n∈ns,intBits n<=b
 | [],_,_,_,h=>by cases h
 | i::ns,b,h,n,hn=>by
  have h':WData.weight (WData.int i)+1+WData.weightAll (ns.map WData.int)<=b:=h
  rcases List.mem_cons.mp hn with z | z
  ·subst z
   have e:WData.weight (WData.int n)=intBits n:=rfl
   omega
  ·exact zAH ns b (by omega) n z
theorem zHQ {ns:List Int} (h:WData.layableAll [WData.list (ns.map WData.int)]=true):∀ n∈ns,intBits n<=2 ^ 20:=by
 obtain⟨h1,h2,h3⟩:=layableW_iff.mp (layW_cons h).1
 exact zAH ns _ h3
end L2
namespace AttB
open PySem PySem.W PySem.Calls PyProof.Rows Att
theorem attach_callB {l:OpenLaw} {n:Nat} {q:Program} {loose:List Str} {XP:(Str->Option Value)->Heap->Prop} {YP:World->Heap->Prop} {d:DefRec}
  (hn:l.most=some n) (hdf:d.params.defaults=[])
  (call:∀ (w:World) (s₀ s₁:Shared) (mg mb:Str->Option Value) (fa:Addr) (o:Obj) (pm cd doc:Value) (a:Addr) (vs:List Value) (ns:List Int),
   Ground q loose [] XP w s₀ mg mb s₁.heap->YP w s₁.heap ->
   s₁.heap.get? fa=some o->o.data=.func (docDef d.name d.params d.body d.scope pm cd doc)->s₁.heap.CodeRec cd d.name->mg d.name=some (.ref fa) ->
   s₁.heap.get? a=some { cls:=.type "list",data:=.seq vs.toArray }->IntsAre vs ns->ns.length<=n->s₁.gens = #[]->(∀ x∈ns,Builtin.Int.intBits x<=2 ^ 20) ->
   codeAny (model l.prog w) callerA (.call (.ref fa) ⟨[.ref a],[]⟩) (fun r s'=>r=.ok (.ret (.bool true))/\OldK s₁.heap s'.heap/\s'.os=s₁.os/\AllBare s'.gens) s₁) :
  WalkO q loose XP YP l.row.toRowW d [] (fun f vs=>PySem.call f vs):=by
 intro w s₀ s₁ mg mb G Y fa o pm cd doc dV kV ho hd hcd hD hmg hg args vals as hpre hlay hrd hwl hlo
 obtain rfl:dV=.none:=Dflts.none hD hdf
 obtain rfl:kV=.none:=Dflts.noKw hD
 obtain⟨a,vs,ns,rfl,rfl,hobj,hints,hlen⟩:=zGR hn hpre hwl
 refine enter_call (codeAny_mono (call w s₀ s₁ mg mb fa o pm cd doc a vs ns G Y ho (fd_plain hd) hcd hmg hobj hints hlen hg (L2.zHQ hlay)) fun r s' hq=>?_)
 obtain⟨rfl,h2,h3,h4⟩:=hq
 exact⟨.inl ⟨.bool true,.bool true,[],rfl,fun _=>rfl,.bool true,zG3 l _,fun _=>⟨List.Pairwise.nil,fun _ hm=>(nomatch hm)⟩⟩,h2,h3,h4⟩
end AttB
namespace L2
open PySem PySem.Spec PyProof.Rows
theorem zIJ {l:PySem.W.OpenLaw} {n k:Nat} {q:Program} {loose:List Str} {XP:(Str->Option Value)->Heap->Prop} {YP:World->Heap->Prop} {d:DefRec} {K:Params->W.Frag} {CX:World->CXT} {sp:World->Sp} {x:Str}
  (hn:l.most=some n) (hn2:n<=sizeLine) (hdf:d.params.defaults=[]) (hr:Room k callerA)
  (hY:∀ (w:World) (h:Heap),YP w h->(K w.params).In h)
  (F:∀ (w:World) (mg:Str->Option Value) (fa:Addr) (h:Heap),(K w.params).In h->h.Ns mainGlobals mg->mg d.name=some (.ref fa) ->
   ∃ fd:FuncData,(∀ (s:Shared) (u:Value),BindsTo s fd ⟨[u],[]⟩ [(x,u)]) /\
    ∀ base:Heap,(K w.params).In base->base.Ns mainGlobals mg->FnOk l.prog w (K w.params) mg base (CX w) k fa fd [x] (sp w))
  (hsp:∀ (w:World) (H:Hp) (a:Addr) (ns:List Int),ns.length<=n->(∀ x∈ns,Builtin.Int.intBits x<=2 ^ 20)->zLW H->SqL (K w.params) H a (ns.map V.int)->sp w [.ref a] H (fun v _=>v=.bl true) fun _ _ _=>False)
  (hCX:∀ (w:World) (H:Hp) (s:Shared) (e:Value) (s':Shared),CX w [] H s (fun _ _ _=>False) e s'->False) :
  PySem.W.WalkO q loose XP YP l.row.toRowW d [] (fun f vs=>PySem.call f vs):=by
 refine AttB.attach_callB hn hdf fun w s₀ s₁ mg mb fa o pm cd doc a vs ns G Y ho hd hcd hmg hobj hints hlen hg hbits=>?_
 have KX:=hY w _ Y
 obtain⟨fd,hb,hF⟩:=F w mg fa _ KX G.T.g hmg
 exact zHk KX G.T.g G.T.b G.T.builtins G.T.nolimit hg hobj hints (Nat.le_trans hlen hn2) hr hF hb (fun H hO hS=>hsp w H a ns hlen hbits hO hS) fun H e s'=>hCX w H s₁ e s'
end L2
namespace My
open PySem L2 PyProof.Rows
theorem zAQ:bootBuiltins "ValueError" = some (.type "ValueError"):=by decide +kernel
def top (i:Nat):Stmt:=PySem.Challenge.pw_slotbook_k64_whole_strict_walks.main.body.getD i (.Pass ⟨0,0,0,0⟩)
abbrev zAx:Stmt:=top 18
abbrev J7:Stmt:=top 19
abbrev Jo:Stmt:=top 20
abbrev WH:Stmt:=top 21
abbrev WC:Stmt:=top 22
abbrev J4:Stmt:=top 26
abbrev zEr:Stmt:=top 27
abbrev W3:Stmt:=top 28
abbrev zBH:Stmt:=top 30
abbrev zCj:Stmt:=top 31
abbrev zCr:Stmt:=top 34
abbrev ZV:Stmt:=top 35
abbrev ZK:Stmt:=top 36
abbrev Ws:Stmt:=top 40
abbrev ZG:Stmt:=top 41
abbrev zCn:Stmt:=top 42
abbrev zA9:Stmt:=top 44
abbrev Wi:Stmt:=top 45
abbrev zA2:Stmt:=top 49
abbrev WE:Stmt:=Qg (top 47) 0
abbrev Wp:Stmt:=Qg (top 47) 1
abbrev zEo:Stmt:=Qg (top 47) 2
abbrev zHy:Stmt:=Qg (top 47) 3
abbrev zCX:Stmt:=Qg (top 47) 6
abbrev ZY:Stmt:=Qg (top 47) 7
abbrev W5:Stmt:=Qg (top 47) 8
abbrev zDG:Stmt:=Qg (top 47) 9
abbrev zBP:Stmt:=Qg (top 47) 12
abbrev zA0:Stmt:=Qg (top 47) 11
abbrev Ju:Stmt:=Qg (top 47) 15
abbrev Wm:Stmt:=Qg (top 47) 16
abbrev zAv:Stmt:=Qg (top 47) 17
abbrev ZF:Stmt:=Qg (top 47) 18
abbrev zCR:Stmt:=Qg (top 47) 19
abbrev zAu:Stmt:=Qg (top 47) 22
abbrev Yt:Stmt:=Qg (top 47) 20
abbrev Zq:Stmt:=Qg (top 47) 21
abbrev Z6:Stmt:=Qg (top 51) 0
abbrev Yq:Stmt:=Qg (top 51) 1
abbrev ZW:Stmt:=Qg (top 51) 2
abbrev Yn:Stmt:=Qg (top 13) 0
abbrev Z4:Stmt:=Qg (top 13) 1
abbrev Yb:Stmt:=Qg (top 13) 2
abbrev YV:Stmt:=Qg (top 13) 3
abbrev Wn:Stmt:=top 53
abbrev zCw:Stmt:=top 54
abbrev Jm:Stmt:=top 55
abbrev Z7:Stmt:=top 56
abbrev zCp:Stmt:=top 57
abbrev zEm:Stmt:=top 58
abbrev zFI:Stmt:=top 59
abbrev Wg:Stmt:=top 60
abbrev W6:Stmt:=top 61
abbrev zDA:Stmt:=top 62
abbrev zC8:Stmt:=top 63
abbrev zFS:Stmt:=top 64
abbrev ZU:Stmt:=top 65
abbrev Wl:Stmt:=top 66
abbrev zEX:Stmt:=top 67
abbrev JT:Stmt:=top 68
set_option genInjectivity false in
set_option genSizeOfSpec false in
structure Ad where
 f_is_key:Addr
 d_is_key:FuncData
 f_checked:Addr
 d_checked:FuncData
 f_is_part:Addr
 d_is_part:FuncData
 f_are_parts:Addr
 d_are_parts:FuncData
 f_is_number:Addr
 d_is_number:FuncData
 f_is_size:Addr
 d_is_size:FuncData
 f_room:Addr
 d_room:FuncData
 f_size_for:Addr
 d_size_for:FuncData
 f_stride:Addr
 d_stride:FuncData
 f_probe:Addr
 d_probe:FuncData
 f_stamp:Addr
 d_stamp:FuncData
 f_text_stamp:Addr
 d_text_stamp:FuncData
 f_tuple_stamp:Addr
 d_tuple_stamp:FuncData
 f_cells_of:Addr
 d_cells_of:FuncData
 f_first_empty:Addr
 d_first_empty:FuncData
 f_paper:Addr
 d_paper:FuncData
 f_is_end:Addr
 d_is_end:FuncData
 f_place_of:Addr
 d_place_of:FuncData
 f_packed:Addr
 d_packed:FuncData
 f_H__init__:Addr
 d_H__init__:FuncData
 f_Hlay_out:Addr
 d_Hlay_out:FuncData
 f_Hput:Addr
 d_Hput:FuncData
 f_Hat:Addr
 d_Hat:FuncData
 f_Htake:Addr
 d_Htake:FuncData
 f_Htake_last:Addr
 d_Htake_last:FuncData
 f_Hemptied:Addr
 d_Hemptied:FuncData
 f_Hmany:Addr
 d_Hmany:FuncData
 f_Hahead:Addr
 d_Hahead:FuncData
 f_Hafter:Addr
 d_Hafter:FuncData
 f_Hcounts:Addr
 d_Hcounts:FuncData
 f_Hentries:Addr
 d_Hentries:FuncData
 f_Hplace:Addr
 d_Hplace:FuncData
 f_Hsure_place:Addr
 d_Hsure_place:FuncData
 f_Hcome:Addr
 d_Hcome:FuncData
 f_Hwrite:Addr
 d_Hwrite:FuncData
 f_Hsize_emptied:Addr
 d_Hsize_emptied:FuncData
 f_Hmake_room:Addr
 d_Hmake_room:FuncData
 f_T__init__:Addr
 d_T__init__:FuncData
 f_Tsize_emptied:Addr
 d_Tsize_emptied:FuncData
 f_Tmake_room:Addr
 d_Tmake_room:FuncData
 f_Walk___init__:Addr
 d_Walk___init__:FuncData
 f_Walk_step:Addr
 d_Walk_step:FuncData
 f_Walk_next_entry:Addr
 d_Walk_next_entry:FuncData
 f_Walk_changes_now:Addr
 d_Walk_changes_now:FuncData
 f_Lcell_at:Addr
 d_Lcell_at:FuncData
 f_Lsame:Addr
 d_Lsame:FuncData
 f_Lkey_by:Addr
 d_Lkey_by:FuncData
 f_Lvalue_by:Addr
 d_Lvalue_by:FuncData
 f_Lbook:Addr
 d_Lbook:FuncData
 f_Lput:Addr
 d_Lput:FuncData
 f_Lout:Addr
 d_Lout:FuncData
 f_Lrefused:Addr
 d_Lrefused:FuncData
 f_Lemptied:Addr
 d_Lemptied:FuncData
 f_Lputs:Addr
 d_Lputs:FuncData
 f_Ldeed:Addr
 d_Ldeed:FuncData
 f_Ldue:Addr
 d_Ldue:FuncData
 f_Lis_broken:Addr
 d_Lis_broken:FuncData
 f_Lstepped:Addr
 d_Lstepped:FuncData
 f_Lnew:Addr
 d_Lnew:FuncData
 f_law:Addr
 d_law:FuncData
 t_DEEPEST:Tok
 t_EMPTY:Tok
 t_GONE:Tok
 t_GREATEST:Tok
 t_LEAST:Tok
 t_MOST_PARTS:Tok
 t_MOST_SIGNS:Tok
 t_TURN:Tok
 a_BookError:Addr
 a_NoKey:Addr
 a_NoSize:Addr
 a_Full:Addr
 a_Lacking:Addr
 a_Broken:Addr
 a_NoText:Addr
 a_NoDeed:Addr
 a_NoName:Addr
 a_Twice:Addr
 a_Walk:Addr
 a_Shelf:Addr
 a_Table:Addr
 u_H__init___0:Tok
@[reducible] def vA {α:Type} (x y:α):Bool->α
 | false=>x
 | true=>y
abbrev cA (a:Ad) (tb:Bool):Addr:=vA a.a_Shelf a.a_Table tb
theorem bt {p:Bool->Prop} (h0:p false) (h1:p true):∀ b,p b
 | false=>h0
 | true=>h1
structure Txt (K:W.Frag) (mg:Str->Option Value) (a:Ad):Prop where
 F_is_key:Fun K "is_key" "is_key" zAx a.f_is_key a.d_is_key
 b_is_key:Binds K a.d_is_key ["thing"] []
 m_is_key:mg "is_key" = some (.ref a.f_is_key)
 F_checked:Fun K "checked" "checked" J7 a.f_checked a.d_checked
 b_checked:Binds K a.d_checked ["thing"] []
 m_checked:mg "checked" = some (.ref a.f_checked)
 F_is_part:Fun K "is_part" "is_part" Jo a.f_is_part a.d_is_part
 b_is_part:Binds K a.d_is_part ["thing", "levels"] []
 m_is_part:mg "is_part" = some (.ref a.f_is_part)
 F_are_parts:Fun K "are_parts" "are_parts" WH a.f_are_parts a.d_are_parts
 b_are_parts:Binds K a.d_are_parts ["things", "levels"] []
 m_are_parts:mg "are_parts" = some (.ref a.f_are_parts)
 F_is_number:Fun K "is_number" "is_number" WC a.f_is_number a.d_is_number
 b_is_number:Binds K a.d_is_number ["thing"] []
 m_is_number:mg "is_number" = some (.ref a.f_is_number)
 F_is_size:Fun K "is_size" "is_size" J4 a.f_is_size a.d_is_size
 b_is_size:Binds K a.d_is_size ["thing"] []
 m_is_size:mg "is_size" = some (.ref a.f_is_size)
 F_room:Fun K "room" "room" zEr a.f_room a.d_room
 b_room:Binds K a.d_room ["size"] []
 m_room:mg "room" = some (.ref a.f_room)
 F_size_for:Fun K "size_for" "size_for" W3 a.f_size_for a.d_size_for
 b_size_for:Binds K a.d_size_for ["many"] []
 m_size_for:mg "size_for" = some (.ref a.f_size_for)
 F_stride:Fun K "stride" "stride" zBH a.f_stride a.d_stride
 b_stride:Binds K a.d_stride ["stamp"] []
 m_stride:mg "stride" = some (.ref a.f_stride)
 F_probe:Fun K "probe" "probe" zCj a.f_probe a.d_probe
 b_probe:Binds K a.d_probe ["stamp", "size", "count"] []
 m_probe:mg "probe" = some (.ref a.f_probe)
 F_stamp:Fun K "stamp" "stamp" zCr a.f_stamp a.d_stamp
 b_stamp:Binds K a.d_stamp ["key"] []
 m_stamp:mg "stamp" = some (.ref a.f_stamp)
 F_text_stamp:Fun K "text_stamp" "text_stamp" ZV a.f_text_stamp a.d_text_stamp
 b_text_stamp:Binds K a.d_text_stamp ["text"] []
 m_text_stamp:mg "text_stamp" = some (.ref a.f_text_stamp)
 F_tuple_stamp:Fun K "tuple_stamp" "tuple_stamp" ZK a.f_tuple_stamp a.d_tuple_stamp
 b_tuple_stamp:Binds K a.d_tuple_stamp ["parts"] []
 m_tuple_stamp:mg "tuple_stamp" = some (.ref a.f_tuple_stamp)
 F_cells_of:Fun K "cells_of" "cells_of" Ws a.f_cells_of a.d_cells_of
 b_cells_of:Binds K a.d_cells_of ["row", "size"] []
 m_cells_of:mg "cells_of" = some (.ref a.f_cells_of)
 F_first_empty:Fun K "first_empty" "first_empty" ZG a.f_first_empty a.d_first_empty
 b_first_empty:Binds K a.d_first_empty ["cells", "key"] []
 m_first_empty:mg "first_empty" = some (.ref a.f_first_empty)
 F_paper:Fun K "paper" "paper" zCn a.f_paper a.d_paper
 b_paper:Binds K a.d_paper ["cells", "row", "key"] []
 m_paper:mg "paper" = some (.ref a.f_paper)
 F_is_end:Fun K "is_end" "is_end" zA9 a.f_is_end a.d_is_end
 b_is_end:Binds K a.d_is_end ["cell", "row", "key"] []
 m_is_end:mg "is_end" = some (.ref a.f_is_end)
 F_place_of:Fun K "place_of" "place_of" Wi a.f_place_of a.d_place_of
 b_place_of:Binds K a.d_place_of ["cells", "row", "key"] []
 m_place_of:mg "place_of" = some (.ref a.f_place_of)
 F_packed:Fun K "packed" "packed" zA2 a.f_packed a.d_packed
 b_packed:Binds K a.d_packed ["row", "beside"] []
 m_packed:mg "packed" = some (.ref a.f_packed)
 F_H__init__:FunD K "__init__" "Shelf.__init__" WE a.f_H__init__ a.d_H__init__ [.int 8 a.u_H__init___0]
 b_H__init___0:Binds K a.d_H__init__ ["self", "size"] []
 M_H__init__:CMeth K a.a_Shelf "__init__" a.f_H__init__
 F_Hlay_out:Fun K "lay_out" "Shelf.lay_out" Wp a.f_Hlay_out a.d_Hlay_out
 b_Hlay_out:Binds K a.d_Hlay_out ["self", "size", "row", "held", "comings"] []
 M_Hlay_out:∀ tb,Meth K (cA a tb) "lay_out" a.f_Hlay_out
 F_Hput:Fun K "put" "Shelf.put" zEo a.f_Hput a.d_Hput
 b_Hput:Binds K a.d_Hput ["self", "key", "value"] []
 M_Hput:∀ tb,Meth K (cA a tb) "put" a.f_Hput
 F_Hat:Fun K "at" "Shelf.at" zHy a.f_Hat a.d_Hat
 b_Hat:Binds K a.d_Hat ["self", "key"] []
 M_Hat:∀ tb,Meth K (cA a tb) "at" a.f_Hat
 F_Htake:Fun K "take" "Shelf.take" zCX a.f_Htake a.d_Htake
 b_Htake:Binds K a.d_Htake ["self", "key"] []
 M_Htake:∀ tb,Meth K (cA a tb) "take" a.f_Htake
 F_Htake_last:Fun K "take_last" "Shelf.take_last" ZY a.f_Htake_last a.d_Htake_last
 b_Htake_last:Binds K a.d_Htake_last ["self"] []
 M_Htake_last:∀ tb,Meth K (cA a tb) "take_last" a.f_Htake_last
 F_Hemptied:Fun K "emptied" "Shelf.emptied" W5 a.f_Hemptied a.d_Hemptied
 b_Hemptied:Binds K a.d_Hemptied ["self"] []
 M_Hemptied:∀ tb,Meth K (cA a tb) "emptied" a.f_Hemptied
 F_Hmany:Fun K "many" "Shelf.many" zDG a.f_Hmany a.d_Hmany
 b_Hmany:Binds K a.d_Hmany ["self"] []
 M_Hmany:∀ tb,Meth K (cA a tb) "many" a.f_Hmany
 F_Hahead:Fun K "ahead" "Shelf.ahead" zBP a.f_Hahead a.d_Hahead
 b_Hahead:Binds K a.d_Hahead ["self", "number"] []
 M_Hahead:∀ tb,Meth K (cA a tb) "ahead" a.f_Hahead
 F_Hafter:Fun K "after" "Shelf.after" zA0 a.f_Hafter a.d_Hafter
 b_Hafter:Binds K a.d_Hafter ["self", "number"] []
 M_Hafter:∀ tb,Meth K (cA a tb) "after" a.f_Hafter
 F_Hcounts:Fun K "counts" "Shelf.counts" Ju a.f_Hcounts a.d_Hcounts
 b_Hcounts:Binds K a.d_Hcounts ["self"] []
 M_Hcounts:∀ tb,Meth K (cA a tb) "counts" a.f_Hcounts
 F_Hentries:Fun K "entries" "Shelf.entries" Wm a.f_Hentries a.d_Hentries
 b_Hentries:Binds K a.d_Hentries ["self"] []
 M_Hentries:∀ tb,Meth K (cA a tb) "entries" a.f_Hentries
 F_Hplace:Fun K "place" "Shelf.place" zAv a.f_Hplace a.d_Hplace
 b_Hplace:Binds K a.d_Hplace ["self", "key"] []
 M_Hplace:∀ tb,Meth K (cA a tb) "place" a.f_Hplace
 F_Hsure_place:Fun K "sure_place" "Shelf.sure_place" ZF a.f_Hsure_place a.d_Hsure_place
 b_Hsure_place:Binds K a.d_Hsure_place ["self", "key"] []
 M_Hsure_place:∀ tb,Meth K (cA a tb) "sure_place" a.f_Hsure_place
 F_Hcome:Fun K "come" "Shelf.come" zCR a.f_Hcome a.d_Hcome
 b_Hcome:Binds K a.d_Hcome ["self", "key", "value"] []
 M_Hcome:∀ tb,Meth K (cA a tb) "come" a.f_Hcome
 F_Hwrite:Fun K "write" "Shelf.write" zAu a.f_Hwrite a.d_Hwrite
 b_Hwrite:Binds K a.d_Hwrite ["self", "key", "cell"] []
 M_Hwrite:∀ tb,Meth K (cA a tb) "write" a.f_Hwrite
 F_Hsize_emptied:Fun K "size_emptied" "Shelf.size_emptied" Yt a.f_Hsize_emptied a.d_Hsize_emptied
 b_Hsize_emptied:Binds K a.d_Hsize_emptied ["self"] []
 M_size_emptied:∀ tb,Meth K (cA a tb) "size_emptied" (vA a.f_Hsize_emptied a.f_Tsize_emptied tb)
 b_size_emptied:∀ tb,Binds K (vA a.d_Hsize_emptied a.d_Tsize_emptied tb) ["self"] []
 F_Hmake_room:Fun K "make_room" "Shelf.make_room" Zq a.f_Hmake_room a.d_Hmake_room
 b_Hmake_room:Binds K a.d_Hmake_room ["self"] []
 M_make_room:∀ tb,Meth K (cA a tb) "make_room" (vA a.f_Hmake_room a.f_Tmake_room tb)
 b_make_room:∀ tb,Binds K (vA a.d_Hmake_room a.d_Tmake_room tb) ["self"] []
 F_T__init__:Fun K "__init__" "Table.__init__" Z6 a.f_T__init__ a.d_T__init__
 b_T__init__:Binds K a.d_T__init__ ["self"] []
 F_Tsize_emptied:Fun K "size_emptied" "Table.size_emptied" Yq a.f_Tsize_emptied a.d_Tsize_emptied
 b_Tsize_emptied:Binds K a.d_Tsize_emptied ["self"] []
 F_Tmake_room:Fun K "make_room" "Table.make_room" ZW a.f_Tmake_room a.d_Tmake_room
 b_Tmake_room:Binds K a.d_Tmake_room ["self"] []
 F_Walk___init__:FunD K "__init__" "Walk.__init__" Yn a.f_Walk___init__ a.d_Walk___init__ [.bool false,.bool false]
 b_Walk___init___0:Binds K a.d_Walk___init__ ["self", "book", "back", "strict"] []
 bk_Walk___init__:KB K a.d_Walk___init__ ["self", "book", "back", "strict"] "strict" [.bool false]
 M_Walk___init__:Meth K a.a_Walk "__init__" a.f_Walk___init__
 F_Walk_step:Fun K "step" "Walk.step" Z4 a.f_Walk_step a.d_Walk_step
 b_Walk_step:Binds K a.d_Walk_step ["self"] []
 M_Walk_step:Meth K a.a_Walk "step" a.f_Walk_step
 F_Walk_next_entry:Fun K "next_entry" "Walk.next_entry" Yb a.f_Walk_next_entry a.d_Walk_next_entry
 b_Walk_next_entry:Binds K a.d_Walk_next_entry ["self"] []
 M_Walk_next_entry:Meth K a.a_Walk "next_entry" a.f_Walk_next_entry
 F_Walk_changes_now:Fun K "changes_now" "Walk.changes_now" YV a.f_Walk_changes_now a.d_Walk_changes_now
 b_Walk_changes_now:Binds K a.d_Walk_changes_now ["self"] []
 M_Walk_changes_now:Meth K a.a_Walk "changes_now" a.f_Walk_changes_now
 F_Lcell_at:Fun K "_law_cell_at" "_law_cell_at" Wn a.f_Lcell_at a.d_Lcell_at
 b_Lcell_at:Binds K a.d_Lcell_at ["_law_script", "_law_k"] []
 m_Lcell_at:mg "_law_cell_at" = some (.ref a.f_Lcell_at)
 F_Lsame:Fun K "_law_same" "_law_same" zCw a.f_Lsame a.d_Lsame
 b_Lsame:Binds K a.d_Lsame ["_law_found", "_law_due_here"] []
 m_Lsame:mg "_law_same" = some (.ref a.f_Lsame)
 F_Lkey_by:Fun K "_law_key_by" "_law_key_by" Jm a.f_Lkey_by a.d_Lkey_by
 b_Lkey_by:Binds K a.d_Lkey_by ["_law_way", "_law_number"] []
 m_Lkey_by:mg "_law_key_by" = some (.ref a.f_Lkey_by)
 F_Lvalue_by:Fun K "_law_value_by" "_law_value_by" Z7 a.f_Lvalue_by a.d_Lvalue_by
 b_Lvalue_by:Binds K a.d_Lvalue_by ["_law_number"] []
 m_Lvalue_by:mg "_law_value_by" = some (.ref a.f_Lvalue_by)
 F_Lbook:Fun K "_law_book" "_law_book" zCp a.f_Lbook a.d_Lbook
 b_Lbook:Binds K a.d_Lbook ["_law_cell"] []
 m_Lbook:mg "_law_book" = some (.ref a.f_Lbook)
 F_Lput:Fun K "_law_put" "_law_put" zEm a.f_Lput a.d_Lput
 b_Lput:Binds K a.d_Lput ["_law_book_here", "_law_rows", "_law_born", "_law_key", "_law_value"] []
 m_Lput:mg "_law_put" = some (.ref a.f_Lput)
 F_Lout:Fun K "_law_out" "_law_out" zFI a.f_Lout a.d_Lout
 b_Lout:Binds K a.d_Lout ["_law_book_here", "_law_rows", "_law_born", "_law_key"] []
 m_Lout:mg "_law_out" = some (.ref a.f_Lout)
 F_Lrefused:Fun K "_law_refused" "_law_refused" Wg a.f_Lrefused a.d_Lrefused
 b_Lrefused:Binds K a.d_Lrefused ["_law_book_here", "_law_rows", "_law_way"] []
 m_Lrefused:mg "_law_refused" = some (.ref a.f_Lrefused)
 F_Lemptied:Fun K "_law_emptied" "_law_emptied" W6 a.f_Lemptied a.d_Lemptied
 b_Lemptied:Binds K a.d_Lemptied ["_law_book_here", "_law_rows", "_law_born"] []
 m_Lemptied:mg "_law_emptied" = some (.ref a.f_Lemptied)
 F_Lputs:Fun K "_law_puts" "_law_puts" zDA a.f_Lputs a.d_Lputs
 b_Lputs:Binds K a.d_Lputs ["_law_book_here", "_law_rows", "_law_born", "_law_way", "_law_number"] []
 m_Lputs:mg "_law_puts" = some (.ref a.f_Lputs)
 F_Ldeed:Fun K "_law_deed" "_law_deed" zC8 a.f_Ldeed a.d_Ldeed
 b_Ldeed:Binds K a.d_Ldeed ["_law_book_here", "_law_rows", "_law_born", "_law_way", "_law_cell"] []
 m_Ldeed:mg "_law_deed" = some (.ref a.f_Ldeed)
 F_Ldue:Fun K "_law_due" "_law_due" zFS a.f_Ldue a.d_Ldue
 b_Ldue:Binds K a.d_Ldue ["_law_rows", "_law_back", "_law_last"] []
 m_Ldue:mg "_law_due" = some (.ref a.f_Ldue)
 F_Lis_broken:Fun K "_law_is_broken" "_law_is_broken" ZU a.f_Lis_broken a.d_Lis_broken
 b_Lis_broken:Binds K a.d_Lis_broken ["_law_error"] []
 m_Lis_broken:mg "_law_is_broken" = some (.ref a.f_Lis_broken)
 F_Lstepped:Fun K "_law_stepped" "_law_stepped" Wl a.f_Lstepped a.d_Lstepped
 b_Lstepped:Binds K a.d_Lstepped ["_law_rows", "_law_born", "_law_one"] []
 m_Lstepped:mg "_law_stepped" = some (.ref a.f_Lstepped)
 F_Lnew:Fun K "_law_new" "_law_new" zEX a.f_Lnew a.d_Lnew
 b_Lnew:Binds K a.d_Lnew ["_law_book_here", "_law_born", "_law_back"] []
 m_Lnew:mg "_law_new" = some (.ref a.f_Lnew)
 F_law:Fun K "law" "law" JT a.f_law a.d_law
 b_law:Binds K a.d_law ["_law_script"] []
 m_law:mg "law" = some (.ref a.f_law)
 m_paper_slots:mg "paper_slots" = some (.ref a.f_paper)
 cl_Walk:Cls K a.a_Walk
 mk_Walk:Mk K a.a_Walk a.f_Walk___init__
 m_Walk:mg "Walk" = some (.ref a.a_Walk)
 n_Walk_back:NoAttr K a.a_Walk "back"
 n_Walk_book:NoAttr K a.a_Walk "book"
 n_Walk_changes:NoAttr K a.a_Walk "changes"
 n_Walk_last:NoAttr K a.a_Walk "last"
 n_Walk_over:NoAttr K a.a_Walk "over"
 n_Walk_strict:NoAttr K a.a_Walk "strict"
 mk_Shelf:Mk K a.a_Shelf a.f_H__init__
 m_Shelf:mg "Shelf" = some (.ref a.a_Shelf)
 cl:∀ tb,Cls K (cA a tb)
 n_came:∀ tb,NoAttr K (cA a tb) "came"
 n_cells:∀ tb,NoAttr K (cA a tb) "cells"
 n_comings:∀ tb,NoAttr K (cA a tb) "comings"
 n_held:∀ tb,NoAttr K (cA a tb) "held"
 n_moved:∀ tb,NoAttr K (cA a tb) "moved"
 n_row:∀ tb,NoAttr K (cA a tb) "row"
 n_size:∀ tb,NoAttr K (cA a tb) "size"
 n_tidyings:∀ tb,NoAttr K (cA a tb) "tidyings"
 n_went:∀ tb,NoAttr K (cA a tb) "went"
 mk_Table:Mk K a.a_Table a.f_T__init__
 m_Table:mg "Table" = some (.ref a.a_Table)
 z_ValueError:mg "ValueError" = none
 z_all:mg "all" = none
 z_bool:mg "bool" = none
 z_enumerate:mg "enumerate" = none
 z_int:mg "int" = none
 z_isinstance:mg "isinstance" = none
 z_len:mg "len" = none
 z_list:mg "list" = none
 z_ord:mg "ord" = none
 z_range:mg "range" = none
 z_reversed:mg "reversed" = none
 z_str:mg "str" = none
 z_tuple:mg "tuple" = none
 z_zip:mg "zip" = none
 c_DEEPEST:mg "DEEPEST" = some (.int 3 a.t_DEEPEST)
 c_EMPTY:mg "EMPTY" = some (.int (-1) a.t_EMPTY)
 c_GONE:mg "GONE" = some (.int (-2) a.t_GONE)
 c_GREATEST:mg "GREATEST" = some (.int 4096 a.t_GREATEST)
 c_LEAST:mg "LEAST" = some (.int 8 a.t_LEAST)
 c_MOST_PARTS:mg "MOST_PARTS" = some (.int 6 a.t_MOST_PARTS)
 c_MOST_SIGNS:mg "MOST_SIGNS" = some (.int 60 a.t_MOST_SIGNS)
 c_TURN:mg "TURN" = some (.int 2147483647 a.t_TURN)
 m_BookError:mg "BookError" = some (.ref a.a_BookError)
 x_BookError:∃ bm,XC K a.a_BookError bm
 m_NoKey:mg "NoKey" = some (.ref a.a_NoKey)
 x_NoKey:∃ bm,XC K a.a_NoKey bm
 m_NoSize:mg "NoSize" = some (.ref a.a_NoSize)
 m_Full:mg "Full" = some (.ref a.a_Full)
 x_Full:∃ bm,XC K a.a_Full bm
 m_Lacking:mg "Lacking" = some (.ref a.a_Lacking)
 x_Lacking:∃ bm,XC K a.a_Lacking bm
 m_Broken:mg "Broken" = some (.ref a.a_Broken)
 x_Broken:∃ bm,XC K a.a_Broken bm
 m_NoText:mg "NoText" = some (.ref a.a_NoText)
 m_NoDeed:mg "NoDeed" = some (.ref a.a_NoDeed)
 m_NoName:mg "NoName" = some (.ref a.a_NoName)
 m_Twice:mg "Twice" = some (.ref a.a_Twice)
 s_NoKey_BookError:W.mroIn K a.a_NoKey (.ref a.a_BookError)=some true
 s_Full_Full:W.mroIn K a.a_Full (.ref a.a_Full)=some true
 s_Lacking_BookError:W.mroIn K a.a_Lacking (.ref a.a_BookError)=some true
 i_Broken:XI K a.a_Broken
 k_Broken:W.kitOne K (.ref a.a_Broken) (.type "ValueError")=some true
 k_Broken_BookError:W.kitOne K (.ref a.a_Broken) (.ref a.a_BookError)=some true
 s_Broken_BookError:W.mroIn K a.a_Broken (.ref a.a_BookError)=some true
 k_Broken_NoKey:W.kitOne K (.ref a.a_Broken) (.ref a.a_NoKey)=some false
 k_Broken_NoSize:W.kitOne K (.ref a.a_Broken) (.ref a.a_NoSize)=some false
 k_Broken_Full:W.kitOne K (.ref a.a_Broken) (.ref a.a_Full)=some false
 k_Broken_Lacking:W.kitOne K (.ref a.a_Broken) (.ref a.a_Lacking)=some false
 k_Broken_Broken:W.kitOne K (.ref a.a_Broken) (.ref a.a_Broken)=some true
 k_Broken_NoText:W.kitOne K (.ref a.a_Broken) (.ref a.a_NoText)=some false
 k_Broken_NoDeed:W.kitOne K (.ref a.a_Broken) (.ref a.a_NoDeed)=some false
 k_Broken_NoName:W.kitOne K (.ref a.a_Broken) (.ref a.a_NoName)=some false
 k_Broken_Twice:W.kitOne K (.ref a.a_Broken) (.ref a.a_Twice)=some false
abbrev zHN:List Str:=["thing"]
abbrev Jd:List Str:=["thing"]
theorem sc_is_key:FnScope zHN Jd (QJ zAx):=⟨rfl,rfl,rfl,by decide +kernel,rfl,by decide +kernel,by decide +kernel⟩
abbrev zGV:List Str:=["thing"]
abbrev Yd:List Str:=["thing"]
theorem sc_checked:FnScope zGV Yd (QJ J7):=⟨rfl,rfl,rfl,by decide +kernel,rfl,by decide +kernel,by decide +kernel⟩
abbrev zHI:List Str:=["thing", "levels"]
abbrev ZO:List Str:=["thing", "levels"]
theorem sc_is_part:FnScope zHI ZO (QJ Jo):=⟨rfl,rfl,rfl,by decide +kernel,rfl,by decide +kernel,by decide +kernel⟩
abbrev zEE:List Str:=["things", "levels"]
abbrev Z5:List Str:=["things", "levels"]
theorem sc_are_parts:FnScope zEE Z5 (QJ WH):=⟨rfl,rfl,rfl,by decide +kernel,rfl,by decide +kernel,by decide +kernel⟩
abbrev zDa:List Str:=["thing"]
abbrev Ym:List Str:=["thing"]
theorem sc_is_number:FnScope zDa Ym (QJ WC):=⟨rfl,rfl,rfl,by decide +kernel,rfl,by decide +kernel,by decide +kernel⟩
abbrev zGU:List Str:=["thing"]
abbrev J0:List Str:=["thing"]
theorem sc_is_size:FnScope zGU J0 (QJ J4):=⟨rfl,rfl,rfl,by decide +kernel,rfl,by decide +kernel,by decide +kernel⟩
abbrev zMK:List Str:=["size"]
abbrev zDE:List Str:=["size"]
theorem sc_room:FnScope zMK zDE (QJ zEr):=⟨rfl,rfl,rfl,by decide +kernel,rfl,by decide +kernel,by decide +kernel⟩
abbrev zFN:List Str:=["many", "size"]
abbrev ZT:List Str:=["many"]
theorem sc_size_for:FnScope zFN ZT (QJ W3):=⟨rfl,rfl,rfl,by decide +kernel,rfl,by decide +kernel,by decide +kernel⟩
abbrev zIP:List Str:=["stamp"]
abbrev zBQ:List Str:=["stamp"]
theorem sc_stride:FnScope zIP zBQ (QJ zBH):=⟨rfl,rfl,rfl,by decide +kernel,rfl,by decide +kernel,by decide +kernel⟩
abbrev zKa:List Str:=["stamp", "size", "count"]
abbrev zAh:List Str:=["stamp", "size", "count"]
theorem sc_probe:FnScope zKa zAh (QJ zCj):=⟨rfl,rfl,rfl,by decide +kernel,rfl,by decide +kernel,by decide +kernel⟩
abbrev zKh:List Str:=["key"]
abbrev WJ:List Str:=["key"]
theorem sc_stamp:FnScope zKh WJ (QJ zCr):=⟨rfl,rfl,rfl,by decide +kernel,rfl,by decide +kernel,by decide +kernel⟩
abbrev zDM:List Str:=["text", "reckoned", "sign"]
abbrev Zn:List Str:=["text"]
theorem sc_text_stamp:FnScope zDM Zn (QJ ZV):=⟨rfl,rfl,rfl,by decide +kernel,rfl,by decide +kernel,by decide +kernel⟩
abbrev zBp:List Str:=["parts", "reckoned", "part"]
abbrev ZH:List Str:=["parts"]
theorem sc_tuple_stamp:FnScope zBp ZH (QJ ZK):=⟨rfl,rfl,rfl,by decide +kernel,rfl,by decide +kernel,by decide +kernel⟩
abbrev zEl:List Str:=["row", "size", "cells", "place", "key"]
abbrev Wy:List Str:=["row", "size"]
theorem sc_cells_of:FnScope zEl Wy (QJ Ws):=⟨rfl,rfl,rfl,by decide +kernel,rfl,by decide +kernel,by decide +kernel⟩
abbrev zBk:List Str:=["cells", "key", "mark", "count", "slot"]
abbrev ZJ:List Str:=["cells", "key"]
theorem sc_first_empty:FnScope zBk ZJ (QJ ZG):=⟨rfl,rfl,rfl,by decide +kernel,rfl,by decide +kernel,by decide +kernel⟩
abbrev zJU:List Str:=["cells", "row", "key", "mark", "pairs", "count", "slot"]
abbrev zAl:List Str:=["cells", "row", "key"]
theorem sc_paper:FnScope zJU zAl (QJ zCn):=⟨rfl,rfl,rfl,by decide +kernel,rfl,by decide +kernel,by decide +kernel⟩
abbrev zI7:List Str:=["cell", "row", "key"]
abbrev zBX:List Str:=["cell", "row", "key"]
theorem sc_is_end:FnScope zI7 zBX (QJ zA9):=⟨rfl,rfl,rfl,by decide +kernel,rfl,by decide +kernel,by decide +kernel⟩
abbrev zEs:List Str:=["cells", "row", "key", "pairs", "cell"]
abbrev JA:List Str:=["cells", "row", "key"]
theorem sc_place_of:FnScope zEs JA (QJ Wi):=⟨rfl,rfl,rfl,by decide +kernel,rfl,by decide +kernel,by decide +kernel⟩
abbrev zHT:List Str:=["row", "beside", "keys", "others"]
abbrev Ja:List Str:=["row", "beside"]
theorem sc_packed:FnScope zHT Ja (QJ zA2):=⟨rfl,rfl,rfl,by decide +kernel,rfl,by decide +kernel,by decide +kernel⟩
abbrev zEL:List Str:=["self", "size"]
abbrev Yl:List Str:=["self", "size"]
theorem sc_H__init__:FnScope zEL Yl (QJ WE):=⟨rfl,rfl,rfl,by decide +kernel,rfl,by decide +kernel,by decide +kernel⟩
abbrev zE6:List Str:=["self", "size", "row", "held", "comings"]
abbrev Yh:List Str:=["self", "size", "row", "held", "comings"]
theorem sc_Hlay_out:FnScope zE6 Yh (QJ Wp):=⟨rfl,rfl,rfl,by decide +kernel,rfl,by decide +kernel,by decide +kernel⟩
abbrev zL3:List Str:=["self", "key", "value", "place"]
abbrev zA1:List Str:=["self", "key", "value"]
theorem sc_Hput:FnScope zL3 zA1 (QJ zEo):=⟨rfl,rfl,rfl,by decide +kernel,rfl,by decide +kernel,by decide +kernel⟩
abbrev zMz:List Str:=["self", "key"]
abbrev zHX:List Str:=["self", "key"]
theorem sc_Hat:FnScope zMz zHX (QJ zHy):=⟨rfl,rfl,rfl,by decide +kernel,rfl,by decide +kernel,by decide +kernel⟩
abbrev zKQ:List Str:=["self", "key", "place", "value"]
abbrev JN:List Str:=["self", "key"]
theorem sc_Htake:FnScope zKQ JN (QJ zCX):=⟨rfl,rfl,rfl,by decide +kernel,rfl,by decide +kernel,by decide +kernel⟩
abbrev zCL:List Str:=["self", "last", "key"]
abbrev Zk:List Str:=["self"]
theorem sc_Htake_last:FnScope zCL Zk (QJ ZY):=⟨rfl,rfl,rfl,by decide +kernel,rfl,by decide +kernel,by decide +kernel⟩
abbrev zE9:List Str:=["self"]
abbrev W2:List Str:=["self"]
theorem sc_Hemptied:FnScope zE9 W2 (QJ W5):=⟨rfl,rfl,rfl,by decide +kernel,rfl,by decide +kernel,by decide +kernel⟩
abbrev zJy:List Str:=["self"]
abbrev WR:List Str:=["self"]
theorem sc_Hmany:FnScope zJy WR (QJ zDG):=⟨rfl,rfl,rfl,by decide +kernel,rfl,by decide +kernel,by decide +kernel⟩
abbrev zHu:List Str:=["self", "number", "sooner"]
abbrev JK:List Str:=["self", "number"]
theorem sc_Hahead:FnScope zHu JK (QJ zBP):=⟨rfl,rfl,rfl,by decide +kernel,rfl,by decide +kernel,by decide +kernel⟩
abbrev zIB:List Str:=["self", "number", "later"]
abbrev zBW:List Str:=["self", "number"]
theorem sc_Hafter:FnScope zIB zBW (QJ zA0):=⟨rfl,rfl,rfl,by decide +kernel,rfl,by decide +kernel,by decide +kernel⟩
abbrev zGr:List Str:=["self"]
abbrev J1:List Str:=["self"]
theorem sc_Hcounts:FnScope zGr J1 (QJ Ju):=⟨rfl,rfl,rfl,by decide +kernel,rfl,by decide +kernel,by decide +kernel⟩
abbrev zEt:List Str:=["self"]
abbrev Zd:List Str:=["self"]
theorem sc_Hentries:FnScope zEt Zd (QJ Wm):=⟨rfl,rfl,rfl,by decide +kernel,rfl,by decide +kernel,by decide +kernel⟩
abbrev zH7:List Str:=["self", "key"]
abbrev ZN:List Str:=["self", "key"]
theorem sc_Hplace:FnScope zH7 ZN (QJ zAv):=⟨rfl,rfl,rfl,by decide +kernel,rfl,by decide +kernel,by decide +kernel⟩
abbrev zBa:List Str:=["self", "key", "place"]
abbrev YQ:List Str:=["self", "key"]
theorem sc_Hsure_place:FnScope zBa YQ (QJ ZF):=⟨rfl,rfl,rfl,by decide +kernel,rfl,by decide +kernel,by decide +kernel⟩
abbrev zJP:List Str:=["self", "key", "value"]
abbrev zAY:List Str:=["self", "key", "value"]
theorem sc_Hcome:FnScope zJP zAY (QJ zCR):=⟨rfl,rfl,rfl,by decide +kernel,rfl,by decide +kernel,by decide +kernel⟩
abbrev zIl:List Str:=["self", "key", "cell", "pairs"]
abbrev JG:List Str:=["self", "key", "cell"]
theorem sc_Hwrite:FnScope zIl JG (QJ zAu):=⟨rfl,rfl,rfl,by decide +kernel,rfl,by decide +kernel,by decide +kernel⟩
abbrev zAR:List Str:=["self"]
abbrev YT:List Str:=["self"]
theorem sc_Hsize_emptied:FnScope zAR YT (QJ Yt):=⟨rfl,rfl,rfl,by decide +kernel,rfl,by decide +kernel,by decide +kernel⟩
abbrev zCW:List Str:=["self"]
abbrev Yu:List Str:=["self"]
theorem sc_Hmake_room:FnScope zCW Yu (QJ Zq):=⟨rfl,rfl,rfl,by decide +kernel,rfl,by decide +kernel,by decide +kernel⟩
abbrev zDh:List Str:=["self"]
abbrev WG:List Str:=["self"]
theorem sc_T__init__:FnScope zDh WG (QJ Z6):=⟨rfl,rfl,rfl,by decide +kernel,rfl,by decide +kernel,by decide +kernel⟩
abbrev zAT:List Str:=["self"]
abbrev Zt:List Str:=["self"]
theorem sc_Tsize_emptied:FnScope zAT Zt (QJ Yq):=⟨rfl,rfl,rfl,by decide +kernel,rfl,by decide +kernel,by decide +kernel⟩
abbrev zCN:List Str:=["self", "many", "held", "comings"]
abbrev JM:List Str:=["self"]
theorem sc_Tmake_room:FnScope zCN JM (QJ ZW):=⟨rfl,rfl,rfl,by decide +kernel,rfl,by decide +kernel,by decide +kernel⟩
abbrev zAO:List Str:=["self", "book", "back", "strict"]
abbrev YB:List Str:=["self", "book", "back", "strict"]
theorem sc_Walk___init__:FnScope zAO YB (QJ Yn):=⟨rfl,rfl,rfl,by decide +kernel,rfl,by decide +kernel,by decide +kernel⟩
abbrev zEJ:List Str:=["self", "entry"]
abbrev Z8:List Str:=["self"]
theorem sc_Walk_step:FnScope zEJ Z8 (QJ Z4):=⟨rfl,rfl,rfl,by decide +kernel,rfl,by decide +kernel,by decide +kernel⟩
abbrev JF:List Str:=["self"]
abbrev YY:List Str:=["self"]
theorem sc_Walk_next_entry:FnScope JF YY (QJ Yb):=⟨rfl,rfl,rfl,by decide +kernel,rfl,by decide +kernel,by decide +kernel⟩
abbrev Wx:List Str:=["self"]
abbrev Q9:List Str:=["self"]
theorem sc_Walk_changes_now:FnScope Wx Q9 (QJ YV):=⟨rfl,rfl,rfl,by decide +kernel,rfl,by decide +kernel,by decide +kernel⟩
abbrev zFG:List Str:=["_law_script", "_law_k"]
abbrev W1:List Str:=["_law_script", "_law_k"]
theorem sc_Lcell_at:FnScope zFG W1 (QJ Wn):=⟨rfl,rfl,rfl,by decide +kernel,rfl,by decide +kernel,by decide +kernel⟩
abbrev zJ1:List Str:=["_law_found", "_law_due_here"]
abbrev WL:List Str:=["_law_found", "_law_due_here"]
theorem sc_Lsame:FnScope zJ1 WL (QJ zCw):=⟨rfl,rfl,rfl,by decide +kernel,rfl,by decide +kernel,by decide +kernel⟩
abbrev zGt:List Str:=["_law_way", "_law_number", "_law_some", "_law_n", "_law_text"]
abbrev WM:List Str:=["_law_way", "_law_number"]
theorem sc_Lkey_by:FnScope zGt WM (QJ Jm):=⟨rfl,rfl,rfl,by decide +kernel,rfl,by decide +kernel,by decide +kernel⟩
abbrev zD9:List Str:=["_law_number"]
abbrev Y9:List Str:=["_law_number"]
theorem sc_Lvalue_by:FnScope zD9 Y9 (QJ Z7):=⟨rfl,rfl,rfl,by decide +kernel,rfl,by decide +kernel,by decide +kernel⟩
abbrev zKc:List Str:=["_law_cell"]
abbrev zCf:List Str:=["_law_cell"]
theorem sc_Lbook:FnScope zKc zCf (QJ zCp):=⟨rfl,rfl,rfl,by decide +kernel,rfl,by decide +kernel,by decide +kernel⟩
abbrev zLq:List Str:=["_law_book_here", "_law_rows", "_law_born", "_law_key", "_law_value", "_law_full"]
abbrev zCh:List Str:=["_law_book_here", "_law_rows", "_law_born", "_law_key", "_law_value"]
theorem sc_Lput:FnScope zLq zCh (QJ zEm):=⟨rfl,rfl,rfl,by decide +kernel,rfl,by decide +kernel,by decide +kernel⟩
abbrev zME:List Str:=["_law_book_here", "_law_rows", "_law_born", "_law_key"]
abbrev zFR:List Str:=["_law_book_here", "_law_rows", "_law_born", "_law_key"]
theorem sc_Lout:FnScope zME zFR (QJ zFI):=⟨rfl,rfl,rfl,by decide +kernel,rfl,by decide +kernel,by decide +kernel⟩
abbrev zEn:List Str:=["_law_book_here", "_law_rows", "_law_way", "_law_told", "e"]
abbrev W8:List Str:=["_law_book_here", "_law_rows", "_law_way"]
theorem sc_Lrefused:FnScope zEn W8 (QJ Wg):=⟨rfl,rfl,rfl,by decide +kernel,rfl,by decide +kernel,by decide +kernel⟩
abbrev zEk:List Str:=["_law_book_here", "_law_rows", "_law_born"]
abbrev Wf:List Str:=["_law_book_here", "_law_rows", "_law_born"]
theorem sc_Lemptied:FnScope zEk Wf (QJ W6):=⟨rfl,rfl,rfl,by decide +kernel,rfl,by decide +kernel,by decide +kernel⟩
abbrev zJF:List Str:=["_law_book_here", "_law_rows", "_law_born", "_law_way", "_law_number", "_law_k"]
abbrev zDC:List Str:=["_law_book_here", "_law_rows", "_law_born", "_law_way", "_law_number"]
theorem sc_Lputs:FnScope zJF zDC (QJ zDA):=⟨rfl,rfl,rfl,by decide +kernel,rfl,by decide +kernel,by decide +kernel⟩
abbrev zKC:List Str:=["_law_book_here", "_law_rows", "_law_born", "_law_way", "_law_cell", "_law_number", "_law_some", "_law_key"]
abbrev zCg:List Str:=["_law_book_here", "_law_rows", "_law_born", "_law_way", "_law_cell"]
theorem sc_Ldeed:FnScope zKC zCg (QJ zC8):=⟨rfl,rfl,rfl,by decide +kernel,rfl,by decide +kernel,by decide +kernel⟩
abbrev zLf:List Str:=["_law_rows", "_law_back", "_law_last", "_law_some", "_law_key"]
abbrev zEu:List Str:=["_law_rows", "_law_back", "_law_last"]
theorem sc_Ldue:FnScope zLf zEu (QJ zFS):=⟨rfl,rfl,rfl,by decide +kernel,rfl,by decide +kernel,by decide +kernel⟩
abbrev zC7:List Str:=["_law_error"]
abbrev Zc:List Str:=["_law_error"]
theorem sc_Lis_broken:FnScope zC7 Zc (QJ ZU):=⟨rfl,rfl,rfl,by decide +kernel,rfl,by decide +kernel,by decide +kernel⟩
abbrev zEb:List Str:=["_law_rows", "_law_born", "_law_one", "_law_told", "_law_found", "e", "_law_key"]
abbrev W7:List Str:=["_law_rows", "_law_born", "_law_one"]
theorem sc_Lstepped:FnScope zEb W7 (QJ Wl):=⟨rfl,rfl,rfl,by decide +kernel,rfl,by decide +kernel,by decide +kernel⟩
abbrev zLT:List Str:=["_law_book_here", "_law_born", "_law_back"]
abbrev zET:List Str:=["_law_book_here", "_law_born", "_law_back"]
theorem sc_Lnew:FnScope zLT zET (QJ zEX):=⟨rfl,rfl,rfl,by decide +kernel,rfl,by decide +kernel,by decide +kernel⟩
abbrev zMY:List Str:=["_law_script", "_law_way", "_law_kind", "_law_book_here", "_law_rows", "_law_born", "_law_walks", "_law_cell", "_law_number", "_law_one", "_law_k"]
abbrev zH8:List Str:=["_law_script"]
theorem sc_law:FnScope zMY zH8 (QJ JT):=⟨rfl,rfl,rfl,by decide +kernel,rfl,by decide +kernel,by decide +kernel⟩
def zEx:Sp:=fun vs H Q _=>∃ x,vs=[.str x]/\Q (.int (tst x.cps.toList)) H
def zI4 (d:Nat):Sp:=fun vs H Q _=>∃ v k,vs=[v]/\IsK H k v/\k.deep<=d/\Q (.int k.st) H
def zNB (d:Nat):Sp:=fun vs H Q _=>∃ a ws ks,vs=[.ref a]/\H a=some (.tup ws)/\IsKs H ks ws/\Kd.deepL ks<=d/\Q (.int (Kd.stL 11 ks)) H
def zDT:Sp:=fun vs H Q _=>∃ m,vs=[.int m]/\0<=m/\Q (.int (std m)) H
def zDQ:Sp:=fun vs H Q _=>∃ m s c,vs=[.int m,.int s,.int c]/\0<=m/\0 < s/\0<=c/\c<=100000/\Q (.int (pr m s c.toNat)) H
def zGI:Sp:=fun vs H Q _=>∃ B v t,vs=[v]/\IsT B H t v/\Same B H/\Q (.bl t.isNum) H
def zCO (n:Nat):Sp:=fun vs H Q _=>∃ B v t,vs=[v,.int n]/\IsT B H t v/\Same B H/\∀ H',Same H H'->Q (.bl (t.ok n)) H'
def zKv (n:Nat):Sp:=fun vs H Q _=>∃ B b ws ts,vs=[.ref b,.int n]/\H b=some (.tup ws)/\ws.length<=1000/\IsTs B H ts ws/\Same B H/\∀ H',Same H H'->Q (.bl (decide (ts.length<=6) && Th.okL ts n)) H'
def zHs:Sp:=fun vs H Q _=>∃ B v t,vs=[v]/\IsT B H t v/\Same B H/\∀ H',Same H H'->Q (.bl (t.ok 3)) H'
def Zy (ns:List Int) (k:Int):Int:=(ns[k.toNat]?).getD 0
def zHW (K:W.Frag):Sp:=fun vs H Q _=>∃ (b:Addr) (ns:List Int) (k:Int),vs=[.ref b,.int k]/\SqL K H b (ns.map V.int)/\0<=k/\Q (.int (Zy ns k)) H
def zLD (k:Kd):Prop:=∀ n,k.th.ok n=true
theorem zI3 {i:Int} (h1 : -10 ^ 60 < i) (h2:i < 10 ^ 60):zLD (.num i):=fun n=>by
 unfold Kd.th Th.ok
 rw[decide_eq_true h1,decide_eq_true h2];rfl
theorem Jv {x:Str} (h:x.length<=60):zLD (.txt x):=fun n=>by
 unfold Kd.th Th.ok
 rw[decide_eq_true h]
theorem zIg {n:Nat}:∀ {ks:List Kd},(∀ k∈ks,k.th.ok n=true)->Th.okL (Kd.thL ks) n=true
 | [],_=>by unfold Kd.thL Th.okL;rfl
 | k::r,h=>by
  unfold Kd.thL Th.okL
  rw[h k List.mem_cons_self,zIg fun x hx=>h x (List.mem_cons_of_mem _ hx)];rfl
theorem WF {ks:List Kd} {n:Nat} (h6:ks.length<=6) (h:∀ k∈ks,k.th.ok n=true):(Kd.tup ks).th.ok (n+1)=true:=by
 unfold Kd.th Th.ok
 rw[Kd.thL_length,decide_eq_true h6,decide_eq_true (Nat.succ_pos n),Nat.add_sub_cancel,zIg h];rfl
theorem Zl {H:Hp} {i:Int}:IsK H (.num i) (.int i):=by unfold IsK;rfl
theorem WS {H:Hp} {x:Str}:IsK H (.txt x) (.str x):=by unfold IsK;rfl
theorem Yw {H:Hp} {t:Addr} {ks:List Kd} {vs:List V} (h:H t=some (.tup vs)) (hz:vs.length<=1000) (hk:IsKs H ks vs):IsK H (.tup ks) (.ref t):=by unfold IsK;exact⟨t,vs,rfl,h,hz,hk⟩
theorem Q3 {H:Hp} {p:Addr} {o o':HO}:upd (upd H p o) p o'=upd H p o':=by
 funext b
 by_cases e:b=p
 ·subst e;rw[QF,QF]
 ·rw[QG e,QG e,QG e]
def NoN (H:Hp) (x:V):Prop:=(∃ b,x=.bl b)\/x=.non\/(∃ z,x=.str z)\/(∃ a xs,x=.ref a/\H a=some (.tup xs))\/(∃ a xs,x=.ref a/\H a=some (.lst xs))\/∃ a xs,x=.ref a/\H a=some (.dK xs)
def Tg (H:Hp) (x:V) (n s:Bool):Prop:=(∃ i,x=.int i/\n=true/\s=decide (S8 i))\/(NoN H x/\n=false/\s=false)
def zK6:Sp:=fun vs H Q _=>∃ x n s,vs=[x]/\Tg H x n s/\Q (.bl n) H
def zM7:Sp:=fun vs H Q _=>∃ x n s,vs=[x]/\Tg H x n s/\Q (.bl s) H
def zEq:Sp:=fun vs H Q _=>∃ i,vs=[.int i]/\Q (.int (2*i / 3)) H
def zMx:Sp:=fun vs H Q _=>∃ p cs v k c,vs=[.ref p,v]/\H p=some (.lst (cs.map V.int))/\0 < cs.length/\cs.length<=4096/\IsK H k v/\k.deep<=3/\IsFirst (fun c=>cAt cs k.st c = -1) cs.length c/\Q (.int (sl k.st cs.length c:Nat)) H
def zFX:Sp:=fun vs H Q _=>∃ r xs os s,vs=[.ref r,.int s]/\H r=some (.lst xs)/\IsKos H os xs/\(∀ o∈os,zMI 3 o)/\S8 s/\3*(os.length:Int)<=2*s /\
 ∀ q cs H',Same H H'->H q=none->H' q=some (.lst (cs.map V.int))->LB (stO os) s.toNat os.length cs->Q (.ref q) H'
def zLF:Sp:=fun vs H Q _=>∃ v r xs os x k,vs=[.int v,.ref r,x]/\H r=some (.lst xs)/\IsKos H os xs/\IsK H k x/\(0<=v->∃ k',os[v.toNat]? = some (some k')/\k'.deep<=20)/\Q (.bl (decide (YW os k v))) H
def zHM (cs:List Int) (os:List (Option Kd)):Prop:=∀ v∈cs,0<=v->∃ k',os[v.toNat]? = some (some k')/\k'.deep<=20
def zCx:Sp:=fun vs H Q _=>∃ p r cs xs os x k c,vs=[.ref p,.ref r,x]/\H p=some (.lst (cs.map V.int))/\H r=some (.lst xs)/\IsKos H os xs/\IsK H k x/\k.deep<=3/\0 < cs.length/\cs.length<=4096/\zHM cs os /\
 IsFirst (fun c=>YW os k (cAt cs k.st c)) cs.length c/\∀ q ys H',Same H H'->H q=none->H' q=some (.lst ys)->IsKos H' (pap cs k.st c) ys->Q (.ref q) H'
def zF7:Sp:=fun vs H Q _=>∃ p r cs xs os x k c,vs=[.ref p,.ref r,x]/\H p=some (.lst (cs.map V.int))/\H r=some (.lst xs)/\IsKos H os xs/\IsK H k x/\k.deep<=3/\0 < cs.length/\cs.length<=4096/\zHM cs os /\
 IsFirst (fun c=>YW os k (cAt cs k.st c)) cs.length c/\∀ H',Same H H'->Q (if cAt cs k.st c = -1 then .non else .int (cAt cs k.st c)) H'
theorem zCa {cs:List Int} {m:Int} {c:Nat}:(pap cs m c).length=c+1:=by unfold pap;rw[List.length_map,List.length_range]
theorem zJ3 {cs:List Int} {m:Int} {c i:Nat} (h:i < c+1):(pap cs m c)[i]? = some (some (.tup [.num (sl m cs.length i:Nat),.num (cAt cs m i)])):=by unfold pap;rw[List.getElem?_map,List.getElem?_range h];rfl
theorem zH0 {cs:List Int} {m:Int} {c i:Nat} {H:Hp} {ys:List V} {y:V} (h:IsKos H (pap cs m c) ys) (e:ys[i]? = some y):∃ t,y=.ref t/\H t=some (.tup [.int (sl m cs.length i:Nat),.int (cAt cs m i)]):=by
 obtain⟨o,e1,e2⟩:=h.get e
 have il:i < c+1:=by have:=(List.getElem?_eq_some_iff.mp e1).1;rwa [zCa] at this
 rw[zJ3 il] at e1
 cases e1
 exact zHa e2
def zIQ:Sp:=fun vs H Q _=>∃ x k,vs=[x]/\IsK H k x/\k.th.ok 3=true/\∀ H',Same H H'->Q x H'
def plV:Option Nat->V
 | some i=>.int (i:Nat)
 | none=>.non
def zHP (C:Addr):Sp:=fun vs H Q _=>∃ p S x k,vs=[.ref p,x]/\ShAt C H p S/\IsK H k x/\k.deep<=3/\Plc S.os k fun r=>∀ H',Same H H'->Q (plV r) H'
def JE (C:Addr):Sp:=fun vs H Q _=>∃ p S,vs=[.ref p]/\ShAt C H p S/\Q (.int (S.ca - S.we)) H
def zDw (C:Addr):Sp:=fun vs H Q _=>∃ p S,vs=[.ref p]/\ShAt C H p S/\∀ t,H t=none->Q (.ref t) (upd H t (.tup [.int (S.ca - S.we),.int S.ca,.int S.we,.int S.ti,.int S.mo]))
def Yx (S:Sh) (xs:List V):List (Int × V × V):=(S.ms.zip (xs.zip S.hs)).filter fun e=>NN e.2.1
def EntR (H:Hp) (y:V) (e:Int × V × V):Prop:=∃ t,y=V.ref t/\H t=some (.tup [.int e.1,e.2.1,e.2.2])
theorem EntR.same {H H':Hp} {y:V} {e:Int × V × V} (g:Same H H') (h:EntR H y e):EntR H' y e:=h.imp fun t h=>⟨h.1,g _ _ h.2⟩
def Jk (C:Addr):Sp:=fun vs H Q _=>∃ p S xs,vs=[.ref p]/\ShAt C H p S/\H S.pr=some (.lst xs)/\∀ l ys H',Same H H'->H l=none->H' l=some (.lst ys) ->
 Paired (EntR H') ys (Yx S xs)->Q (.ref l) H'
def zCT (C:Addr):Sp:=fun vs H Q _=>∃ p S x k v c,vs=[.ref p,x,.int v]/\ShAt C H p S/\IsK H k x/\k.deep<=3/\IsFirst (fun c=>YW S.os k (cAt S.cs k.st c)) S.n c /\
 ∀ H',Same H H'->Q .non (upd H' S.pc (.lst ((S.cs.set (sl k.st S.n c) v).map V.int)))
def Z9 (S:Sh) (k:Kd) (c:Nat) (y:V):Sh:={ S with cs:=S.cs.set (sl k.st S.n c) (S.os.length:Int),os:=S.os++[some k],hs:=S.hs++[y],ms:=S.ms++[S.ca+1],ca:=S.ca+1 }
def lay (fs:List (Str × V)) (n:Int) (pc pr ph pm:Addr):List (Str × V):=Qr "comings" (.ref pm) (Qr "held" (.ref ph) (Qr "row" (.ref pr) (Qr "size" (.int n) (Qr "cells" (.ref pc) fs))))
def zEI (C:Addr):Sp:=fun vs H Q _=>∃ p dx fs n pr ph pm xs os,vs=[.ref p,.int n,.ref pr,.ref ph,.ref pm]/\H p=some (.ins C dx fs)/\fs.length<=9/\H pr=some (.lst xs)/\IsKos H os xs/\(∀ o∈os,zMI 3 o)/\S8 n/\3*(os.length:Int)<=2*n /\
 ∀ pc cs H',Same H H'->H pc=none->H' pc=some (.lst (cs.map V.int))->LB (stO os) n.toNat os.length cs->Q .non (upd H' p (.ins C dx (lay fs n pc pr ph pm)))
def zEh (C:Addr):Sp:=fun vs H Q _=>∃ p dx n,vs=[.ref p,.int n]/\H p=some (.ins C dx [])/\S8 n /\
 ∀ S H',(∀ b o,H b=some o->b ≠ p->H' b=some o)->ShAt C H' p S->S.n=n.toNat->S.cs=List.replicate n.toNat (-1)->S.os=[]->S.hs=[]->S.ms=[]->S.ca=0->S.we=0->S.ti=0->S.mo=0->Q .non H'
theorem zFW {pc pr ph pm pc' pr' ph' pm':Addr} {n n' ca we ti mo:Int}:lay (shF pc n pr ph pm ca we ti mo) n' pc' pr' ph' pm'=shF pc' n' pr' ph' pm' ca we ti mo:=by
 unfold lay
 rw[zBs,zCq,zD3,zCo,zAU]
theorem zKV {pc pr ph pm:Addr} {n:Int}:lay [] n pc pr ph pm=sh5 pc n pr ph pm:=by
 kernel_rfl
section
variable {P:Program} {w:World} {K:W.Frag} {mg:Str->Option Value} {base:Heap} {a:Ad} {tb:Bool} {H:Hp} {Q:VK} {N:Hp->Prop} {p:Addr} {S:Sh}
theorem zDB (T:Txt K mg a) (A:ShAt (cA a tb) H p S):ZM K "cells" (.ref p) H Q=Q (.ref S.pc) H:=Qc A.ob (T.cl tb) (T.n_cells tb) zGl
theorem zL4 (T:Txt K mg a) (A:ShAt (cA a tb) H p S):ZM K "size" (.ref p) H Q=Q (.int S.n) H:=Qc A.ob (T.cl tb) (T.n_size tb) zEA
theorem zBG (T:Txt K mg a) (A:ShAt (cA a tb) H p S):ZM K "row" (.ref p) H Q=Q (.ref S.pr) H:=Qc A.ob (T.cl tb) (T.n_row tb) zDK
theorem zBR (T:Txt K mg a) (A:ShAt (cA a tb) H p S):ZM K "held" (.ref p) H Q=Q (.ref S.ph) H:=Qc A.ob (T.cl tb) (T.n_held tb) zAn
theorem zB5 (T:Txt K mg a) (A:ShAt (cA a tb) H p S):ZM K "comings" (.ref p) H Q=Q (.ref S.pm) H:=Qc A.ob (T.cl tb) (T.n_comings tb) zAC
theorem zFQ (T:Txt K mg a) (A:ShAt (cA a tb) H p S):ZM K "came" (.ref p) H Q=Q (.int S.ca) H:=Qc A.ob (T.cl tb) (T.n_came tb) zA8
theorem zEp (T:Txt K mg a) (A:ShAt (cA a tb) H p S):ZM K "went" (.ref p) H Q=Q (.int S.we) H:=Qc A.ob (T.cl tb) (T.n_went tb) zDq
theorem zNA (T:Txt K mg a) (A:ShAt (cA a tb) H p S):ZM K "tidyings" (.ref p) H Q=Q (.int S.ti) H:=Qc A.ob (T.cl tb) (T.n_tidyings tb) Je
theorem zMy (T:Txt K mg a) (A:ShAt (cA a tb) H p S):ZM K "moved" (.ref p) H Q=Q (.int S.mo) H:=Qc A.ob (T.cl tb) (T.n_moved tb) zB6
theorem Ye {m:Str} (A:ShAt (cA a tb) H p S) (h:shK.contains m=false):zBC (cA a tb) m (.ref p) H N=N H:=ZQ A.ob (zFE h)
theorem zDD (A:ShAt (cA a tb) H p S):zHM S.cs S.os:=fun v hv h0=>by
 obtain⟨j,hj⟩:=List.mem_iff_getElem?.mp hv
 rcases A.fm.good j v hj with e | e | ⟨q,k,e,hq⟩
 ·omega
 ·omega
 ·have z:v.toNat=q:=by omega
  rw[z]
  exact⟨k,hq,Nat.le_trans (A.dp _ (List.mem_of_getElem? hq)) (by decide)⟩
end
def zGF (DF:Addr):Sp:=fun vs H _ E=>∃ p,vs=[.ref p]/\∀ ea,H ea=none->E (.ref DF) (some ea) H
def zFb (C DL:Addr):Sp:=fun vs H Q E=>∃ p S x k,vs=[.ref p,x]/\ShAt C H p S/\IsK H k x/\k.deep<=3/\k.th.ok 3=true/\(∀ (i:Nat) H',S.os[i]? = some (some k)->Same H H'->Q (.int (i:Nat)) H') /\
 ((∀ i:Nat,S.os[i]? ≠ some (some k))->∀ ea H',Same H H'->H' ea=none->E (.ref DL) (some ea) H')
def zFo (S:Sh) (k:Kd) (c i:Nat):Sh:={ S with cs:=S.cs.set (sl k.st S.n c) (-2),os:=S.os.set i none,hs:=S.hs.set i .non,we:=S.we+1 }
def zAi (C DL:Addr):Sp:=fun vs H Q E=>∃ p S x k,vs=[.ref p,x]/\ShAt C H p S/\IsK H k x/\k.deep<=3/\k.th.ok 3=true /\
 (∀ (i:Nat) c H',S.os[i]? = some (some k)->IsFirst (fun c=>YW S.os k (cAt S.cs k.st c)) S.n c->But p S H H'->ShAt C H' p (zFo S k c i)->Q ((S.hs[i]?).getD .non) H') /\
 ((∀ i:Nat,S.os[i]? ≠ some (some k))->∀ ea H',Same H H'->H' ea=none->E (.ref DL) (some ea) H')
def zDO (C:Addr):Sp:=fun vs H Q _=>∃ p S xs m,vs=[.ref p,.int m]/\ShAt C H p S/\H S.pr=some (.lst xs) /\
 (∀ H',(Yx S xs).filter (fun e=>decide (e.1 < m))=[]->Same H H'->Q .non H') /\
 (∀ l e t H',(Yx S xs).filter (fun e=>decide (e.1 < m))=l++[e]->Same H H'->H' t=some (.tup [.int e.1,e.2.1,e.2.2])->Q (.ref t) H')
def zJE (C:Addr):Sp:=fun vs H Q _=>∃ (p:Addr) (S:Sh),vs=[.ref p]/\(∃ we,H p=some (.ins C S.dx (shF S.pc S.n S.pr S.ph S.pm S.ca we S.ti S.mo)))/\Q (.int S.n) H
theorem zJ4 {H H':Hp} {os:List (Option Kd)} {xs:List V} (h:IsKos H os xs) (t:TupS H H') (i:Nat):IsKos H' (os.set i none) (xs.set i V.non):=(h.same t).set (show IsKo H' none V.non from rfl) i
def zIo:Sp:=fun vs H Q _=>∃ m,vs=[.int m]/\0<=m/\m<=1365/\∀ s,S8 s->3*m<=s->(s=8\/s / 2 < 3*m)->Q (.int s) H
def zBO:Sp:=fun vs H Q _=>∃ a b xs ys,vs=[.ref a,.ref b]/\H a=some (.lst xs)/\H b=some (.lst ys)/\xs.length=ys.length/\xs.length<=4096 /\
 ∀ t p q H',Same H H'->H p=none->H q=none->p ≠ q->H' t=some (.tup [.ref p,.ref q])->H' p=some (.lst (Kp xs))->H' q=some (.lst (Kb xs ys))->Q (.ref t) H'
def Cnt (S:Sh):Prop:=S.ca - S.we=(YR S.os:Int)
def Zu (S:Sh) (pc pr ph pm:Addr) (n:Nat) (cs:List Int):Sh:={ S with pc:=pc,pr:=pr,ph:=ph,pm:=pm,n:=n,cs:=cs,os:=Qk S.os,hs:=Qv S.os S.hs,ms:=Qv S.os S.ms,ti:=S.ti+1,mo:=S.mo+(S.ca - S.we) }
def WZ (p:Addr) (S S':Sh) (H H':Hp):Prop:=∀ b o,H b=some o->(b ≠ p/\b ≠ S.pc/\b ≠ S.pr/\b ≠ S.ph/\b ≠ S.pm)->H' b=some o/\(b ≠ p/\b ≠ S'.pc/\b ≠ S'.pr/\b ≠ S'.ph/\b ≠ S'.pm)
def zIk (C:Addr):Sp:=fun vs H Q _=>∃ p S,vs=[.ref p]/\ShAt C H p S/\Cnt S/\YR S.os<=1365/\∀ pc pr ph pm n cs H',H pc=none->H pr=none->H ph=none->H pm=none->(∀ b o,H b=some o->b ≠ p->H' b=some o)->(n=8\/n < 6*YR S.os)->3*YR S.os<=n->ShAt C H' p (Zu S pc pr ph pm n cs)->Q .non H'
def Tid (S S1:Sh):Prop:=∃ pc pr ph pm n cs,S1=Zu S pc pr ph pm n cs/\(n=8\/n < 6*YR S.os)/\3*YR S.os<=n
def zJh:Sp:=fun vs H Q _=>∃ p,vs=[V.ref p]/\Q (.int 8) H
def zFj (C:Addr):Sp:=fun vs H Q _=>∃ p dx,vs=[.ref p]/\H p=some (.ins C dx [])/\∀ S H',(∀ b o,H b=some o->b ≠ p->H' b=some o)->ShAt C H' p S->S.n=8->S.os=[]->S.hs=[]->S.ms=[]->S.ca=0->S.we=0->S.ti=0->S.mo=0->Q .non H'
theorem zDu {p:Addr} {S S1:Sh} {H H1 H2:Hp} (k:∀ b o,H b=some o->b ≠ p->H1 b=some o) (f1:H S1.pc=none) (f2:H S1.pr=none) (f3:H S1.ph=none) (f4:H S1.pm=none) (b:But p S1 H1 H2):WZ p S S1 H H2:=fun c o e ⟨m,_⟩ =>
 ⟨b c o (k c o e m) m (QI e f1) (QI e f2) (QI e f3) (QI e f4),m,QI e f1,QI e f2,QI e f3,QI e f4⟩
def zHh (d:Nat):Sp:=fun vs H Q _=>∃ x y,vs=[x,y]/\Sm d H x y/\∀ H',Same H H'->Q (.bl true) H'
def nE (tb:Bool) (S:Sh):Nat:=vA S.n 8 tb
theorem zH3 {tb:Bool} {C:Addr} {H:Hp} {p:Addr} {S:Sh} (A:ShAt C H p S):S8 ((nE tb S:Nat):Int):=by
 cases tb
 ·exact A.s8
 ·exact .inl rfl
def zFZ (a:Ad) (tb:Bool):Sp:=fun vs H Q _=>∃ (p:Addr) (S:Sh),vs=[.ref p]/\(∃ we,H p=some (.ins (cA a tb) S.dx (shF S.pc S.n S.pr S.ph S.pm S.ca we S.ti S.mo)))/\Q (.int (nE tb S)) H
def zHd (tb:Bool) (S:Sh) (pc pr ph pm:Addr):Sh:={ S with pc:=pc,pr:=pr,ph:=ph,pm:=pm,n:=nE tb S,cs:=List.replicate (nE tb S) (-1),os:=[],hs:=[],ms:=[],we:=S.ca }
def zBM (a:Ad) (tb:Bool):Sp:=fun vs H Q _=>∃ p S,vs=[.ref p]/\ShAt (cA a tb) H p S/\∀ pc pr ph pm H',H pc=none->H pr=none->H ph=none->H pm=none->(∀ b o,H b=some o->b ≠ p->H' b=some o)->ShAt (cA a tb) H' p (zHd tb S pc pr ph pm)->Q .non H'
def zK0 (a:Ad) (tb:Bool):Sp:=fun vs H Q E=>(tb=true/\zIk (cA a tb) vs H Q E)\/(tb=false/\zGF a.a_Full vs H Q E)
def zCe (a:Ad) (tb:Bool):Sp:=fun vs H Q E=>∃ p S x k y,vs=[.ref p,x,y]/\ShAt (cA a tb) H p S/\Cnt S/\YR S.os<=1365/\IsK H k x/\k.deep<=3/\(∀ i:Nat,S.os[i]? ≠ some (some k)) /\
 (S.os.length < 2*S.n / 3->∀ c H',IsFirst (fun c=>YW S.os k (cAt S.cs k.st c)) S.n c->But p S H H'->ShAt (cA a tb) H' p (Z9 S k c y)->Q .non H') /\
 (tb=true->2*S.n / 3<=S.os.length->∀ S1 c H',Tid S S1->WZ p S S1 H H'->ShAt (cA a tb) H' p (Z9 S1 k c y)->Q .non H') /\
 (tb=false->2*S.n / 3<=S.os.length->∀ ea,H ea=none->E (.ref a.a_Full) (some ea) H)
def zIq (a:Ad) (tb:Bool):Sp:=fun vs H Q E=>∃ p S x k y,vs=[.ref p,x,y]/\ShAt (cA a tb) H p S/\Cnt S/\YR S.os<=1365/\IsK H k x/\k.deep<=3/\k.th.ok 3=true /\
 (∀ (i:Nat) H',S.os[i]? = some (some k)->But p S H H'->ShAt (cA a tb) H' p { S with hs:=S.hs.set i y }->Q (.bl false) H') /\
 (∀ c H',(∀ i:Nat,S.os[i]? ≠ some (some k))->S.os.length < 2*S.n / 3->IsFirst (fun c=>YW S.os k (cAt S.cs k.st c)) S.n c->But p S H H'->ShAt (cA a tb) H' p (Z9 S k c y)->Q (.bl true) H') /\
 (∀ S1 c H',tb=true->(∀ i:Nat,S.os[i]? ≠ some (some k))->2*S.n / 3<=S.os.length->Tid S S1->WZ p S S1 H H'->ShAt (cA a tb) H' p (Z9 S1 k c y)->Q (.bl true) H') /\
 (tb=false->(∀ i:Nat,S.os[i]? ≠ some (some k))->2*S.n / 3<=S.os.length->∀ ea H',Same H H'->H' ea=none->E (.ref a.a_Full) (some ea) H')
local macro_rules | `(tactic| walk_at "rd") => `(tactic| simp only [L2.zJI, L2.tC, L2.tOp, L2.tUn, L2.rI, L2.rI0, L2.rU, L2.zKo, L2.tB, L2.zMb, L2.tOr, L2.zMh, L2.zKt, L2.zMu, L2.zKr, L2.tIf, L2.zKq, L2.zI5, L2.zLM, L2.zMs, L2.Wb, L2.zEM, L2.zIp, L2.tCB, L2.zHG, L2.zHr, L2.zK8, L2.zMr, L2.zMX, L2.WD, L2.tSl, L2.zKp, L2.zCl, L2.zJ6, L2.zMR, L2.zJx, L2.zMa, L2.zJb, L2.zKb, L2.zM8, L2.zCH, L2.Y6, L2.zIs, L2.zMV, L2.zJr, L2.tBM, Option.getD_some, L2.zLG, L2.zMW, L2.zKw,   Int.reduceLT, Int.reduceLE, Int.reduceToNat, Int.reducePow, Int.reduceMul, Int.reduceSub, Int.reduceAdd, Int.reduceNeg, Int.reduceEq, Int.reduceNe, Int.reduceDiv, Int.reduceMod, Nat.reduceLT, Nat.reducePow, Nat.reduceLeDiff, Nat.reduceMul,   List.map_cons, List.map_nil, List.length_cons, List.length_nil, List.cons_append, List.nil_append, Nat.zero_add, Nat.reduceAdd, Nat.reduceSub, Nat.sub_self, List.replicate_succ, List.replicate_zero, List.append_nil, List.getElem?_cons_zero, List.getElem?_cons_succ, List.set_cons_zero, List.set_cons_succ,   Option.some.injEq, L2.V.int.injEq, L2.V.bl.injEq, L2.V.str.injEq, L2.V.ref.injEq, and_assoc, exists_and_left, exists_eq', exists_eq, exists_eq_left, exists_eq_left', decide_eq_true_eq, Bool.not_eq_true', decide_eq_false_iff_not, ↓reduceIte, Bool.false_eq_true, if_true, if_false, Bool.not_true, Bool.not_false, true_and, and_true, List.cons.injEq, Bool.true_eq_false, reduceCtorEq, decide_true, decide_false, L2.zLR, L2.zD1, L2.zBr, L2.zEK, L2.zCz, L2.zE7, L2.zCs, L2.zEg, L2.zDV, L2.zD2, L2.zBb, L2.zD5, L2.zC0, L2.zEG, L2.zBl, L2.zEP, L2.zCS, L2.YX, L2.Qt, L2.Zw, L2.JO, L2.Z0, L2.ZL, L2.WA, L2.Wj, L2.Zg, L2.JB, zEx, L2.zMQ, L2.zFf, L2.zLv, L2.zMt, L2.zIy, L2.zLH, L2.zKz, L2.zKl, L2.zK2, L2.zEv, L2.zMd, L2.zKx, L2.zH2, L2.zFt, L2.zFJ, L2.zMU, L2.zJi, L2.zLb, L2.zL9, L2.zLa, L2.zLL, L2.Wh, L2.zKs, L2.zBw, L2.zJg, L2.zK4, L2.tKM, L2.zM3, L2.zLC, L2.zIC, L2.zHx])
theorem Wd {α β:Type} {F:α->β->Prop} {a:α}:∀ {l:List α} {l':List β},Paired F (l++[a]) l'->∃ m b,l'=m++[b]/\Paired F l m/\F a b
 | [],_,.cons r .nil=>⟨[],_,rfl,.nil,r⟩
 | x::l,_,.cons (b:=b) r t=>by
  obtain⟨m,c,rfl,h1,h2⟩:=Wd (l:=l) t
  exact⟨b::m,c,rfl,.cons r h1,h2⟩
section
variable {C p:Addr} {H:Hp} {S:Sh} {xs:List V}
theorem zLA {o:Option Kd} {x:V} (h:IsKo H o x):NN x=o.isSome:=by
 unfold NN
 rw[h.non]
 cases o <;> rfl
end
theorem at0 {x:V} {xs:List V}:atI (x::xs) 0=some x:=ZA (j:=0) rfl
def zF1 (C:Addr):Sp:=fun vs H Q _=>∃ p S xs m,vs=[.ref p,.int m]/\ShAt C H p S/\H S.pr=some (.lst xs) /\
 (∀ H',(Yx S xs).filter (fun e=>decide (e.1 > m))=[]->Same H H'->Q .non H') /\
 (∀ l e t H',(Yx S xs).filter (fun e=>decide (e.1 > m))=e::l->Same H H'->H' t=some (.tup [.int e.1,e.2.1,e.2.2])->Q (.ref t) H')
section
variable {P:Program} {w:World} {K:W.Frag} {mg:Str->Option Value} {base:Heap} {a:Ad} {tb:Bool}
theorem zGm (T:Txt K mg a)(G_Hentries:FnOk P w K mg base CX0 1 a.f_Hentries a.d_Hentries Zd (Jk (cA a tb))):FnOk P w K mg base CX0 2 a.f_Hahead a.d_Hahead JK (zDO (cA a tb)):=by
 refine T.F_Hahead.ok sc_Hahead (fun vs H Q E h=>?_) (fun cdv A outer s H vs Q E hr h=>?_)
 ·obtain⟨p,S,xs,m,rfl,_⟩:=h
  rfl
 have nd:=sc_Hahead.nd
 obtain⟨p,S,xs,m,rfl,A,hx,q1,q2⟩:=h
 refine⟨_,(QB (zBS (i:=2) nd rfl (Or.inl rfl) "entry" ["number"] [1] rfl ⟨rfl,rfl,by decide +kernel,by decide +kernel,rfl,by decide +kernel,by decide +kernel,rfl,by decide +kernel⟩ rfl (WT (Q1 (pv 0) (T.cl tb) (T.M_Hentries tb) (G_Hentries.mono (by decide)) hr T.b_Hentries .nil QR)) (fun C s1 H1 fp=>(QQ WY (Qa Qs (pv 0) QC (fun _ _=>rfl)) (pv 1) (QP _))) (fun C s1 H1 fp=>(pv 0)))
 (QE (QK (WI (zDy (pv 2) (fun _=>rfl)) (Qa Qs (pv 2) (zFg zCy QC) (fun _ _=>rfl)) Qm)))),?_⟩
 have hel:(Yx S xs).length<=4096:=by
  have:=A.small
  have:=A.l2
  unfold Yx
  refine Nat.le_trans (List.length_filter_le _ _) ?_
  rw[List.length_zip]
  omega
 try walk_at "rd"
 rw[Ye A (by decide +kernel)]
 try walk_at "rd"
 refine⟨p,S,xs,rfl,A,hx,fun l ys H1 g1 nl hl pe=>?_⟩
 have pl:=Paired.length pe
 refine⟨l,rfl,⟨_,SqL.of hl⟩,Zr (xs:=ys) (fun i zs H2=>Same H1 H2/\zs.length<=i/\Paired (EntR H2) zs (((Yx S xs).take i).filter (fun e=>decide (e.1 < m)))) ⟨Same.refl H1,Nat.zero_le _,.nil⟩ (fun i zs H2 _ h=>SqL.of (h.1 _ _ hl)) (fun i zs H2 hi h=>?_) (fun i y zs H2 ey h=>?_) (fun zs H2 h=>?_)⟩
 ·have:=h.2.1;exact Qn (by omega)
 ·obtain⟨g,hz,pr⟩:=h
  obtain⟨e,ee,t,rfl,ht⟩:=Y4 pe ey
  have ht2:=g _ _ ht
  try walk_at "rd"
  rw[Q2 (v:=V.int e.1) ht2 rfl,Y0 ee,List.filter_append]
  try walk_at "rd"
  by_cases c:e.1 < m
  ·rw[if_pos c]
   have e1:[e].filter (fun e:Int × V × V=>decide (e.1 < m))=[e]:=by simp[List.filter,c]
   rw[e1]
   exact⟨g,by rw[List.length_append,List.length_singleton];omega,ZB pr ⟨t,rfl,ht2⟩⟩
  ·rw[if_neg c]
   have e1:[e].filter (fun e:Int × V × V=>decide (e.1 < m))=[]:=by simp[List.filter,c]
   rw[e1,List.append_nil]
   exact⟨g,by omega,pr⟩
 ·obtain⟨g,hz,pr⟩:=h
  intro l2 hl2
  have gl:=QH (o:=HO.lst zs) hl2
  have hu:=QF (H:=H2) (a:=l2) (o:=HO.lst zs)
  have G:=(g1.trans g).trans gl
  have pr':=Yf pr fun a _ b h=>EntR.same gl h
  rw[List.take_of_length_le (by omega)] at pr'
  generalize upd H2 l2 (HO.lst zs)=H3 at hu G pr' ⊢
  try walk_at "rd"
  refine⟨!zs.isEmpty,.inl ⟨zs,SqL.of hu,rfl⟩,?_⟩
  rcases List.eq_nil_or_concat zs with ez | ⟨zs',z,ez⟩
  ·subst ez
   generalize hE:(Yx S xs).filter (fun e=>decide (e.1 < m))=es at pr'
   cases pr'
   exact zHn (q1 H3 hE G)
  ·rw[List.concat_eq_append] at ez
   subst ez
   obtain⟨es,e,hE,_,t,rfl,ht⟩:=Wd pr'
   have ne:(!(zs'++[V.ref t]).isEmpty)=true:=by simp
   rw[ne]
   refine zMl ?_
   show ixC (V.ref l2) (V.int (-1)) _ _
   rw[QV hu (v:=V.ref t) ((zDH (c:=zs'.length) (by simp)).trans (by simp))]
   exact q2 es e t H3 hE G ht
theorem zGY (T:Txt K mg a)(G_Hentries:FnOk P w K mg base CX0 1 a.f_Hentries a.d_Hentries Zd (Jk (cA a tb))):FnOk P w K mg base CX0 2 a.f_Hafter a.d_Hafter zBW (zF1 (cA a tb)):=by
 refine T.F_Hafter.ok sc_Hafter (fun vs H Q E h=>?_) (fun cdv A outer s H vs Q E hr h=>?_)
 ·obtain⟨p,S,xs,m,rfl,_⟩:=h
  rfl
 have nd:=sc_Hafter.nd
 obtain⟨p,S,xs,m,rfl,A,hx,q1,q2⟩:=h
 refine⟨_,(QB (zBS (i:=2) nd rfl (Or.inl rfl) "entry" ["number"] [1] rfl ⟨rfl,rfl,by decide +kernel,by decide +kernel,rfl,by decide +kernel,by decide +kernel,rfl,by decide +kernel⟩ rfl (WT (Q1 (pv 0) (T.cl tb) (T.M_Hentries tb) (G_Hentries.mono (by decide)) hr T.b_Hentries .nil QR)) (fun C s1 H1 fp=>(QQ Jc (Qa Qs (pv 0) QC (fun _ _=>rfl)) (pv 1) (QP _))) (fun C s1 H1 fp=>(pv 0)))
 (QE (QK (WI (zDy (pv 2) (fun _=>rfl)) (Qa Qs (pv 2) QC (fun _ _=>rfl)) Qm)))),?_⟩
 have hel:(Yx S xs).length<=4096:=by
  have:=A.small
  have:=A.l2
  unfold Yx
  refine Nat.le_trans (List.length_filter_le _ _) ?_
  rw[List.length_zip]
  omega
 try walk_at "rd"
 rw[Ye A (by decide +kernel)]
 try walk_at "rd"
 refine⟨p,S,xs,rfl,A,hx,fun l ys H1 g1 nl hl pe=>?_⟩
 have pl:=Paired.length pe
 refine⟨l,rfl,⟨_,SqL.of hl⟩,Zr (xs:=ys) (fun i zs H2=>Same H1 H2/\zs.length<=i/\Paired (EntR H2) zs (((Yx S xs).take i).filter (fun e=>decide (e.1 > m)))) ⟨Same.refl H1,Nat.zero_le _,.nil⟩ (fun i zs H2 _ h=>SqL.of (h.1 _ _ hl)) (fun i zs H2 hi h=>?_) (fun i y zs H2 ey h=>?_) (fun zs H2 h=>?_)⟩
 ·have:=h.2.1;exact Qn (by omega)
 ·obtain⟨g,hz,pr⟩:=h
  obtain⟨e,ee,t,rfl,ht⟩:=Y4 pe ey
  have ht2:=g _ _ ht
  try walk_at "rd"
  rw[Q2 (v:=V.int e.1) ht2 rfl,Y0 ee,List.filter_append]
  try walk_at "rd"
  by_cases c:e.1 > m
  ·rw[if_pos c]
   have e1:[e].filter (fun e:Int × V × V=>decide (e.1 > m))=[e]:=by simp[List.filter,c]
   rw[e1]
   exact⟨g,by rw[List.length_append,List.length_singleton];omega,ZB pr ⟨t,rfl,ht2⟩⟩
  ·rw[if_neg c]
   have e1:[e].filter (fun e:Int × V × V=>decide (e.1 > m))=[]:=by simp[List.filter,c]
   rw[e1,List.append_nil]
   exact⟨g,by omega,pr⟩
 ·obtain⟨g,hz,pr⟩:=h
  intro l2 hl2
  have gl:=QH (o:=HO.lst zs) hl2
  have hu:=QF (H:=H2) (a:=l2) (o:=HO.lst zs)
  have G:=(g1.trans g).trans gl
  have pr':=Yf pr fun a _ b h=>EntR.same gl h
  rw[List.take_of_length_le (by omega)] at pr'
  generalize upd H2 l2 (HO.lst zs)=H3 at hu G pr' ⊢
  try walk_at "rd"
  refine⟨!zs.isEmpty,.inl ⟨zs,SqL.of hu,rfl⟩,?_⟩
  cases zs with
  | nil =>
   generalize hE:(Yx S xs).filter (fun e=>decide (e.1 > m))=es at pr'
   cases pr'
   exact zHn (q1 H3 hE G)
  | cons z zs' =>
   generalize hE:(Yx S xs).filter (fun e=>decide (e.1 > m))=es at pr'
   cases pr' with
   | cons r0 rt =>
    obtain⟨t,rfl,ht⟩:=r0
    refine zMl ?_
    show ixC (V.ref l2) (V.int 0) _ _
    rw[QV hu (v:=V.ref t) at0]
    exact q2 _ _ t H3 hE G ht
end
section
variable {P:Program} {w:World} {K:W.Frag} {mg:Str->Option Value} {base:Heap} {a:Ad} {tb:Bool}
def Far (b p:Addr) (S:Sh):Prop:=b ≠ p/\b ≠ S.pc/\b ≠ S.pr/\b ≠ S.ph/\b ≠ S.pm
def zLZ (S S':Sh):Prop:=S'.pc=S.pc/\S'.pr=S.pr/\S'.ph=S.ph/\S'.pm=S.pm/\S'.n=S.n
theorem zJC {i:Nat}:(List.replicate i true).map V.bl++[V.bl true]=V.bl true::(List.replicate i true).map V.bl:=by
 have e:[V.bl true]=[true].map V.bl:=rfl
 rw[e,← List.map_append,← List.replicate_succ',List.replicate_succ,List.map_cons]
theorem ZP {C:Addr} {H:Hp} {p b:Addr} {S:Sh} (A:ShAt C H p S) (h:H b=none):Far b p S:=by
 obtain⟨xs,h1,_⟩:=A.hr
 refine⟨fun e=>?_,fun e=>?_,fun e=>?_,fun e=>?_,fun e=>?_⟩
 ·rw[e,A.ob] at h;cases h
 ·rw[e,A.hc] at h;cases h
 ·rw[e,h1] at h;cases h
 ·rw[e,A.hh] at h;cases h
 ·rw[e,A.hm] at h;cases h
def Nk:Kd->Prop
 | .txt s=>s.length<=10
 | _=>True
def Rw (os:List (Option Kd)):Prop:=∀ k,some k∈os->k.th.ok 3=true/\Nk k
theorem Rw.snoc {os:List (Option Kd)} {k:Kd} (h:Rw os) (hk:k.th.ok 3=true) (hn:Nk k):Rw (os++[some k]):=fun k' hm=>by
 rcases List.mem_append.mp hm with z | z
 ·exact h k' z
 ·cases List.mem_singleton.mp z
  exact⟨hk,hn⟩
theorem Rw.set {os:List (Option Kd)} {i:Nat} (h:Rw os):Rw (os.set i none):=fun k hm=>(List.mem_or_eq_of_mem_set hm).elim (h k) fun z=>by cases z
theorem Rw.some {os:List (Option Kd)} (h:Rw os):Rw (Qk os):=fun k hm=>h k (List.mem_filter.mp hm).1
open Builtin.Int (intBits) in
def zFK:Sp:=fun vs H Q _=>∃ w n,vs=[.int w,.int n]/\intBits n<=2 ^ 20/\∀ v k H',Same H H'->IsK H' k v->k.deep<=3->k.th.ok 3=true->Nk k->Q v H'
open Builtin.Int (intBits) in
def Bt (n:Int):Prop:=∃ c,intBits c<=2 ^ 20/\9*n.natAbs<=c.natAbs+9
open Builtin.Int (intBits) in
theorem zFd {n y:Int} (h:Bt n) (hy:y.natAbs<=n.natAbs+100):intBits y<=2 ^ 20:=by
 obtain⟨c,h1,h2⟩:=h
 exact zB2 h1 (by omega)
open Builtin.Int (intBits) in
theorem zMn {c:Int} (h:intBits c<=2 ^ 20):Bt (c / 9):=⟨c,h,by omega⟩
theorem Jr {p:Addr} {S S':Sh} {H H':Hp} (b:But p S H H') (ad:zLZ S S'):WZ p S S' H H':=fun c o e f=>by
 obtain⟨a1,a2,a3,a4,_⟩:=ad
 obtain⟨f1,f2,f3,f4,f5⟩:=f
 exact⟨b c o e f1 f2 f3 f4 f5,f1,by rw[a1];exact f2,by rw[a2];exact f3,by rw[a3];exact f4,by rw[a4];exact f5⟩
theorem Yi {C:Addr} {H H':Hp} {p:Addr} {S S':Sh} (A:ShAt C H p S) (k:WZ p S S' H H'):TupS H H':=fun c xs e=>by
 obtain⟨ys,h1,_⟩:=A.hr
 refine (k c _ e ⟨fun z=>?_,fun z=>?_,fun z=>?_,fun z=>?_,fun z=>?_⟩).1
 ·rw[z,A.ob] at e;cases e
 ·rw[z,A.hc] at e;cases e
 ·rw[z,h1] at e;cases e
 ·rw[z,A.hh] at e;cases e
 ·rw[z,A.hm] at e;cases e
def Ab3 (S:Sh) (es:List Tr) (came:Int):Prop:=es=Y8 S.os S.ms S.hs/\came=S.ca/\Ris es/\∀ e∈es,0 < e.2.1/\e.2.1<=came
theorem Ab3.no {S:Sh} {es:List Tr} {came:Int} {C:Addr} {H:Hp} {p:Addr} (A:ShAt C H p S) (h:Ab3 S es came) {k:Kd} (e:∀ i:Nat,S.os[i]? ≠ some (some k)):∀ (j:Nat) m v,es[j]? ≠ some (k,m,v):=fun j m v hj=>by
 rw[h.1] at hj
 obtain⟨i,h1,_⟩:=zGA hj
 exact e i h1
theorem Ab3.at {S:Sh} {es:List Tr} {came:Int} {C:Addr} {H:Hp} {p:Addr} (A:ShAt C H p S) (h:Ab3 S es came) {i:Nat} {k:Kd} (hi:S.os[i]? = some (some k)) :
  ∃ (j:Nat) (m:Int) (v:V),es[j]? = some (k,m,v)/\(∀ y,Ab3 { S with hs:=S.hs.set i y } (es.set j (k,m,y)) came)/\(∀ c,Ab3 (zFo S k c i) (es.eraseIdx j) came)/\((∀ a:Nat,i < a->∀ k',S.os[a]? ≠ some (some k'))->j+1=es.length):=by
 obtain⟨h1,h2,h3,h4⟩:=h
 obtain⟨j,m,v,e1,e2,e3,e4,e5,e6⟩:=zJR hi A.l1 A.l2
 rw[← h1] at e3 e4 e5 e6
 refine⟨j,m,v,e3,fun y=>⟨(e4 y).symm,h2,zGL h3 e3,fun e he=>?_⟩,fun c=>⟨e5.symm,h2,zHF h3,fun e he=>h4 e (List.mem_of_mem_eraseIdx he)⟩,e6⟩
 rcases List.mem_or_eq_of_mem_set he with z | z
 ·exact h4 e z
 ·rw[z];have q:=h4 _ (List.mem_of_getElem? e3);exact q
theorem zM5 {C:Addr} {H:Hp} {p:Addr} {S:Sh} {xs:List V} (A:ShAt C H p S) (hr:H S.pr=some (.lst xs)):Paired (fun (e:Int × V × V) (q:Tr)=>IsK H q.1 e.2.1/\e.1=q.2.1/\e.2.2=q.2.2) (Yx S xs) (Y8 S.os S.ms S.hs):=by
 obtain⟨xs',h1,h2⟩:=A.hr
 have ex:xs'=xs:=by rw[hr] at h1;injection h1 with h1;injection h1 with h1;exact h1.symm
 subst ex
 exact zBD (H:=H) (N:=NN) (fun o x h=>zLA h) (os:=S.os) (xs:=xs') (hs:=S.hs) (ms:=S.ms) (fun i o x e1 e2=>by
  obtain⟨o2,e3,e4⟩:=h2.get e2
  rw[e1] at e3;cases e3;exact e4) h2.len A.l1 A.l2
def ValR (H:Hp) (v:V) (e:Tr):Prop:=∃ t,v=.ref t/\H t=some (.tup [.int e.2.1,e.2.2])/\Sm 1 H e.2.2 e.2.2
def TrE (H:Hp) (p:En) (e:Tr):Prop:=p.1=e.1/\ValR H p.2.2 e
theorem ValR.same {H H':Hp} (ts:TupS H H') {v:V} {e:Tr} (h:ValR H v e):ValR H' v e:=by
 obtain⟨t,e1,h1,h4⟩:=h
 exact⟨t,e1,ts _ _ h1,h4.same ts⟩
theorem Yv {H H':Hp} (ts:TupS H H') {ps:List En} {es:List Tr} (h:Paired (TrE H) ps es):Paired (TrE H') ps es:=Yf h fun _ _ _ h=>⟨h.1,h.2.same ts⟩
theorem zC9 {H:Hp} {ps:List En} {es:List Tr} (h:Paired (TrE H) ps es):ps.map (·.1)=es.map (·.1):=by
 induction h with
 | nil=>rfl
 | cons r _ ih=>rw[List.map_cons,List.map_cons,r.1,ih]
def zMg (tb:Bool) (S:Sh) (bn cp:Int):Prop:=(tb=false->bn=(S.os.length:Nat)/\cp=(2*S.n / 3:Nat))/\(tb=true->bn<=S.ca/\cp=1000)
abbrev bnL (ca we bn cp:Int):HO:=.lst [.int ca,.int (ca+we),.int bn,.int cp]
structure K2 (w:World) (a:Ad) (tb:Bool) (H:Hp) (p:Addr) (S:Sh) (d:Addr) (ps:List En) (l:Addr) (es:List Tr):Prop where
 A:ShAt (cA a tb) H p S
 ok:Rw S.os
 cn:Cnt S
 w0:0<=S.we
 hd:H d=some (dko w d ps)
 en:EnOk H ps
 ab:Ab3 S es S.ca
 tr:Paired (TrE H) ps es
 hl:∃ bn cp,H l=some (bnL S.ca S.we bn cp)/\zMg tb S bn cp
 fd:Far d p S
 fl:Far l p S
def Ya (p d l:Addr) (S S':Sh) (H H':Hp):Prop:=∀ b o,H b=some o->Far b p S->b ≠ d->b ≠ l->H' b=some o/\Far b p S'
theorem zKS {C:Addr} {H:Hp} {p b:Addr} {S:Sh} {xs:List V} (A:ShAt C H p S) (e:H b=some (.tup xs)):Far b p S:=by
 obtain⟨ys,h1,_⟩:=A.hr
 refine⟨fun z=>?_,fun z=>?_,fun z=>?_,fun z=>?_,fun z=>?_⟩
 ·rw[z,A.ob] at e;cases e
 ·rw[z,A.hc] at e;cases e
 ·rw[z,h1] at e;cases e
 ·rw[z,A.hh] at e;cases e
 ·rw[z,A.hm] at e;cases e
theorem Ql {p d l:Addr} {S:Sh} {H H':Hp} (g:Same H H'):Ya p d l S S H H':=fun b o e f _ _=>⟨g _ _ e,f⟩
theorem zAj {p d l:Addr} {S S':Sh} {H H':Hp} (k:WZ p S S' H H'):Ya p d l S S' H H':=fun b o e f _ _=>k b o e f
theorem QX {p d l:Addr} {S S1 S2:Sh} {H H1 H2:Hp} (a:Ya p d l S S1 H H1) (b:Ya p d l S1 S2 H1 H2):Ya p d l S S2 H H2:=fun c o e f n1 n2=>b c o (a c o e f n1 n2).1 (a c o e f n1 n2).2 n1 n2
theorem zAa {p d l:Addr} {S:Sh} {H:Hp} {o:HO}:Ya p d l S S H (upd H d o):=fun b u e f n1 _=>⟨by rw[QG n1];exact e,f⟩
theorem zCY {p d l:Addr} {S:Sh} {H:Hp} {o:HO}:Ya p d l S S H (upd H l o):=fun b u e f _ n2=>⟨by rw[QG n2];exact e,f⟩
theorem ShAt.far {C:Addr} {H:Hp} {p b:Addr} {S:Sh} {o':HO} (A:ShAt C H p S) (f:Far b p S) (ts:TupS H (upd H b o')):ShAt C (upd H b o') p S:=by
 obtain⟨xs,h1,h2⟩:=A.hr
 obtain⟨f1,f2,f3,f4,f5⟩:=f
 have k:∀ c o,H c=some o->b ≠ c->upd H b o' c=some o:=fun c o e n=>by rw[QG (Ne.symm n)];exact e
 exact⟨k _ _ A.ob f1,k _ _ A.hc f2,⟨xs,k _ _ h1 f3,h2.same ts⟩,k _ _ A.hh f4,k _ _ A.hm f5,A.ne,A.fm,A.s8,A.rm,A.l1,A.l2,A.dp,A.cm⟩
theorem zCk {H:Hp} {a:Addr} {w:World} {ps:List En} {o:HO} (h:H a=some (dko w a ps)):TupS H (upd H a o):=fun b xs e=>by
 rw[QG (YN e h (by intro z;cases z))];exact e
theorem K2.same {w:World} {a:Ad} {tb:Bool} {H H':Hp} {p:Addr} {S:Sh} {d:Addr} {ps:List En} {l:Addr} {es:List Tr} (k:K2 w a tb H p S d ps l es) (g:Same H H'):K2 w a tb H' p S d ps l es:=by
 obtain⟨bn,cp,h,b⟩:=k.hl
 exact⟨k.A.same g,k.ok,k.cn,k.w0,g _ _ k.hd,k.en.same g.tups,k.ab,Yv g.tups k.tr,⟨bn,cp,g _ _ h,b⟩,k.fd,k.fl⟩
theorem K2.few {w:World} {a:Ad} {tb:Bool} {H:Hp} {p:Addr} {S:Sh} {d:Addr} {ps:List En} {l:Addr} {es:List Tr} (t:K2 w a tb H p S d ps l es) (h:S.ca<=1365):YR S.os<=1365:=by
 have h1:S.ca - S.we=(YR S.os:Int):=t.cn
 have:=t.w0
 omega
theorem K2.ca0 {w:World} {a:Ad} {tb:Bool} {H:Hp} {p:Addr} {S:Sh} {d:Addr} {ps:List En} {l:Addr} {es:List Tr} (t:K2 w a tb H p S d ps l es):0<=S.ca:=by
 have h1:S.ca - S.we=(YR S.os:Int):=t.cn
 have:=t.w0
 omega
theorem K2.tups {w:World} {a:Ad} {tb:Bool} {H H':Hp} {p:Addr} {S S':Sh} {d:Addr} {ps:List En} {l:Addr} {es:List Tr} (t:K2 w a tb H p S d ps l es) (k:Ya p d l S S' H H'):TupS H H':=fun c xs e =>
 (k c _ e (zKS t.A e) (fun z=>by subst z;rw[t.hd] at e;cases e) (fun z=>by subst z;obtain⟨_,_,h,_⟩:=t.hl;rw[h] at e;cases e)).1
theorem K2.at {w:World} {a:Ad} {tb:Bool} {H:Hp} {p:Addr} {S:Sh} {d:Addr} {ps:List En} {l:Addr} {es:List Tr} {i:Nat} {k:Kd} (t:K2 w a tb H p S d ps l es) (hi:S.os[i]? = some (some k)):k∈ps.map (·.1):=by
 obtain⟨j,m,v,hj,_⟩:=Ab3.at t.A t.ab hi
 rw[zC9 t.tr]
 exact List.mem_map.mpr ⟨_,List.mem_of_getElem? hj,rfl⟩
theorem K2.no {w:World} {a:Ad} {tb:Bool} {H:Hp} {p:Addr} {S:Sh} {d:Addr} {ps:List En} {l:Addr} {es:List Tr} {k:Kd} (t:K2 w a tb H p S d ps l es) (hn:∀ i:Nat,S.os[i]? ≠ some (some k)):¬ k∈ps.map (·.1):=fun h=>by
 rw[zC9 t.tr] at h
 obtain⟨⟨k',m,v⟩,he,rfl⟩:=List.mem_map.mp h
 obtain⟨j,hj⟩:=List.getElem?_of_mem he
 exact Ab3.no t.A t.ab hn j m v hj
theorem K2.plen {w:World} {a:Ad} {tb:Bool} {H:Hp} {p:Addr} {S:Sh} {d:Addr} {ps:List En} {l:Addr} {es:List Tr} (t:K2 w a tb H p S d ps l es):ps.length=es.length/\es.length<=4096:=by
 have:=t.A.small
 have h:=zCi (os:=S.os) (hs:=S.ms.zip S.hs)
 have e:=t.ab.1
 unfold Y8 at e
 rw[← e] at h
 exact⟨Paired.length t.tr,by omega⟩
theorem zGC {ps:List En} {j:Nat} {y:V} (h:(ps.map (·.2.1))[j]? = some y):∃ p0,ps[j]? = some p0/\y=p0.2.1:=by
 rw[List.getElem?_map] at h
 cases e:ps[j]? with
 | none=>rw[e] at h;cases h
 | some p0=>rw[e] at h;exact⟨p0,rfl,(Option.some.inj h).symm⟩
theorem K2.there {w:World} {a:Ad} {tb:Bool} {H:Hp} {p:Addr} {S:Sh} {d:Addr} {ps:List En} {l:Addr} {es:List Tr} {k:Kd} (t:K2 w a tb H p S d ps l es) (h:k∈ps.map (·.1)):∃ i:Nat,S.os[i]? = some (some k):=by
 rw[zC9 t.tr] at h
 obtain⟨⟨k',m,v⟩,he,rfl⟩:=List.mem_map.mp h
 obtain⟨j,hj⟩:=List.getElem?_of_mem he
 rw[t.ab.1] at hj
 obtain⟨i,h1,_⟩:=zGA hj
 exact⟨i,h1⟩
theorem Y5 {c:Prop} [Decidable c] {A B:Prop} (h:c) (a:A):if c then A else B:=by rw[if_pos h];exact a
theorem YO {c:Prop} [Decidable c] {A B:Prop} (h:¬c) (b:B):if c then A else B:=by rw[if_neg h];exact b
theorem K2.of {w:World} {a:Ad} {tb:Bool} {H:Hp} {p:Addr} {S:Sh} {d:Addr} {ps:List En} {l:Addr} {es:List Tr} {q:Tr} (t:K2 w a tb H p S d ps l es) (h:q∈es):∃ v,atE ps q.1=some v/\ValR H v q/\q.1.deep<=3:=by
 obtain⟨j,hj⟩:=List.getElem?_of_mem h
 obtain⟨p0,hp0,r1,r2⟩:=Paired.getR t.tr hj
 have hv:=zBU t.en.nd hp0
 rw[r1] at hv
 obtain⟨i,hi⟩:=t.there (W4 hp0)
 rw[r1] at hi
 exact⟨_,hv,r2,t.A.dp _ (List.mem_of_getElem? hi)⟩
def zEW:Sp:=fun vs H Q _=>∃ n,vs=[.int n]/\∀ v H',Same H H'->Sm 1 H' v v->Q v H'
theorem zBB {α:Type}:∀ {os:List (Option Kd)} {hs:List α},hs.length=os.length->(Q8 os hs).length=YR os
 | [],[],_=>rfl
 | none::os,h::hs,e=>zBB (os:=os) (hs:=hs) (by simpa using e)
 | some k::os,h::hs,e=>congrArg (· + 1) (zBB (os:=os) (hs:=hs) (by simpa using e))
theorem K2.many {w:World} {a:Ad} {tb:Bool} {H:Hp} {p:Addr} {S:Sh} {d:Addr} {ps:List En} {l:Addr} {es:List Tr} (t:K2 w a tb H p S d ps l es):S.ca - S.we=(ps.length:Int):=by
 have h1:S.ca - S.we=(YR S.os:Int):=t.cn
 have e:es.length=YR S.os:=by
  rw[t.ab.1]
  exact zBB (by rw[List.length_zip,t.A.l1,t.A.l2];omega)
 rw[h1,(t.plen).1,e]
end
section
variable {P:Program} {w:World} {K:W.Frag} {mg:Str->Option Value} {base:Heap} {a:Ad} {tb:Bool}
theorem zIO {w:World} {a:Ad} {tb:Bool} {H H2:Hp} {p:Addr} {S S':Sh} {d:Addr} {ps:List En} {l:Addr} {es:List Tr} (kk:K2 w a tb H p S d ps l es) (kS:WZ p S S' H H2) :
  H2 d=some (dko w d ps)/\EnOk H2 ps/\Paired (TrE H2) ps es/\(∃ bn cp,H2 l=some (bnL S.ca S.we bn cp)/\zMg tb S bn cp)/\Far d p S'/\Far l p S' :=
 have ts:=Yi kk.A kS
 ⟨(kS _ _ kk.hd kk.fd).1,kk.en.same ts,Yv ts kk.tr,⟨kk.hl.choose,kk.hl.choose_spec.choose,(kS _ _ kk.hl.choose_spec.choose_spec.1 kk.fl).1,kk.hl.choose_spec.choose_spec.2⟩,(kS _ _ kk.hd kk.fd).2,(kS _ _ kk.hl.choose_spec.choose_spec.1 kk.fl).2⟩
theorem zIr {H:Hp} {ps:List En} {es:List Tr} {j:Nat} {k:Kd} {m:Int} {v:V} (ok:EnOk H ps) (h:Paired (TrE H) ps es) (hj:es[j]? = some (k,m,v)):Paired (TrE H) (ZC ps k) (es.eraseIdx j):=by
 obtain⟨p,hp,hr⟩:=Paired.getR h hj
 rw[← J6 ok.nd hp hr.1]
 exact Paired.eras j h
theorem zEO {α:Type} {e:α}:∀ {es:List α} {j:Nat},es.set j e=es.modify j (fun _=>e)
 | [],_=>by simp
 | _::_,0=>rfl
 | a::r,j+1=>congrArg (List.cons a) (zEO (es:=r) (j:=j))
theorem zLt {H:Hp} {ps:List En} {es:List Tr} {j:Nat} {k:Kd} {m:Int} {v y x u:V} (ok:EnOk H ps) (h:Paired (TrE H) ps es) (hj:es[j]? = some (k,m,v)) (hv:ValR H u (k,m,y)):Paired (TrE H) (WW ps k x u) (es.set j (k,m,y)):=by
 obtain⟨p,hp,hr⟩:=Paired.getR h hj
 have e1:p.1=k:=hr.1
 have hm:k∈ps.map (·.1):=e1 ▸ W4 hp
 unfold WW
 rw[if_pos hm,← zAm (x:=x) ok.nd hp e1,zEO]
 refine Paired.modAt j h fun q e h1 h2 h3=>⟨?_,hv⟩
 rw[hp] at h1;cases h1
 exact hr.1
theorem zKO {S:Sh} {es:List Tr} {came:Int} (A:S.hs.length=S.os.length/\S.ms.length=S.os.length) (h:Ab3 S es came) (h0:0<=came) {k:Kd} {c:Nat} {y:V}:Ab3 (Z9 S k c y) (es++[(k,came+1,y)]) (came+1):=by
 obtain⟨h1,h2,h3,h4⟩:=h
 refine⟨?_,by rw[h2];rfl,zIv h3 (fun x hx=>by have:=h4 x hx;show x.2.1 < came+1;omega),fun e he=>?_⟩
 ·show es++[(k,came+1,y)]=Y8 (S.os++[some k]) (S.ms++[S.ca+1]) (S.hs++[y])
  rw[zG9 A.1 A.2,h1,h2]
 ·rcases List.mem_append.mp he with z | z
  ·have:=h4 e z;omega
  ·rw[List.mem_singleton.mp z];show 0 < came+1/\came+1<=came+1;omega
theorem zKU {C:Addr} {H H':Hp} {p l:Addr} {S:Sh} (A:ShAt C H p S) (f:Far l p S) (kp:∀ b o,H b=some o->b ≠ l->H' b=some o) (ts:TupS H H'):ShAt C H' p S:=by
 obtain⟨xs,h1,h2⟩:=A.hr
 obtain⟨f1,f2,f3,f4,f5⟩:=f
 exact⟨kp _ _ A.ob (Ne.symm f1),kp _ _ A.hc (Ne.symm f2),⟨xs,kp _ _ h1 (Ne.symm f3),h2.same ts⟩,kp _ _ A.hh (Ne.symm f4),kp _ _ A.hm (Ne.symm f5),A.ne,A.fm,A.s8,A.rm,A.l1,A.l2,A.dp,A.cm⟩
theorem zNQ {S S1:Sh} {es:List Tr} (td:Tid S S1) (cn:Cnt S) (ab:Ab3 S es S.ca) (l1:S.hs.length=S.os.length) (l2:S.ms.length=S.os.length) (ok:Rw S.os):S1.ca=S.ca/\S1.we=S.we/\Cnt S1/\Rw S1.os/\Ab3 S1 es S1.ca/\S1.hs.length=S1.os.length/\S1.ms.length=S1.os.length:=by
 obtain⟨pc1,pr1,ph1,pm1,n',cs',rfl,s1,s2⟩:=td
 have oss:YR (Qk S.os)=YR S.os:=by unfold YR Qk;rw[List.filter_filter];congr 2;funext o;cases o <;> rfl
 obtain⟨h1,h2,h3,h4⟩:=ab
 exact⟨rfl,rfl,(show S.ca - S.we=(YR (Qk S.os):Int) by rw[oss];exact cn),ok.some,⟨(show es=Y8 (Qk S.os) (Qv S.os S.ms) (Qv S.os S.hs) by rw[zGX l1 l2];exact h1),rfl,h3,h4⟩,Yz l1,Yz l2⟩
def Up (S S':Sh):Prop:=S.ca<=S'.ca/\S.we<=S'.we
def zDL (w:World) (a:Ad):Sp:=fun vs H Q _=>∃ tb p S d ps l es x k y,vs=[.ref p,.ref d,.ref l,x,y]/\K2 w a tb H p S d ps l es/\S.ca<=800/\IsK H k x/\k.deep<=3/\k.th.ok 3=true/\Nk k/\Sm 1 H y y/\∀ S' ps' es' H',K2 w a tb H' p S' d ps' l es'->S'.ca<=S.ca+1->Up S S'->Ya p d l S S' H H'->Q (.bl true) H'
def zFx (w:World) (a:Ad):Sp:=fun vs H Q _=>∃ tb p S d ps l es x k i,vs=[.ref p,.ref d,.ref l,x]/\K2 w a tb H p S d ps l es/\IsK H k x/\S.os[(i:Nat)]? = some (some k)/\∀ S' ps' es' H',K2 w a tb H' p S' d ps' l es'->S'.ca=S.ca->Up S S'->Ya p d l S S' H H'->Q .non H'
def zGB (w:World) (a:Ad):Sp:=fun vs H Q _=>∃ tb p S d ps l es,vs=[.ref p,.ref d,.ref l]/\K2 w a tb H p S d ps l es/\∀ S' ps' es' H',K2 w a tb H' p S' d ps' l es'->S'.ca=S.ca->Up S S'->Ya p d l S S' H H'->Q .non H'
theorem zKM (T:Txt K mg a)(G_Hput:∀ tb,FnOk P w K mg base (CXe P w) 14 a.f_Hput a.d_Hput zA1 (zIq a tb)):FnOk P w K mg base CX0 15 a.f_Lput a.d_Lput zCh (zDL w a):=by
 refine T.F_Lput.ok sc_Lput (fun vs H Q E h=>?_) (fun cdv A outer s H vs Q E hr h=>?_)
 ·obtain⟨tb,p,S,d,ps,l,es,x,k,y,rfl,_⟩:=h
  rfl
 have nd:=sc_Lput.nd
 obtain⟨tb,p,S,d,ps,l,es,x,k,y,rfl,kk,c13,hk,hd,hok,hnk,hy,q⟩:=h
 obtain⟨bmF,xFull⟩:=T.x_Full
 refine⟨_,(QB (QT (i:=5) nd rfl (Or.inl rfl) Q0)
 (QB (zLX ⟨rfl,rfl,rfl⟩ (fun pl RX=>(QE (Qe (JI (pv 0) (T.cl tb) (T.M_Hput tb) ((G_Hput tb).mono (by decide)) hr T.b_Hput .nil (QA (pv 3) (QA (pv 4) QD)))))) rfl T.m_Full xFull (fun ea=>(QE (QT (i:=5) nd rfl (Or.inl rfl) Q0))))
 (QB (QS (QQ (zMO hr.units) (pv 3) (pv 1) (by with_unfolding_all rfl)) (QB (YG (YI (QA (Qa Qs (Jf hr.units (pv 1) (pv 3) (fun _ _=>rfl)) QC (fun _ _=>rfl)) (QA (pv 4) QD))) (YH (pv 1) (pv 3) (zK1 hr.units)))
 (QE (QK (zCV (pv 5))))) QN)
 (QB (QS (QQ Qy (Qa Qs (pv 2) QC (fun _ _=>rfl)) (Qa Qs (pv 2) QC (fun _ _=>rfl)) (QP _)) (QE (QK (pv 5))) QN)
 (QB (YG (QM YF (Qa Qs (pv 2) QC (fun _ _=>rfl)) QC) (YH (pv 2) QC Y2))
 (QB (YG (QM YF (Qa Qs (pv 2) QC (fun _ _=>rfl)) QC) (YH (pv 2) QC Y2))
 (QB (YG (QM YF (Qa Qs (pv 2) QC (fun _ _=>rfl)) QC) (YH (pv 2) QC Y2))
 (QB (YG (YI (QA (Qa Qs (pv 2) QC (fun _ _=>rfl)) (QA (pv 4) QD))) (YH (pv 1) (pv 3) (zK1 hr.units)))
 (QE (QK (zCV (pv 5)))))))))))),?_⟩
 have A:=kk.A
 have few:=kk.few (by omega)
 try walk_at "rd"
 rw[Ye A (by decide +kernel)]
 refine⟨p,S,x,k,y,rfl,A,kk.cn,few,hk,hd,hok,(fun i H6 hi b A6=>?pr),(fun c H6 hn hrm hc b A6=>?cm),(fun S1 c H6 htb hn hf td kS A6=>?td),fun htb hn hf ea H6 g6 he=>?fl⟩
 case pr =>
  obtain⟨j,m,v0,hj,ab1,_,_⟩:=Ab3.at A kk.ab hi
  have kS:=Jr b (S':={ S with hs:=S.hs.set i y }) ⟨rfl,rfl,rfl,rfl,rfl⟩
  have k6:=hk.same (Yi A kS)
  have y6:=hy.same (Yi A kS)
  obtain⟨b1,b2,b3,⟨bn,cp,b4,bk⟩,b5,b6⟩:=zIO kk kS
  obtain⟨p0,hp0,r1,t0,r2,r3,r4⟩:=Paired.getR b3 hj
  have r1':p0.1=k:=r1
  have hv:=zBU b2.nd hp0
  rw[r1',r2] at hv
  have hm:=kk.at hi
  have hne:d ≠ l:=YN b1 b4 (by intro z;cases z)
  refine⟨d,ps,k,rfl,b1,b2,k6,by omega,?_⟩
  rw[if_neg Bool.false_ne_true,decide_eq_true hm]
  try walk_at "rd"
  refine⟨ps,b1,b2,k,k6,by omega,_,hv,?_⟩
  rw[Q2 (v:=V.int m) r3 rfl]
  refine⟨by decide,fun t1 ht1=>?_⟩
  have g1:=QH (o:=HO.tup [V.int m,y]) ht1
  have d1:=QF (H:=H6) (a:=t1) (o:=HO.tup [V.int m,y])
  generalize upd H6 t1 (HO.tup [V.int m,y])=H7 at g1 d1 ⊢
  have k7:=k6.same g1.tups
  refine⟨d,ps,k,rfl,g1 _ _ b1,b2.same g1.tups,k7,by omega,Qn (by have:=kk.plen;omega),?_⟩
  have t5:=zCk (o:=dko w d (WW ps k x (V.ref t1))) (g1 _ _ b1)
  have e7:=b2.same g1.tups
  exact q _ _ _ _ ⟨ShAt.far (A6.same g1) b5 t5,kk.ok,kk.cn,kk.w0,QF,(e7.put (x:=x) (v:=.ref t1) k7 (by omega)).same t5,ab1 y,Yv t5 (zLt (x:=x) e7 (Yv g1.tups b3) hj (u:=.ref t1) (y:=y) ⟨t1,rfl,d1,y6.same g1.tups⟩),⟨bn,cp,by rw[QG (Ne.symm hne)];exact g1 _ _ b4,bk⟩,b5,b6⟩ (by show S.ca<=S.ca+1;omega) ⟨Int.le_refl _,Int.le_refl _⟩ (QX (zAj kS) (QX (Ql g1) zAa))
 case fl =>
  refine⟨ea,rfl,_,rfl,bmF,xFull,xFull.sub T.s_Full_Full,?_⟩
  have g7:=g6.trans (QH (o:=ExO ea (.ref a.a_Full)) he)
  try walk_at "rd"
  generalize upd H6 ea (ExO ea (.ref a.a_Full))=H7 at g7 ⊢
  have k7:=kk.same g7
  refine⟨d,ps,k,rfl,k7.hd,k7.en,hk.same g7.tups,by omega,?_⟩
  rw[if_neg Bool.false_ne_true,decide_eq_false (kk.no hn)]
  try walk_at "rd"
  obtain⟨bn,cp,h7,bk⟩:=k7.hl
  rw[QV h7 (v:=V.int bn) rfl,QV h7 (v:=V.int cp) rfl]
  try walk_at "rd"
  have:=bk.1 htb
  have:=A.rm
  refine Y5 (by omega) ?_
  exact q _ _ _ _ k7 (by omega) ⟨Int.le_refl _,Int.le_refl _⟩ (Ql g7)
 case' cm =>
  obtain⟨S1,eS,e2,e3,cn1,ok1,ab1,l1,l2,sh1⟩:∃ S1,S1=S/\S1.ca=S.ca/\S1.we=S.we/\Cnt S1/\Rw S1.os/\Ab3 S1 es S1.ca/\S1.hs.length=S1.os.length/\S1.ms.length=S1.os.length/\(tb=false->S1.os.length=S.os.length/\S1.n=S.n/\S.os.length < 2*S.n / 3):=⟨S,rfl,rfl,rfl,kk.cn,kk.ok,kk.ab,A.l1,A.l2,fun _=>⟨rfl,rfl,hrm⟩⟩
  have A7:ShAt (cA a tb) H6 p (Z9 S1 k c y):=by rw[eS];exact A6
  have k7:WZ p S (Z9 S1 k c y) H H6:=by rw[eS];exact Jr b ⟨rfl,rfl,rfl,rfl,rfl⟩
  clear b hc hrm eS
 case' td =>
  obtain⟨e2,e3,cn1,ok1,ab1,l1,l2⟩:=zNQ td kk.cn kk.ab A.l1 A.l2 kk.ok
  have sh1:tb=false->S1.os.length=S.os.length/\S1.n=S.n/\S.os.length < 2*S.n / 3:=fun z=>by rw[htb] at z;cases z
  have A7:=A6
  have k7:WZ p S (Z9 S1 k c y) H H6:=kS
  clear td hf htb kS
 all_goals
  clear A6
  have k6:=hk.same (Yi A k7)
  have y6:=hy.same (Yi A k7)
  obtain⟨b1,b2,b3,⟨bn,cp,b4,bk⟩,b5,b6⟩:=zIO kk k7
  have hne:d ≠ l:=YN b1 b4 (by intro z;cases z)
  have bne:¬ bn=cp:=by
   rcases Bool.eq_false_or_eq_true tb with z | z
   ·have:=bk.2 z;omega
   ·have:=bk.1 z;have:=sh1 z;omega
  have hm:=kk.no hn
  refine⟨d,ps,k,rfl,b1,b2,k6,by omega,?_⟩
  rw[if_neg Bool.false_ne_true,decide_eq_false hm]
  try walk_at "rd"
  rw[QV b4 (v:=V.int bn) rfl,QV b4 (v:=V.int cp) rfl]
  try walk_at "rd"
  refine YO bne ?_
  rw[QV b4 (v:=V.int S.ca) rfl]
  refine⟨_,rfl,?_⟩
  rw[YD b4 (k:=0) (j:=0) rfl (by show 0 < 4;decide)]
  have u1:=QF (H:=H6) (a:=l) (o:=HO.lst [.int (S.ca+1),.int (S.ca+S.we),.int bn,.int cp])
  show ixC (V.ref l) (V.int 1) (upd H6 l (HO.lst [.int (S.ca+1),.int (S.ca+S.we),.int bn,.int cp])) _
  rw[QV u1 (v:=V.int (S.ca+S.we)) rfl]
  refine⟨_,rfl,?_⟩
  rw[YD u1 (k:=1) (j:=1) rfl (by show 1 < 4;decide),Q3]
  have u2:=QF (H:=H6) (a:=l) (o:=HO.lst [.int (S.ca+1),.int (S.ca+S.we+1),.int bn,.int cp])
  show ixC (V.ref l) (V.int 2) (upd H6 l (HO.lst [.int (S.ca+1),.int (S.ca+S.we+1),.int bn,.int cp])) _
  rw[QV u2 (v:=V.int bn) rfl]
  refine⟨_,rfl,?_⟩
  rw[YD u2 (k:=2) (j:=2) rfl (by show 2 < 4;decide),Q3]
  have u3:=QF (H:=H6) (a:=l) (o:=HO.lst [.int (S.ca+1),.int (S.ca+S.we+1),.int (bn+1),.int cp])
  have t3:=Q7 (o:=HO.lst [.int (S.ca+1),.int (S.ca+S.we+1),.int (bn+1),.int cp]) b4
  have b8:upd H6 l (HO.lst [.int (S.ca+1),.int (S.ca+S.we+1),.int (bn+1),.int cp]) d=some (dko w d ps):=by rw[QG hne];exact b1
  have k8:Ya p d l S (Z9 S1 k c y) H (upd H6 l (HO.lst [.int (S.ca+1),.int (S.ca+S.we+1),.int (bn+1),.int cp])):=QX (zAj k7) zCY
  have A8:=ShAt.far A7 b6 t3
  show ixC (V.ref l) (V.int 0) (upd H6 l (HO.lst [.int (S.ca+1),.int (S.ca+S.we+1),.int (bn+1),.int cp])) _
  generalize upd H6 l (HO.lst [.int (S.ca+1),.int (S.ca+S.we+1),.int (bn+1),.int cp])=H8 at u3 t3 b8 k8 A8 ⊢
  rw[QV u3 (v:=V.int (S.ca+1)) rfl]
  refine⟨by decide,fun t ht=>?_⟩
  have g9:=QH (o:=HO.tup [V.int (S.ca+1),y]) ht
  have d9:=QF (H:=H8) (a:=t) (o:=HO.tup [V.int (S.ca+1),y])
  generalize upd H8 t (HO.tup [V.int (S.ca+1),y])=H9 at g9 d9 ⊢
  have t9:=t3.trans g9.tups
  have t5:=zCk (o:=dko w d (WW ps k x (V.ref t))) (g9 _ _ b8)
  refine⟨d,ps,k,rfl,g9 _ _ b8,b2.same t9,k6.same t9,by omega,Qn (by have:=kk.plen;omega),?_⟩
  have tr5:Paired (TrE H9) (WW ps k x (V.ref t)) (es++[(k,S.ca+1,y)]):=by unfold WW;rw[if_neg hm];exact Paired.snoc ⟨rfl,t,rfl,d9,y6.same t9⟩ (Yv t9 b3)
  have hw:=kk.w0
  have hcn:S.ca - S.we=(YR S.os:Int):=kk.cn
  rw[← e2] at tr5 u3
  refine q _ _ _ _ ⟨ShAt.far (A8.same g9) b5 t5,ok1.snoc hok hnk,?_,(show 0<=S1.we by omega),QF,((b2.same t9).put (x:=x) (v:=.ref t) (k6.same t9) (by omega)).same t5,zKO ⟨l1,l2⟩ ab1 (by omega),Yv t5 tr5,⟨bn+1,cp,?_,?_⟩,b5,b6⟩ (by show S1.ca+1<=S.ca+1;omega) ⟨by show S.ca<=S1.ca+1;omega,by show S.we<=S1.we;omega⟩ (QX k8 (QX (Ql g9) zAa))
  ·have h1:S1.ca - S1.we=(YR S1.os:Int):=cn1
   show S1.ca+1 - S1.we=(YR (S1.os++[some k]):Int)
   rw[zGQ];omega
  ·rw[QG (Ne.symm hne),g9 _ _ u3]
   show _=some (bnL (S1.ca+1) S1.we (bn+1) cp)
   unfold bnL
   rw[e2,e3,show S.ca+S.we+1=S.ca+1+S.we by omega]
  ·refine⟨fun z=>?_,fun z=>?_⟩
   ·have:=bk.1 z
    have:=sh1 z
    show bn+1=(((S1.os++[some k]).length:Nat):Int)/\cp=((2*S1.n / 3:Nat):Int)
    rw[List.length_append,List.length_singleton,(sh1 z).2.1]
    omega
   ·have:=bk.2 z
    show bn+1<=S1.ca+1/\cp=1000
    omega
end
def zIa (a:Ad):Sp:=fun vs H Q _=>∃ tb x dx fs p S,vs=[.ref x]/\H x=some (.ins a.a_Walk dx fs)/\fs.lookup ("book" : Str)=some (V.ref p)/\ShAt (cA a tb) H p S/\∀ t H',Same H H'->H t=none->H' t=some (.tup [.int S.ca,.int S.we])->Q (.ref t) H'
def nxE (bk:Bool) (n:Int) (es:List (Int × V × V)):Option (Int × V × V):=if bk=true then (es.filter fun e=>decide (e.1 < n)).getLast? else (es.filter fun e=>decide (e.1 > n)).head?
def zKm (a:Ad):Sp:=fun vs H Q _=>∃ tb x p W S xs,vs=[.ref x]/\WkAt a.a_Walk H x p W/\ShAt (cA a tb) H p S/\H S.pr=some (.lst xs) /\
 (nxE W.bk W.la (Yx S xs)=none->∀ H',Same H H'->Q .non H')/\∀ e t H',nxE W.bk W.la (Yx S xs)=some e->Same H H'->H' t=some (.tup [.int e.1,e.2.1,e.2.2])->Q (.ref t) H'
def zF3 (a:Ad):Sp:=fun vs H Q _=>∃ tb x dx p S bk st,vs=[.ref x,.ref p,.bl bk,.bl st]/\H x=some (.ins a.a_Walk dx [])/\ShAt (cA a tb) H p S /\
 ∀ W H',But1 x H H'->WkAt a.a_Walk H' x p W->W.bk=bk->W.st=st->W.ov=false->W.la=(if bk=true then S.ca+1 else 0)->W.ca=S.ca->W.we=S.we->Q .non H'
section
variable {K:W.Frag} {mg:Str->Option Value} {a:Ad} {H:Hp} {Q:VK} {N:Hp->Prop} {x p:Addr} {W:Wk}
theorem zIR (T:Txt K mg a) (A:WkAt a.a_Walk H x p W):ZM K "book" (.ref x) H Q=Q (.ref p) H:=Qc A.ob T.cl_Walk T.n_Walk_book zFr
theorem zMH (T:Txt K mg a) (A:WkAt a.a_Walk H x p W):ZM K "back" (.ref x) H Q=Q (.bl W.bk) H:=Qc A.ob T.cl_Walk T.n_Walk_back zKk
theorem zIh (T:Txt K mg a) (A:WkAt a.a_Walk H x p W):ZM K "strict" (.ref x) H Q=Q (.bl W.st) H:=Qc A.ob T.cl_Walk T.n_Walk_strict zG6
theorem zGN (T:Txt K mg a) (A:WkAt a.a_Walk H x p W):ZM K "changes" (.ref x) H Q=Q (.ref W.pt) H:=Qc A.ob T.cl_Walk T.n_Walk_changes zEf
theorem zHz (T:Txt K mg a) (A:WkAt a.a_Walk H x p W):ZM K "last" (.ref x) H Q=Q (.int W.la) H:=Qc A.ob T.cl_Walk T.n_Walk_last zKK
theorem zLr (T:Txt K mg a) (A:WkAt a.a_Walk H x p W):ZM K "over" (.ref x) H Q=Q (.bl W.ov) H:=Qc A.ob T.cl_Walk T.n_Walk_over zKN
theorem zHe {m:Str} (A:WkAt a.a_Walk H x p W) (h:wkK.contains m=false):zBC a.a_Walk m (.ref x) H N=N H:=ZQ A.ob (zMk h)
end
def zF6 (a:Ad):Sp:=fun vs H Q E=>∃ tb x p W S xs,vs=[.ref x]/\WkAt a.a_Walk H x p W/\ShAt (cA a tb) H p S/\H S.pr=some (.lst xs)/\W.st=true /\
 (W.ov=true->Q .non H)/\(W.ov=false->W.ca=S.ca/\W.we=S.we->nxE W.bk W.la (Yx S xs)=none->∀ H',But1 x H H'->WkAt a.a_Walk H' x p { W with ov:=true }->Q .non H') /\
 (W.ov=false->W.ca=S.ca/\W.we=S.we->∀ e t H',nxE W.bk W.la (Yx S xs)=some e->But1 x H H'->WkAt a.a_Walk H' x p { W with la:=e.1 }->H' t=some (.tup [e.2.1,e.2.2])->Q (.ref t) H') /\
 (W.ov=false->¬(W.ca=S.ca/\W.we=S.we)->∀ ea H',Same H H'->H' ea=none->E (.ref a.a_Broken) (some ea) H')
section
variable {P:Program} {w:World} {K:W.Frag} {mg:Str->Option Value} {base:Heap} {a:Ad}
theorem WV (T:Txt K mg a)(G_Hcounts:∀ tb,FnOk P w K mg base CX0 2 a.f_Hcounts a.d_Hcounts J1 (zDw (cA a tb))):FnOk P w K mg base CX0 3 a.f_Walk_changes_now a.d_Walk_changes_now Q9 (zIa a):=by
 refine T.F_Walk_changes_now.ok sc_Walk_changes_now (fun vs H Q E h=>?_) (fun cdv A outer s H vs Q E hr h=>?_)
 ·obtain⟨tb,x,dx,fs,p,S,rfl,_⟩:=h
  rfl
 have nd:=sc_Walk_changes_now.nd
 obtain⟨tb,x,dx,fs,p,S,rfl,hx,hl,A,q⟩:=h
 refine⟨_,(QE (QK (zDd zL6 (Q1 (QU (pv 0) rfl) (T.cl tb) (T.M_Hcounts tb) ((G_Hcounts tb).mono (by decide)) hr T.b_Hcounts .nil QR) (zAe QC) (zAe QC)))),?_⟩
 try walk_at "rd"
 rw[Qc hx T.cl_Walk T.n_Walk_book hl,Ye A (by decide +kernel)]
 refine⟨p,S,rfl,A,fun t ht=>?_⟩
 have g:=QH (o:=HO.tup [.int (S.ca - S.we),.int S.ca,.int S.we,.int S.ti,.int S.mo]) ht
 have hu:=QF (H:=H) (a:=t) (o:=HO.tup [.int (S.ca - S.we),.int S.ca,.int S.we,.int S.ti,.int S.mo])
 generalize upd H t (HO.tup [.int (S.ca - S.we),.int S.ca,.int S.we,.int S.ti,.int S.mo])=H1 at g hu ⊢
 refine⟨t,_,rfl,SqT.of hu,(by show ¬(HT.sIx 5 0 (some 1)=0/\HT.sIx 5 5 (some 3)=5);decide),fun t2 ht2=>?_⟩
 exact q t2 _ (g.trans (QH ht2)) (g.free ht2) QF
theorem W9 (T:Txt K mg a)(G_Hahead:∀ tb,FnOk P w K mg base CX0 2 a.f_Hahead a.d_Hahead JK (zDO (cA a tb)))(G_Hafter:∀ tb,FnOk P w K mg base CX0 2 a.f_Hafter a.d_Hafter zBW (zF1 (cA a tb))):FnOk P w K mg base CX0 3 a.f_Walk_next_entry a.d_Walk_next_entry YY (zKm a):=by
 refine T.F_Walk_next_entry.ok sc_Walk_next_entry (fun vs H Q E h=>?_) (fun cdv A outer s H vs Q E hr h=>?_)
 ·obtain⟨tb,x,p,W,S,xs,rfl,_⟩:=h
  rfl
 have nd:=sc_Walk_next_entry.nd
 obtain⟨tb,x,p,W,S,xs,rfl,A,AS,hr2,q1,q2⟩:=h
 refine⟨_,(QE (QK (WI (QW (QU (pv 0) rfl)) (Qq (QU (pv 0) rfl) (T.cl tb) (T.M_Hahead tb) ((G_Hahead tb).mono (by decide)) hr T.b_Hahead .nil QR (QA (QU (pv 0) rfl) QD)) (Qq (QU (pv 0) rfl) (T.cl tb) (T.M_Hafter tb) ((G_Hafter tb).mono (by decide)) hr T.b_Hafter .nil QR (QA (QU (pv 0) rfl) QD))))),?_⟩
 try walk_at "rd"
 rw[zMH T A]
 refine⟨_,rfl,?_⟩
 unfold nxE at q1 q2
 refine YZ (fun c=>?_) (fun c=>?_)
 ·rw[zIR T A,Ye AS (by decide +kernel),zHz T A]
  rw[if_pos c] at q1 q2
  refine⟨p,S,xs,_,rfl,AS,hr2,fun H1 e1 g1=>?_,fun l e t H1 e1 g1 ht=>?_⟩
  ·exact q1 (by rw[e1];rfl) H1 g1
  ·exact q2 e t H1 (by rw[e1,List.getLast?_append];rfl) g1 ht
 ·rw[zIR T A,Ye AS (by decide +kernel),zHz T A]
  rw[if_neg c] at q1 q2
  refine⟨p,S,xs,_,rfl,AS,hr2,fun H1 e1 g1=>?_,fun l e t H1 e1 g1 ht=>?_⟩
  ·exact q1 (by rw[e1];rfl) H1 g1
  ·exact q2 e t H1 (by rw[e1];rfl) g1 ht
theorem zC5 (T:Txt K mg a)(G_Walk_changes_now:FnOk P w K mg base CX0 3 a.f_Walk_changes_now a.d_Walk_changes_now Q9 (zIa a))(G_Walk_next_entry:FnOk P w K mg base CX0 3 a.f_Walk_next_entry a.d_Walk_next_entry YY (zKm a)):FnOk P w K mg base (CXe P w) 5 a.f_Walk_step a.d_Walk_step Z8 (zF6 a):=by
 refine T.F_Walk_step.okE sc_Walk_step (fun vs H Q E h=>?_) (fun cdv A outer s H vs Q E hr h=>?_)
 ·obtain⟨tb,x,p,W,S,xs,rfl,_⟩:=h
  rfl
 have nd:=sc_Walk_step.nd
 obtain⟨tb,x,p,W,S,xs,rfl,A,AS,hr2,hst,q0,q1,q2,qB⟩:=h
 obtain⟨bmB,xB⟩:=T.x_Broken
 refine⟨_,(QB (QS (QW (QU (pv 0) rfl)) (QE (QK Qm)) QN)
 (QB (QS (PW.pt (Jp (QW (QU (pv 0) rfl)) (WK (QQ (zLk hr.units) (Q1 (pv 0) T.cl_Walk T.M_Walk_changes_now (G_Walk_changes_now.mono (by decide)) hr T.b_Walk_changes_now .nil QR) (QU (pv 0) rfl) (QP _))))) (QE (ZR hr.hd rfl T.m_Broken xB (QA YL QD))) QN)
 (QB (QT (i:=1) nd rfl (Or.inl rfl) (Q1 (pv 0) T.cl_Walk T.M_Walk_next_entry (G_Walk_next_entry.mono (by decide)) hr T.b_Walk_next_entry .nil QR))
 (QB (QS (QQ ZI (pv 1) Qm (QP _)) (QB (Q4 (pv 0) Q0 rfl)
 (QE (QK Qm))) QN)
 (QB (Q4 (pv 0) (Qa Qs (pv 1) QC (fun _ _=>rfl)) rfl)
 (QE (QK (YI (QA (Qa Qs (pv 1) QC (fun _ _=>rfl)) (QA (Qa Qs (pv 1) QC (fun _ _=>rfl)) QD)))))))))),?_⟩
 try walk_at "rd"
 rw[zLr T A]
 refine⟨_,rfl,?_⟩
 rcases Bool.eq_false_or_eq_true W.ov with ov | ov
 ·rw[if_pos ov]
  exact q0 ov
 rw[if_neg (by rw[ov];decide)]
 rw[zIh T A]
 refine⟨_,rfl,?_⟩
 have st:=hst
 rw[if_pos st,zHe A (by decide +kernel)]
 refine⟨tb,x,_,_,p,S,rfl,A.ob,zFr,AS,fun t H1 g1 nt ht=>?_⟩
 have A1:=A.same g1
 show ZM K ("changes" : Str) (V.ref x) H1 _
 rw[zGN T A1]
 refine⟨t,W.pt,_,_,_,_,rfl,rfl,ht,A1.ch,_,rfl,?_⟩
 by_cases z:W.ca=S.ca/\W.we=S.we
 case neg =>
  rw[if_pos (by simp;omega)]
  try walk_at "rd"
  exact⟨by decide,fun ea he=>qB ov z ea H1 g1 he⟩
 obtain⟨s1,s2⟩:=z
 rw[if_neg (by rw[s1,s2];simp),zHe A1 (by decide +kernel)]
 refine⟨tb,x,p,W,S,xs,rfl,A1,AS.same g1,g1 _ _ hr2,fun e1 H2 g2=>?_,fun e t H2 e1 g2 ht=>?_⟩
 ·have A2:=A1.same g2
  try walk_at "rd"
  rw[Qp A2.ob T.cl_Walk T.n_Walk_over zI9,zDU]
  exact q1 ov ⟨s1,s2⟩ e1 _ (fun b o e n=>by rw[QG n];exact (g1.trans g2) _ _ e) ⟨QF,by rw[QG A2.nept];exact A2.ch⟩
 ·have A2:=A1.same g2
  have hn:t ≠ x:=fun z=>by rw[z,A2.ob] at ht;cases ht
  try walk_at "rd"
  rw[Q2 (v:=V.int e.1) ht rfl,Qp A2.ob T.cl_Walk T.n_Walk_last zI9,zDm]
  have ob3:=QF (H:=H2) (a:=x) (o:=HO.ins a.a_Walk W.dx (wkF p W.bk W.st W.pt e.1 W.ov))
  have ch3:upd H2 x (HO.ins a.a_Walk W.dx (wkF p W.bk W.st W.pt e.1 W.ov)) W.pt=some (.tup [.int W.ca,.int W.we]):=by rw[QG A2.nept];exact A2.ch
  have ht3:upd H2 x (HO.ins a.a_Walk W.dx (wkF p W.bk W.st W.pt e.1 W.ov)) t=some (.tup [.int e.1,e.2.1,e.2.2]):=by rw[QG hn];exact ht
  have b3:But1 x H (upd H2 x (HO.ins a.a_Walk W.dx (wkF p W.bk W.st W.pt e.1 W.ov))):=fun b o e n=>by rw[QG n];exact (g1.trans g2) _ _ e
  generalize upd H2 x (HO.ins a.a_Walk W.dx (wkF p W.bk W.st W.pt e.1 W.ov))=H3 at ob3 ch3 ht3 b3 ⊢
  try walk_at "rd"
  rw[Q2 (v:=e.2.1) ht3 rfl,Q2 (v:=e.2.2) ht3 rfl]
  refine⟨by decide,fun t2 ht2=>?_⟩
  have g4:=QH (o:=HO.tup [e.2.1,e.2.2]) ht2
  exact q2 ov ⟨s1,s2⟩ e t2 _ e1 (b3.trans g4.but1) (WkAt.same (W:={ W with la:=e.1 }) ⟨ob3,ch3⟩ g4) QF
theorem J8 (T:Txt K mg a)(G_Walk_changes_now:FnOk P w K mg base CX0 3 a.f_Walk_changes_now a.d_Walk_changes_now Q9 (zIa a)):FnOk P w K mg base CX0 4 a.f_Walk___init__ a.d_Walk___init__ YB (zF3 a):=by
 refine T.F_Walk___init__.ok sc_Walk___init__ (fun vs H Q E h=>?_) (fun cdv A outer s H vs Q E hr h=>?_)
 ·obtain⟨tb,x,dx,p,S,bk,st,rfl,_⟩:=h
  rfl
 have nd:=sc_Walk___init__.nd
 obtain⟨tb,x,dx,p,S,bk,st,rfl,hx,A,q⟩:=h
 refine⟨_,(QB (Q4 (pv 0) (pv 1) rfl)
 (QB (Q4 (pv 0) (pv 2) rfl)
 (QB (Q4 (pv 0) (pv 3) rfl)
 (QB (Q4 (pv 0) (Q1 (pv 0) T.cl_Walk T.M_Walk_changes_now (G_Walk_changes_now.mono (by decide)) hr T.b_Walk_changes_now .nil QR) rfl)
 (QB (Q4 (pv 0) (WI (QW (pv 2)) (QM YF (Qa Qs (QU (pv 0) rfl) QC (fun _ _=>rfl)) QC) QC) rfl)
 (QE (Q4 (pv 0) Q0 rfl))))))),?_⟩
 try walk_at "rd"
 rw[Qp hx T.cl_Walk T.n_Walk_book (by show 0 < 1000;decide),zKI]
 try walk_at "rd"
 rw[Qp QF T.cl_Walk T.n_Walk_back (by show 1 < 1000;decide),Q3,zKi]
 try walk_at "rd"
 rw[Qp QF T.cl_Walk T.n_Walk_strict (by show 2 < 1000;decide),Q3,zKH]
 have ob3:=QF (H:=H) (a:=x) (o:=HO.ins a.a_Walk dx (wk3 p bk st))
 have b3:But1 x H (upd H x (HO.ins a.a_Walk dx (wk3 p bk st))):=fun b o e n=>by rw[QG n];exact e
 have A3:=A.but0 hx (by show 0 ≠ 9;decide) b3
 generalize upd H x (HO.ins a.a_Walk dx (wk3 p bk st))=H3 at ob3 b3 A3 ⊢
 try walk_at "rd"
 rw[ZQ ob3 zLo]
 refine⟨tb,x,dx,_,p,S,rfl,ob3,zIE,A3,fun t H4 g4 nt ht=>?_⟩
 have ob4:=g4 _ _ ob3
 have hn:t ≠ x:=fun z=>by rw[z,ob4] at ht;cases ht
 try walk_at "rd"
 rw[Qp ob4 T.cl_Walk T.n_Walk_changes zJc,zJ2]
 have ob5:=QF (H:=H4) (a:=x) (o:=HO.ins a.a_Walk dx (wk4 p bk st t))
 have b5:But1 x H (upd H4 x (HO.ins a.a_Walk dx (wk4 p bk st t))):=fun b o e n=>by rw[QG n];exact g4 _ _ (b3 _ _ e n)
 have ht5:upd H4 x (HO.ins a.a_Walk dx (wk4 p bk st t)) t=some (.tup [.int S.ca,.int S.we]):=by rw[QG hn];exact ht
 generalize upd H4 x (HO.ins a.a_Walk dx (wk4 p bk st t))=H5 at ob5 b5 ht5 ⊢
 try walk_at "rd"
 cases bk
 case' false=>(try walk_at "rd")
 case' true =>
  try walk_at "rd"
  rw[Qc ob5 T.cl_Walk T.n_Walk_changes zDt,Q2 (v:=V.int S.ca) ht5 rfl]
  refine⟨_,rfl,?_⟩
 all_goals
  rw[Qp ob5 T.cl_Walk T.n_Walk_last zJ9,zJn]
  try walk_at "rd"
  rw[Qp QF T.cl_Walk T.n_Walk_over zJd,zJO,Q3]
  exact q ⟨dx,t,_,st,false,_,S.ca,S.we⟩ _ (fun b o e n=>by rw[QG n];exact b5 _ _ e n) ⟨QF,by show upd H5 x _ t=_;rw[QG hn];exact ht5⟩ rfl rfl rfl rfl rfl rfl
end
section
variable {P:Program} {w:World} {K:W.Frag} {mg:Str->Option Value} {base:Heap} {a:Ad} {tb:Bool}
def pb (bk:Bool) (n m:Int):Bool:=if bk=true then decide (m < n) else decide (m > n)
def nxT (bk:Bool) (n:Int) (es:List Tr):Option Tr:=(if bk=true then es.reverse else es).find? fun e=>pb bk n e.2.1
theorem Paired.rev {α β:Type} {R:α->β->Prop}:∀ {l:List α} {m:List β},Paired R l m->Paired R l.reverse m.reverse
 | _,_,.nil=>.nil
 | _,_,.cons r t=>by rw[List.reverse_cons,List.reverse_cons];exact Paired.snoc r (Paired.rev t)
theorem Paired.find {α β:Type} {R:α->β->Prop} {f:α->Bool} {g:β->Bool} (h:∀ a b,R a b->f a=g b):∀ {l:List α} {m:List β},Paired R l m->(l.find? f=none/\m.find? g=none)\/∃ a b,l.find? f=some a/\m.find? g=some b/\R a b
 | _,_,.nil=>.inl ⟨rfl,rfl⟩
 | _,_,.cons (a:=a) (b:=b) r t=>by
  have e:=h _ _ r
  rw[List.find?_cons,List.find?_cons,← e]
  cases f a with
  | true=>exact .inr ⟨_,_,rfl,rfl,r⟩
  | false=>exact Paired.find h t
theorem zLm {bk:Bool} {n:Int} {es:List (Int × V × V)}:nxE bk n es=(if bk=true then es.reverse else es).find? fun e=>pb bk n e.1:=by
 cases bk
 ·show (es.filter fun e=>decide (e.1 > n)).head? = es.find? _
  rw[List.head?_filter]
  rfl
 ·show (es.filter fun e=>decide (e.1 < n)).getLast? = es.reverse.find? _
  rw[List.getLast?_eq_head?_reverse,← List.filter_reverse,List.head?_filter]
  rfl
theorem zF0 {C:Addr} {H:Hp} {p:Addr} {S:Sh} {xs:List V} {es:List Tr} {bk:Bool} {n:Int} (A:ShAt C H p S) (hr:H S.pr=some (.lst xs)) (he:es=Y8 S.os S.ms S.hs) :
  (nxE bk n (Yx S xs)=none/\nxT bk n es=none)\/∃ e q,nxE bk n (Yx S xs)=some e/\nxT bk n es=some q/\IsK H q.1 e.2.1/\e.1=q.2.1/\e.2.2=q.2.2:=by
 have pr:=zM5 A hr
 rw[← he] at pr
 have pr2:Paired (fun (e:Int × V × V) (q:Tr)=>IsK H q.1 e.2.1/\e.1=q.2.1/\e.2.2=q.2.2) (if bk=true then (Yx S xs).reverse else Yx S xs) (if bk=true then es.reverse else es):=by
  cases bk
  ·exact pr
  ·exact Paired.rev pr
 rw[zLm]
 unfold nxT
 exact Paired.find (fun e q h=>by rw[h.2.1]) pr2
theorem zJs {bk:Bool} {n:Int} {es:List Tr} {q:Tr} (h:nxT bk n es=some q):q∈es/\pb bk n q.2.1=true:=by
 unfold nxT at h
 refine⟨?_,(List.find?_some h:_)⟩
 have:=List.mem_of_find?_eq_some h
 cases bk
 ·exact this
 ·exact List.mem_reverse.mp this
def zKy (w:World) (a:Ad):Sp:=fun vs H Q _=>∃ tb p S d ps l es bk la,vs=[.ref d,.bl bk,.int la]/\K2 w a tb H p S d ps l es /\
 (nxT bk la es=none->∀ H',Same H H'->Q .non H')/\∀ q y H',nxT bk la es=some q->Same H H'->IsK H' q.1 y->Q y H'
def zMv (H1:Hp) (bk:Bool) (la:Int) (ez:List Tr) (F:Option V->L2.St) (i:Nat) (σ:L2.St) (H':Hp):Prop:=∃ q1,H'=H1/\(∀ (j:Nat) e,j < i->ez[j]? = some e->pb bk la e.2.1=false)/\σ=F q1
theorem zCE {ez:List Tr} {f:Tr->Bool} (h:∀ (j:Nat) e,j < ez.length->ez[j]? = some e->f e=false):ez.find? f=none:=by
 rw[List.find?_eq_none]
 intro e he
 obtain⟨j,hj⟩:=List.getElem?_of_mem he
 rw[h j e (List.getElem?_eq_some_iff.mp hj).1 hj]
 decide
theorem zCM {f:Tr->Bool}:∀ {ez:List Tr} {i:Nat} {e:Tr},ez[i]? = some e->f e=true->(∀ (j:Nat) e,j < i->ez[j]? = some e->f e=false)->ez.find? f=some e
 | [],i,e,h,_,_=>by simp at h
 | b::r,0,e,h,he,_=>by cases h;rw[List.find?_cons,he]
 | b::r,i+1,e,h,he,hb=>by
  rw[List.find?_cons,hb 0 b (by omega) rfl]
  exact zCM (ez:=r) (i:=i) h he fun j e hj he=>hb (j+1) e (by omega) he
theorem zKD (T:Txt K mg a):FnOk P w K mg base CX0 1 a.f_Ldue a.d_Ldue zEu (zKy w a):=by
 refine T.F_Ldue.ok sc_Ldue (fun vs H Q E h=>?_) (fun cdv A outer s H vs Q E hr h=>?_)
 ·obtain⟨tb,p,S,d,ps,l,es,bk,la,rfl,_⟩:=h
  rfl
 have nd:=sc_Ldue.nd
 obtain⟨tb,p,S,d,ps,l,es,bk,la,rfl,kk,q1,q2⟩:=h
 refine⟨_,(QB (QT (i:=3) nd rfl (Or.inl rfl) (zCF (zBV rfl) rfl T.z_list boot_list (QA (pv 0) QD)))
 (QB (QS (QW (pv 1)) (QE (QT (i:=3) nd rfl (Or.inl rfl) (zDY rfl rfl T.z_list rfl T.z_reversed (pv 3)))) QN)
 (QB (Zj PassesOwn.never rfl (WT (pv 3)) (YU (i:=4) nd rfl (Or.inl rfl)) (QE (QS (PW.pt (Ji (PW.pt (Jp (QW (pv 1)) (WK (QQ WY (Qa Qs (Jf hr.units (pv 0) (pv 4) (fun _ _=>rfl)) QC (fun _ _=>rfl)) (pv 2) (QP _))))) (Wt (PW.pt (Jp (Ww (QW (pv 1))) (WK (QQ Jc (Qa Qs (Jf hr.units (pv 0) (pv 4) (fun _ _=>rfl)) QC (fun _ _=>rfl)) (pv 2) (QP _)))))))) (QE (QK (pv 4))) QN)))
 (QE (QK Qm))))),?_⟩
 try walk_at "rd"
 refine⟨d,ps,rfl,kk.hd,fun lr hlr=>?_⟩
 have v1:=QH (o:=HO.lst (ps.map (·.2.1))) hlr
 have hr1:=QF (H:=H) (a:=lr) (o:=HO.lst (ps.map (·.2.1)))
 have k1:=kk.same v1
 try walk_at "rd"
 generalize upd H lr (HO.lst (ps.map (·.2.1)))=H1 at v1 hr1 k1 ⊢
 cases bk
 case false =>
  try walk_at "rd"
  obtain⟨lz,H2,G2,k2,pz,ez,pr,mem,nx,hz,e1,e2⟩:∃ lz H2,Same H H2/\K2 w a tb H2 p S d ps l es/\∃ pz ez,Paired (TrE H2) pz ez/\(∀ p0∈pz,p0∈ps)/\nxT false la es=ez.find? (fun e=>pb false la e.2.1)/\H2 lz=some (.lst (pz.map (·.2.1)))/\lz=lr/\H2=H1:=⟨lr,H1,v1,k1,ps,es,k1.tr,fun _ h=>h,rfl,hr1,rfl,rfl⟩
  rw[← e1,← e2]
  refine⟨⟨_,SqL.of hz⟩,Jz (xs:=pz.map (·.2.1)) (zMv H2 false la ez fun u=>[some (.ref d),some (.bl false),some (.int la),some (.ref lz),u]) ⟨_,rfl,fun j e h=>by omega,rfl⟩ (fun i σ H' _ h=>by obtain⟨_,e,_⟩:=h;rw[e];exact SqL.of hz) (fun i y σ H' ey h=>?_) (fun σ H' h=>?_)⟩
  ·obtain⟨u,eH,hb,rfl⟩:=h
   subst eH
   obtain⟨p0,hp0,rfl⟩:=zGC ey
   obtain⟨e,he,r1,t0,r2,r3,r4⟩:=Paired.getL pr hp0
   obtain⟨j,hj⟩:=List.getElem?_of_mem (mem p0 (List.mem_of_getElem? hp0))
   have hat:=zBU k2.en.nd hj
   have his:=k2.en.is p0 (List.mem_of_getElem? hj)
   try walk_at "rd"
   refine⟨ps,k2.hd,k2.en,_,his.1,his.2,_,hat,?_⟩
   rw[r2,Q2 (v:=V.int e.2.1) r3 rfl]
   refine⟨_,rfl,YZ (fun c=>?_) (fun c=>?_)⟩
   ·exact q2 e _ _ (by rw[nx];exact zCM he (decide_eq_true c) hb) G2 (by rw[← r1];exact his.1)
   ·refine⟨_,rfl,fun j' e' hj' he'=>?_,rfl⟩
    rcases Nat.lt_or_ge j' i with z | z
    ·exact hb j' e' z he'
    ·obtain rfl:j'=i:=by omega
     rw[he] at he'
     cases he'
     exact decide_eq_false c
  ·obtain⟨u,eH,hb,rfl⟩:=h
   subst eH
   try walk_at "rd"
   refine q1 ?_ _ G2
   rw[nx]
   exact zCE fun j e hj he=>hb j e (by rw[List.length_map,Paired.length pr];exact hj) he
 case true =>
  try walk_at "rd"
  refine⟨_,hr1,fun lz hlz=>?_⟩
  have v2:=QH (o:=HO.lst (ps.map (·.2.1)).reverse) hlz
  have hz0:=QF (H:=H1) (a:=lz) (o:=HO.lst (ps.map (·.2.1)).reverse)
  have k2:=k1.same v2
  have G2:=v1.trans v2
  generalize upd H1 lz (HO.lst (ps.map (·.2.1)).reverse)=H2 at v2 hz0 k2 G2 ⊢
  obtain⟨pz,ez,pr,mem,nx,hz⟩:∃ pz ez,Paired (TrE H2) pz ez/\(∀ p0∈pz,p0∈ps)/\nxT true la es=ez.find? (fun e=>pb true la e.2.1)/\H2 lz=some (.lst (pz.map (·.2.1))):=⟨ps.reverse,es.reverse,Paired.rev k2.tr,fun _ h=>List.mem_reverse.mp h,rfl,by rw[List.map_reverse];exact hz0⟩
  try walk_at "rd"
  refine⟨⟨_,SqL.of hz⟩,Jz (xs:=pz.map (·.2.1)) (zMv H2 true la ez fun u=>[some (.ref d),some (.bl true),some (.int la),some (.ref lz),u]) ⟨_,rfl,fun j e h=>by omega,rfl⟩ (fun i σ H' _ h=>by obtain⟨_,e,_⟩:=h;rw[e];exact SqL.of hz) (fun i y σ H' ey h=>?_) (fun σ H' h=>?_)⟩
  ·obtain⟨u,eH,hb,rfl⟩:=h
   subst eH
   obtain⟨p0,hp0,rfl⟩:=zGC ey
   obtain⟨e,he,r1,t0,r2,r3,r4⟩:=Paired.getL pr hp0
   obtain⟨j,hj⟩:=List.getElem?_of_mem (mem p0 (List.mem_of_getElem? hp0))
   have hat:=zBU k2.en.nd hj
   have his:=k2.en.is p0 (List.mem_of_getElem? hj)
   try walk_at "rd"
   refine⟨ps,k2.hd,k2.en,_,his.1,his.2,_,hat,?_⟩
   rw[r2,Q2 (v:=V.int e.2.1) r3 rfl]
   refine⟨_,rfl,YZ (fun c=>?_) (fun c=>?_)⟩
   ·exact q2 e _ _ (by rw[nx];exact zCM he (decide_eq_true c) hb) G2 (by rw[← r1];exact his.1)
   ·refine⟨_,rfl,fun j' e' hj' he'=>?_,rfl⟩
    rcases Nat.lt_or_ge j' i with z | z
    ·exact hb j' e' z he'
    ·obtain rfl:j'=i:=by omega
     rw[he] at he'
     cases he'
     exact decide_eq_false c
  ·obtain⟨u,eH,hb,rfl⟩:=h
   subst eH
   try walk_at "rd"
   refine q1 ?_ _ G2
   rw[nx]
   exact zCE fun j e hj he=>hb j e (by rw[List.length_map,Paired.length pr];exact hj) he
end
def zEz (D:Addr):Sp:=fun vs H _ E=>∃ B v t,vs=[v]/\L2.IsT B H t v/\Same B H/\t.ok 3=false/\∀ ea H',Same H H'->H' ea=none->E (.ref D) (some ea) H'
def zFc (C D:Addr):Sp:=fun vs H _ E=>∃ p S x B t,vs=[.ref p,x]/\ShAt C H p S/\L2.IsT B H t x/\Same B H/\t.ok 3=false/\∀ ea H',Same H H'->H' ea=none->E (.ref D) (some ea) H'
def zLI (C D:Addr):Sp:=fun vs H _ E=>∃ p S x y B t,vs=[.ref p,x,y]/\ShAt C H p S/\L2.IsT B H t x/\Same B H/\t.ok 3=false/\∀ ea H',Same H H'->H' ea=none->E (.ref D) (some ea) H'
def zFp (C DL:Addr):Sp:=fun vs H _ E=>∃ p S,vs=[.ref p]/\ShAt C H p S/\(∀ (i:Nat) k,S.os[i]? ≠ some (some k))/\∀ ea H',Same H H'->H' ea=none->E (.ref DL) (some ea) H'
theorem zJo {H:Hp} {S:Sh} {xs:List V} (h:IsKos H S.os xs) (hn:∀ (i:Nat) k,S.os[i]? ≠ some (some k)):Yx S xs=[]:=by
 refine List.filter_eq_nil_iff.mpr fun e he=>?_
 obtain⟨i,hi⟩:=List.getElem?_of_mem he
 rw[List.getElem?_zip_eq_some,List.getElem?_zip_eq_some] at hi
 obtain⟨o,eo,io⟩:=h.get hi.2.1
 rw[zLA io]
 cases o with
 | none=>decide
 | some k=>exact absurd eo (hn i k)
section
variable {P:Program} {w:World} {K:W.Frag} {mg:Str->Option Value} {base:Heap} {a:Ad} {tb:Bool}
theorem zDx (T:Txt K mg a)(G_is_key:FnOk P w K mg base CX0 9 a.f_is_key a.d_is_key Jd zHs):FnOk P w K mg base (CXe P w) 10 a.f_checked a.d_checked Yd (zEz a.a_NoKey):=by
 refine T.F_checked.okE sc_checked (fun vs H Q E h=>?_) (fun cdv A outer s H vs Q E hr h=>?_)
 ·obtain⟨B,v,t,rfl,_⟩:=h
  rfl
 have nd:=sc_checked.nd
 obtain⟨B,v,t,rfl,ht,hs,hb,q⟩:=h
 obtain⟨bm,xN⟩:=T.x_NoKey
 refine⟨_,(QB (QS (Ww (QW (QO (G_is_key.mono (by decide)) hr rfl T.m_is_key T.F_is_key.kp T.b_is_key .nil QR (QA (pv 0) QD)))) (QE (ZR hr.hd rfl T.m_NoKey xN (QA YL QD))) QN)
 (QE (QK (pv 0)))),?_⟩
 try walk_at "rd"
 refine⟨B,v,t,rfl,ht,hs,fun H' g=>?_⟩
 rw[hb]
 try walk_at "rd"
 exact⟨by decide,fun ea he=>q ea H' g he⟩
theorem zAN (T:Txt K mg a)(G_checked:FnOk P w K mg base (CXe P w) 10 a.f_checked a.d_checked Yd (zEz a.a_NoKey))(G_Hplace:FnOk P w K mg base CX0 11 a.f_Hplace a.d_Hplace ZN (zHP (cA a tb))):FnOk P w K mg base (CXe P w) 12 a.f_Hsure_place a.d_Hsure_place YQ (zFc (cA a tb) a.a_NoKey):=by
 refine T.F_Hsure_place.okE sc_Hsure_place (fun vs H Q E h=>?_) (fun cdv A outer s H vs Q E hr h=>?_)
 ·obtain⟨p,S,x,B,t,rfl,_⟩:=h
  rfl
 have nd:=sc_Hsure_place.nd
 obtain⟨p,S,x,B,t,rfl,A,hT,hs,hb,q⟩:=h
 refine⟨_,(QB (QT (i:=2) nd rfl (Or.inl rfl) (Qq (pv 0) (T.cl tb) (T.M_Hplace tb) (G_Hplace.mono (by decide)) hr T.b_Hplace .nil QR (QA (QO (G_checked.mono (by decide)) hr rfl T.m_checked T.F_checked.kp T.b_checked .nil (zAF (fun _ _ _ h=>h)) (QA (pv 1) QD)) QD)))
 (QB (QS (QQ ZI (pv 2) Qm (QP _)) (QE Y1) QN)
 (QE (QK (pv 2))))),?_⟩
 try walk_at "rd"
 rw[Ye A (by decide +kernel)]
 exact⟨B,x,t,rfl,hT,hs,hb,q⟩
theorem zIc (T:Txt K mg a)(G_checked:FnOk P w K mg base (CXe P w) 10 a.f_checked a.d_checked Yd (zEz a.a_NoKey))(G_Hplace:FnOk P w K mg base CX0 11 a.f_Hplace a.d_Hplace ZN (zHP (cA a tb)))(G_Hcome:FnOk P w K mg base (CXe P w) 13 a.f_Hcome a.d_Hcome zAY (zCe a tb)):FnOk P w K mg base (CXe P w) 14 a.f_Hput a.d_Hput zA1 (zLI (cA a tb) a.a_NoKey):=by
 refine T.F_Hput.okE sc_Hput (fun vs H Q E h=>?_) (fun cdv A outer s H vs Q E hr h=>?_)
 ·obtain⟨p,S,x,y,B,t,rfl,_⟩:=h
  rfl
 have nd:=sc_Hput.nd
 obtain⟨p,S,x,y,B,t,rfl,A,hT,hs,hb,q⟩:=h
 refine⟨_,(QB (QT (i:=3) nd rfl (Or.inl rfl) (Qq (pv 0) (T.cl tb) (T.M_Hplace tb) (G_Hplace.mono (by decide)) hr T.b_Hplace .nil QR (QA (QO (G_checked.mono (by decide)) hr rfl T.m_checked T.F_checked.kp T.b_checked .nil (zAF (fun _ _ _ h=>h)) (QA (pv 1) QD)) QD)))
 (QB (QS (QQ ZI (pv 3) Qm (QP _)) (QB (Qe (Qq (pv 0) (T.cl tb) (T.M_Hcome tb) (G_Hcome.mono (by decide)) hr T.b_Hcome .nil (zAF (fun _ _ _ h=>h)) (QA (pv 1) (QA (pv 2) QD))))
 (QE (QK Q0))) QN)
 (QB (YG (pv 2) (YH (QU (pv 0) rfl) (pv 3) Y2))
 (QE (QK Q0))))),?_⟩
 try walk_at "rd"
 rw[Ye A (by decide +kernel)]
 exact⟨B,x,t,rfl,hT,hs,hb,q⟩
theorem zJk (T:Txt K mg a)(G_Hsure_place:FnOk P w K mg base (CXe P w) 12 a.f_Hsure_place a.d_Hsure_place YQ (zFc (cA a tb) a.a_NoKey)):FnOk P w K mg base (CXe P w) 13 a.f_Hat a.d_Hat zHX (zFc (cA a tb) a.a_NoKey):=by
 refine T.F_Hat.okE sc_Hat (fun vs H Q E h=>?_) (fun cdv A outer s H vs Q E hr h=>?_)
 ·obtain⟨p,S,x,B,t,rfl,_⟩:=h
  rfl
 have nd:=sc_Hat.nd
 obtain⟨p,S,x,B,t,rfl,A,hT,hs,hb,q⟩:=h
 refine⟨_,(QE (QK (Qa Qs (QU (pv 0) rfl) (Qq (pv 0) (T.cl tb) (T.M_Hsure_place tb) (G_Hsure_place.mono (by decide)) hr T.b_Hsure_place .nil (zAF (fun _ _ _ h=>h)) (QA (pv 1) QD)) (fun _ _=>rfl)))),?_⟩
 try walk_at "rd"
 rw[zBR T A,Ye A (by decide +kernel)]
 exact⟨p,S,x,B,t,rfl,A,hT,hs,hb,q⟩
theorem zAz (T:Txt K mg a)(G_Hahead:FnOk P w K mg base CX0 2 a.f_Hahead a.d_Hahead JK (zDO (cA a tb)))(G_Htake:FnOk P w K mg base (CXe P w) 13 a.f_Htake a.d_Htake JN (zAi (cA a tb) a.a_Lacking)):FnOk P w K mg base (CXe P w) 14 a.f_Htake_last a.d_Htake_last Zk (zFp (cA a tb) a.a_Lacking):=by
 refine T.F_Htake_last.okE sc_Htake_last (fun vs H Q E h=>?_) (fun cdv A outer s H vs Q E hr h=>?_)
 ·obtain⟨p,S,rfl,_⟩:=h
  rfl
 have nd:=sc_Htake_last.nd
 obtain⟨p,S,rfl,A,hn,q⟩:=h
 obtain⟨bmL,xL⟩:=T.x_Lacking
 refine⟨_,(QB (QT (i:=1) nd rfl (Or.inl rfl) (Qq (pv 0) (T.cl tb) (T.M_Hahead tb) (G_Hahead.mono (by decide)) hr T.b_Hahead .nil QR (QA (QM YF (QU (pv 0) rfl) QC) QD)))
 (QB (QS (QQ ZI (pv 1) Qm (QP _)) (QE (ZR hr.hd rfl T.m_Lacking xL (QA YL QD))) QN)
 (QB (QT (i:=2) nd rfl (Or.inl rfl) (Qa Qs (pv 1) QC (fun _ _=>rfl)))
 (QE (QK (YI (QA (pv 2) (QA (Qq (pv 0) (T.cl tb) (T.M_Htake tb) (G_Htake.mono (by decide)) hr T.b_Htake .nil (zAF (fun _ _ _ h=>h)) (QA (pv 2) QD)) QD)))))))),?_⟩
 obtain⟨xs,hx1,hx2⟩:=A.hr
 have e0:=zJo hx2 hn
 try walk_at "rd"
 rw[Ye A (by decide +kernel),zFQ T A]
 try walk_at "rd"
 refine⟨p,S,xs,S.ca+1,rfl,A,hx1,fun H1 hE g1=>?_,fun l e t H1 hE=>?_⟩
 ·(try walk_at "rd")
  exact⟨by decide,fun ea he=>q ea H1 g1 he⟩
 ·rw[e0] at hE
  simp at hE
end
section
variable {P:Program} {w:World} {K:W.Frag} {mg:Str->Option Value} {base:Heap} {a:Ad} {tb:Bool}
def zGE (w:World) (a:Ad):Sp:=fun vs H Q _=>∃ tb p S d ps l es wy,vs=[.ref p,.ref d,.int wy]/\K2 w a tb H p S d ps l es/\∀ H',Same H H'->Q (.bl true) H'
theorem zKG (T:Txt K mg a)(G_Htake:∀ tb,FnOk P w K mg base (CXe P w) 13 a.f_Htake a.d_Htake JN (zAi (cA a tb) a.a_Lacking)):FnOk P w K mg base CX0 15 a.f_Lout a.d_Lout zFR (zFx w a):=by
 refine T.F_Lout.ok sc_Lout (fun vs H Q E h=>?_) (fun cdv A outer s H vs Q E hr h=>?_)
 ·obtain⟨tb,p,S,d,ps,l,es,x,k,i,rfl,_⟩:=h
  rfl
 have nd:=sc_Lout.nd
 obtain⟨tb,p,S,d,ps,l,es,x,k,i,rfl,kk,hk,hi,q⟩:=h
 refine⟨_,(QB (Qe (Qq (pv 0) (T.cl tb) (T.M_Htake tb) ((G_Htake tb).mono (by decide)) hr T.b_Htake .nil zMw (QA (pv 3) QD)))
 (QB (Qe (zMq PySem.F.slot_dict_pop PySem.F.type_dict_pop (zJG hr.units) (pv 1) (QA (pv 3) QD)))
 (QE (YG (QM YF (Qa Qs (pv 2) QC (fun _ _=>rfl)) QC) (YH (pv 2) QC Y2))))),?_⟩
 have A:=kk.A
 have hm:=List.mem_of_getElem? hi
 try walk_at "rd"
 rw[Ye A (by decide +kernel)]
 refine⟨p,S,x,k,rfl,A,hk,A.dp _ hm,(kk.ok k hm).1,(fun i' c' H2 hi' hc b A2=>?_),fun hn=>absurd hi (hn i)⟩
 obtain rfl:=A.fm.keys _ _ _ hi' hi
 have kS:=Jr b (S':=zFo S k c' i') ⟨rfl,rfl,rfl,rfl,rfl⟩
 have ts:=Yi A kS
 obtain⟨b1,b2,b3,⟨bn,cp,b4,bk⟩,b5,b6⟩:=zIO kk kS
 obtain⟨u,hu⟩:=zIN (ps:=ps) (k:=k) (kk.at hi)
 have hne:d ≠ l:=YN b1 b4 (by intro z;cases z)
 have hd6:k.deep<=6:=Nat.le_trans (A.dp _ hm) (by decide)
 refine⟨⟨ps,b1⟩,d,ps,k,x,u,rfl,rfl,b1,b2,hk.same ts,hd6,hu,?_⟩
 have t1:=zCk (o:=dko w d (ZC ps k)) b1
 have b7:upd H2 d (dko w d (ZC ps k)) l=some (bnL S.ca S.we bn cp):=by rw[QG (Ne.symm hne)];exact b4
 have h7:=QF (H:=H2) (a:=d) (o:=dko w d (ZC ps k))
 have A7:=ShAt.far A2 b5 t1
 obtain⟨j,m,v,hj,_,ab2,_⟩:=Ab3.at A kk.ab hi
 have tr7:=Yv t1 (zIr b2 b3 hj)
 have en7:=(b2.drop (k:=k)).same t1
 have k7:Ya p d l S (zFo S k c' i') H (upd H2 d (dko w d (ZC ps k))):=QX (zAj kS) zAa
 show ixC (V.ref l) (V.int 1) (upd H2 d (dko w d (ZC ps k))) _
 generalize upd H2 d (dko w d (ZC ps k))=H7 at b7 h7 A7 tr7 en7 k7 ⊢
 rw[QV b7 (v:=V.int (S.ca+S.we)) rfl]
 refine⟨_,rfl,?_⟩
 rw[YD b7 (k:=1) (j:=1) rfl (by show 1 < 4;decide)]
 have t8:=Q7 (o:=HO.lst (List.set [.int S.ca,.int (S.ca+S.we),.int bn,.int cp] 1 (.int (S.ca+S.we+1)))) b7
 have h1:S.ca - S.we=(YR S.os:Int):=kk.cn
 have hcs:=zBI hi
 have hw:=kk.w0
 refine q _ _ _ _ ⟨ShAt.far A7 b6 t8,kk.ok.set,(show S.ca - (S.we+1)=(YR (S.os.set i' none):Int) by omega),(show 0<=S.we+1 by omega),(by rw[QG hne];exact h7),en7.same t8,ab2 c',Yv t8 tr7,⟨bn,cp,?_,?_⟩,b5,b6⟩ rfl ⟨Int.le_refl _,by show S.we<=S.we+1;omega⟩ (QX k7 zCY)
 ·rw[QF]
  show some (HO.lst [.int S.ca,.int (S.ca+S.we+1),.int bn,.int cp])=some (HO.lst [.int S.ca,.int (S.ca+(S.we+1)),.int bn,.int cp])
  rw[Int.add_assoc]
 ·refine⟨fun z=>?_,bk.2⟩
  have:=bk.1 z
  show bn=(((S.os.set i' none).length:Nat):Int)/\_
  rw[List.length_set]
  exact this
theorem zER (T:Txt K mg a)(G_Hemptied:∀ tb,FnOk P w K mg base CX0 12 a.f_Hemptied a.d_Hemptied W2 (zBM a tb)):FnOk P w K mg base CX0 15 a.f_Lemptied a.d_Lemptied Wf (zGB w a):=by
 refine T.F_Lemptied.ok sc_Lemptied (fun vs H Q E h=>?_) (fun cdv A outer s H vs Q E hr h=>?_)
 ·obtain⟨tb,p,S,d,ps,l,es,rfl,_⟩:=h
  rfl
 have nd:=sc_Lemptied.nd
 obtain⟨tb,p,S,d,ps,l,es,rfl,kk,q⟩:=h
 refine⟨_,(QB (YG (QM YF (Qa Qs (pv 2) QC (fun _ _=>rfl)) (QL zB0 rfl T.z_len PySem.boot_len (QA (pv 1) QD))) (YH (pv 2) QC Y2))
 (QB (YG QC (YH (pv 2) QC Y2))
 (QB (Qe (zLy PySem.F.slot_dict_clear PySem.F.type_dict_clear zHJ (pv 1)))
 (QE (Qe (Q1 (pv 0) (T.cl tb) (T.M_Hemptied tb) ((G_Hemptied tb).mono (by decide)) hr T.b_Hemptied .nil QR)))))),?_⟩
 have A:=kk.A
 obtain⟨bn,cp,b4,bk⟩:=kk.hl
 have hne:d ≠ l:=YN kk.hd b4 (by intro z;cases z)
 have hmy:=kk.many
 try walk_at "rd"
 rw[QV b4 (v:=V.int (S.ca+S.we)) rfl]
 refine⟨d,ps,rfl,kk.hd,_,rfl,_,rfl,?_⟩
 rw[YD b4 (k:=1) (j:=1) rfl (by show 1 < 4;decide)]
 have u1:=QF (H:=H) (a:=l) (o:=HO.lst [.int S.ca,.int (S.ca+S.we+(ps.length:Nat)),.int bn,.int cp])
 show zHb (V.ref l) (V.int 2) (V.int 0) (upd H l (HO.lst [.int S.ca,.int (S.ca+S.we+(ps.length:Nat)),.int bn,.int cp])) _
 rw[YD u1 (k:=2) (j:=2) rfl (by show 2 < 4;decide),Q3]
 simp only[List.set_cons_succ,List.set_cons_zero]
 have t3:=Q7 (o:=HO.lst [.int S.ca,.int (S.ca+S.we+(ps.length:Nat)),.int 0,.int cp]) b4
 have u3:=QF (H:=H) (a:=l) (o:=HO.lst [.int S.ca,.int (S.ca+S.we+(ps.length:Nat)),.int 0,.int cp])
 have A3:=ShAt.far A kk.fl t3
 have h3:upd H l (HO.lst [.int S.ca,.int (S.ca+S.we+(ps.length:Nat)),.int 0,.int cp]) d=some (dko w d ps):=by rw[QG hne];exact kk.hd
 have k3:Ya p d l S S H (upd H l (HO.lst [.int S.ca,.int (S.ca+S.we+(ps.length:Nat)),.int 0,.int cp])):=zCY
 generalize upd H l (HO.lst [.int S.ca,.int (S.ca+S.we+(ps.length:Nat)),.int 0,.int cp])=H3 at u3 A3 h3 k3 ⊢
 refine⟨⟨ps,h3⟩,d,ps,rfl,rfl,h3,?_⟩
 have t4:=zCk (o:=dko w d []) h3
 have A4:=ShAt.far A3 kk.fd t4
 have h4:=QF (H:=H3) (a:=d) (o:=dko w d [])
 have u4:upd H3 d (dko w d []) l=some (HO.lst [.int S.ca,.int (S.ca+S.we+(ps.length:Nat)),.int 0,.int cp]):=by rw[QG (Ne.symm hne)];exact u3
 have k4:Ya p d l S S H (upd H3 d (dko w d [])):=QX k3 zAa
 show zBC (cA a tb) ("emptied" : Str) (V.ref p) (upd H3 d (dko w d [])) _
 generalize upd H3 d (dko w d [])=H4 at A4 h4 u4 k4 ⊢
 rw[Ye A4 (by decide +kernel)]
 refine⟨p,S,rfl,A4,fun qc qr qh qm H2 e1 e2 e3 e4 kq A2=>?_⟩
 have ks2:WZ p S (zHd tb S qc qr qh qm) H4 H2:=zDu kq e1 e2 e3 e4 (fun _ _ e _ _ _ _ _=>e)
 have d5:=ks2 _ _ h4 kk.fd
 have l5:=ks2 _ _ u4 kk.fl
 have c0:=kk.ca0
 refine q _ [] [] _ ⟨A2,fun k hk=>(by cases hk),(show S.ca - S.ca=((0:Nat):Int) by omega),c0,d5.1,EnOk.nil,⟨rfl,rfl,List.Pairwise.nil,fun e he=>by cases he⟩,.nil,⟨0,cp,?_,?_⟩,d5.2,l5.2⟩ rfl ⟨Int.le_refl _,by show S.we<=S.ca;omega⟩ (QX k4 (zAj ks2))
 ·rw[l5.1,show S.ca+S.we+(ps.length:Nat)=S.ca+S.ca by omega]
  rfl
 ·refine⟨fun z=>?_,fun z=>⟨c0,(bk.2 z).2⟩⟩
  have:=(bk.1 z).2
  subst z
  exact⟨rfl,this⟩
theorem zDo (T:Txt K mg a)(G_Hput:∀ tb,FnOk P w K mg base (CXe P w) 14 a.f_Hput a.d_Hput zA1 (zLI (cA a tb) a.a_NoKey))(G_Htake:∀ tb,FnOk P w K mg base (CXe P w) 13 a.f_Htake a.d_Htake JN (zAi (cA a tb) a.a_Lacking))(G_Htake_last:∀ tb,FnOk P w K mg base (CXe P w) 14 a.f_Htake_last a.d_Htake_last Zk (zFp (cA a tb) a.a_Lacking))(G_Hat:∀ tb,FnOk P w K mg base (CXe P w) 13 a.f_Hat a.d_Hat zHX (zFc (cA a tb) a.a_NoKey)):FnOk P w K mg base CX0 15 a.f_Lrefused a.d_Lrefused W8 (zGE w a):=by
 refine T.F_Lrefused.ok sc_Lrefused (fun vs H Q E h=>?_) (fun cdv A outer s H vs Q E hr h=>?_)
 ·obtain⟨tb,p,S,d,ps,l,es,wy,rfl,_⟩:=h
  rfl
 have nd:=sc_Lrefused.nd
 obtain⟨tb,p,S,d,ps,l,es,wy,rfl,kk,q⟩:=h
 obtain⟨bmB,xBookError⟩:=T.x_BookError
 obtain⟨bmN,xN⟩:=T.x_NoKey
 obtain⟨bmL,xL⟩:=T.x_Lacking
 refine⟨_,(QB (QT (i:=3) nd rfl (Or.inl rfl) Qm)
 (QB (zDc (i:=4) ⟨rfl,rfl,rfl⟩ (fun pl RX=>(QE (QS (QQ Qy (pv 2) QC (QP _)) (QE (Qe (JI (pv 0) (T.cl tb) (T.M_Hput tb) ((G_Hput tb).mono (by decide)) hr T.b_Hput .nil (QA (YK (QA QC QD)) (QA QC QD))))) (QE (QS (QQ Qy (pv 2) QC (QP _)) (QE (Qe (JI (pv 0) (T.cl tb) (T.M_Htake tb) ((G_Htake tb).mono (by decide)) hr T.b_Htake .nil (QA YL QD)))) (QE (QS (QQ Qy (QL (zE4 (w:=w) rfl) rfl T.z_len PySem.boot_len (QA (pv 1) QD)) QC (QP _)) (QE (Qe (zBx (pv 0) (T.cl tb) (T.M_Htake_last tb) ((G_Htake_last tb).mono (by decide)) hr T.b_Htake_last .nil))) (QE (Qe (JI (pv 0) (T.cl tb) (T.M_Hat tb) ((G_Hat tb).mono (by decide)) hr T.b_Hat .nil (QA Q0 QD))))))))))) rfl T.m_BookError xBookError (fun ea=>(QE (QT (i:=3) nd rfl (Or.inl rfl) (pv 4)))) nd rfl rfl)
 (QE (QK (Qx Za (pv 3) Qm (QP _)))))),?_⟩
 have A:=kk.A
 try walk_at "rd"
 have fin:∀ D bm,XC K D bm->W.mroIn K D (.ref a.a_BookError)=some true->∀ ea H',Same H H'->H' ea=none->(∃ e,some ea=some e/\∃ x,Value.ref D=Value.ref x/\∃ b,XC K x b/\(Value.ref x::b).contains (Value.ref a.a_BookError)=true/\Q (V.bl true) (upd H' e (ExO e (Value.ref x)))):=fun D bm x s ea H' g he=>⟨ea,rfl,D,rfl,bm,x,x.sub s,q _ (g.trans (QH he))⟩
 have fN:=fin _ _ xN T.s_NoKey_BookError
 have fL:=fin _ _ xL T.s_Lacking_BookError
 refine YZ (fun _=>?_) fun _=>YZ (fun _=>?_) fun _=>?_
 ·rw[Ye A (by decide +kernel)]
  refine⟨by decide,fun l1 hl1=>?_⟩
  have g1:=QH (o:=HO.lst [V.int 1]) hl1
  exact⟨p,S,_,_,_,.odd .lst,rfl,A.same g1,(by unfold L2.IsT L2.IsO;exact⟨l1,_,rfl,QF⟩),Same.refl _,rfl,fun ea H' g he=>fN ea H' (g1.trans g) he⟩
 ·rw[Ye A (by decide +kernel)]
  have nt:∀ i:Nat,S.os[i]? ≠ some (some (.txt (Str.ofString "not there, never put"))):=fun i hi=>absurd (show (Str.ofString "not there, never put").length<=10 from (kk.ok _ (List.mem_of_getElem? hi)).2) (by decide)
  exact⟨p,S,_,.txt _,rfl,A,WS,(by unfold Kd.deep;omega),Jv (by decide) 3,fun i c H' hi=>absurd hi (nt i),fun _=>fL⟩
 ·refine⟨d,ps,rfl,kk.hd,?_⟩
  try walk_at "rd"
  refine YZ (fun z=>?_) (fun _=>?_)
  ·rw[Ye A (by decide +kernel)]
   exact⟨p,S,rfl,A,fun i k hi=>(by have:=kk.at hi;rw[List.length_eq_zero_iff.mp (by omega:ps.length=0)] at this;cases this),fL⟩
  ·rw[Ye A (by decide +kernel)]
   exact⟨p,S,_,H,.odd (.bl true),rfl,A,(by unfold L2.IsT L2.IsO;rfl),Same.refl H,rfl,fN⟩
end
section
variable {P:Program} {w:World} {K:W.Frag} {mg:Str->Option Value} {base:Heap} {a:Ad} {tb:Bool}
theorem Up.refl {S:Sh}:Up S S:=⟨Int.le_refl _,Int.le_refl _⟩
theorem Up.trans {S S1 S2:Sh} (a:Up S S1) (b:Up S1 S2):Up S S2:=⟨Int.le_trans a.1 b.1,Int.le_trans a.2 b.2⟩
def zDv (w:World) (a:Ad):Sp:=fun vs H Q _=>∃ tb p S d ps l es wy c,vs=[.ref p,.ref d,.ref l,.int wy,.int c]/\K2 w a tb H p S d ps l es/\S.ca<=700/\Bt c/\∀ S' ps' es' H',K2 w a tb H' p S' d ps' l es'->S'.ca<=S.ca+4->Up S S'->Ya p d l S S' H H'->Q (.bl true) H'
open Builtin.Int (intBits) in
def zDi (w:World) (a:Ad):Sp:=fun vs H Q _=>∃ tb p S d ps l es wy c,vs=[.ref p,.ref d,.ref l,.int wy,.int c]/\K2 w a tb H p S d ps l es/\S.ca<=700/\intBits c<=2 ^ 20/\∀ S' ps' es' H',K2 w a tb H' p S' d ps' l es'->S'.ca<=S.ca+4->Up S S'->Ya p d l S S' H H'->Q (.bl true) H'
def zNd (w:World) (a:Ad) (tb:Bool) (p d l:Addr) (S0:Sh) (H0:Hp) (F:Option V->L2.St) (i:Nat) (σ:L2.St) (H':Hp):Prop:=∃ (S:Sh) (ps:List En) (es:List Tr) (q1:Option V),K2 w a tb H' p S d ps l es/\S.ca<=S0.ca+i/\Up S0 S/\Ya p d l S0 S H0 H'/\σ=F q1
theorem zHw (T:Txt K mg a)(G_Lkey_by:FnOk P w K mg base CX0 1 a.f_Lkey_by a.d_Lkey_by WM zFK)(G_Lvalue_by:FnOk P w K mg base CX0 1 a.f_Lvalue_by a.d_Lvalue_by Y9 zEW)(G_Lput:FnOk P w K mg base CX0 15 a.f_Lput a.d_Lput zCh (zDL w a)):FnOk P w K mg base CX0 16 a.f_Lputs a.d_Lputs zDC (zDv w a):=by
 refine T.F_Lputs.ok sc_Lputs (fun vs H Q E h=>?_) (fun cdv A outer s H vs Q E hr h=>?_)
 ·obtain⟨tb,p,S,d,ps,l,es,wy,c,rfl,_⟩:=h
  rfl
 have nd:=sc_Lputs.nd
 obtain⟨tb,p,S,d,ps,l,es,wy,c,rfl,kk,c10,hbt,q⟩:=h
 refine⟨_,(QB (Zj PassesOwn.never rfl (WQ rfl T.z_range (QA (QM QY (QM Qj (pv 4) QC) QC) QD)) (YU (i:=5) nd rfl (Or.inl rfl)) (QE (QS (Ww (QW (QO (G_Lput.mono (by decide)) hr rfl T.m_Lput T.F_Lput.kp T.b_Lput .nil QR (QA (pv 0) (QA (pv 1) (QA (pv 2) (QA (QO (G_Lkey_by.mono (by decide)) hr rfl T.m_Lkey_by T.F_Lkey_by.kp T.b_Lkey_by .nil QR (QA (pv 3) (QA (QM YF (pv 4) (QM Ys QC (pv 5))) QD))) (QA (QO (G_Lvalue_by.mono (by decide)) hr rfl T.m_Lvalue_by T.F_Lvalue_by.kp T.b_Lvalue_by .nil QR (QA (QM YF (QM Qj (pv 4) QC) (pv 5)) QD)) QD)))))))) (QE (QK Q0)) QN)))
 (QE (QK Q0))),?_⟩
 try walk_at "rd"
 refine⟨by omega,by omega,Zh (zNd w a tb p d l S H fun q1=>[some (.ref p),some (.ref d),some (.ref l),some (.int wy),some (.int c),q1]) ⟨S,ps,es,_,kk,by omega,Up.refl,Ql (Same.refl H),rfl⟩ (fun i σ H' hi h=>?_) (fun σ H' h=>?_)⟩
 ·obtain⟨S1,ps1,es1,q1,k2,c1,u1,s1,rfl⟩:=h
  have hi4:i < 5:=by omega
  try walk_at "rd"
  refine⟨.inl ⟨by decide,by decide⟩,wy,_,rfl,zFd hbt (by omega),fun v2 k3 H2 g2 hk2 hd2 hok2 hnk2=>?_⟩
  try walk_at "rd"
  refine⟨_,rfl,fun y H3 g3 hy=>?_⟩
  try walk_at "rd"
  refine⟨tb,p,S1,d,ps1,l,es1,v2,k3,y,rfl,(k2.same g2).same g3,by omega,hk2.same g3.tups,hd2,hok2,hnk2,hy,fun S3 ps3 es3 H4 k4 c3 u3 s3=>⟨true,rfl,?_⟩⟩
  refine YO (by decide) ?_
  exact⟨S3,ps3,es3,_,k4,by omega,u1.trans u3,QX s1 (QX (Ql (g2.trans g3)) s3),rfl⟩
 ·obtain⟨S1,ps1,es1,q1,k2,c1,u1,s1,rfl⟩:=h
  try walk_at "rd"
  exact q S1 ps1 es1 H' k2 (by omega) u1 s1
theorem zJA (T:Txt K mg a)(G_Lkey_by:FnOk P w K mg base CX0 1 a.f_Lkey_by a.d_Lkey_by WM zFK)(G_Lvalue_by:FnOk P w K mg base CX0 1 a.f_Lvalue_by a.d_Lvalue_by Y9 zEW)(G_Lput:FnOk P w K mg base CX0 15 a.f_Lput a.d_Lput zCh (zDL w a))(G_Lputs:FnOk P w K mg base CX0 16 a.f_Lputs a.d_Lputs zDC (zDv w a))(G_Lout:FnOk P w K mg base CX0 15 a.f_Lout a.d_Lout zFR (zFx w a))(G_Lemptied:FnOk P w K mg base CX0 15 a.f_Lemptied a.d_Lemptied Wf (zGB w a))(G_Lrefused:FnOk P w K mg base CX0 15 a.f_Lrefused a.d_Lrefused W8 (zGE w a)):FnOk P w K mg base CX0 17 a.f_Ldeed a.d_Ldeed zCg (zDi w a):=by
 refine T.F_Ldeed.ok sc_Ldeed (fun vs H Q E h=>?_) (fun cdv A outer s H vs Q E hr h=>?_)
 ·obtain⟨tb,p,S,d,ps,l,es,wy,c,rfl,_⟩:=h
  rfl
 have nd:=sc_Ldeed.nd
 obtain⟨tb,p,S,d,ps,l,es,wy,c,rfl,kk,c10,hb,q⟩:=h
 refine⟨_,(QB (QT (i:=5) nd rfl (Or.inl rfl) (QM Qj (pv 4) QC))
 (QB (QT (i:=6) nd rfl (Or.inl rfl) (zCF (zBV rfl) rfl T.z_list boot_list (QA (pv 1) QD)))
 (QB (QT (i:=7) nd rfl (Or.inl rfl) (QO (G_Lkey_by.mono (by decide)) hr rfl T.m_Lkey_by T.F_Lkey_by.kp T.b_Lkey_by .nil QR (QA (pv 3) (QA (pv 5) QD))))
 (QB (QS (QQ WY (QM QY (pv 4) QC) QC (QP _)) (QE (QK (QO (G_Lput.mono (by decide)) hr rfl T.m_Lput T.F_Lput.kp T.b_Lput .nil QR (QA (pv 0) (QA (pv 1) (QA (pv 2) (QA (pv 7) (QA (QO (G_Lvalue_by.mono (by decide)) hr rfl T.m_Lvalue_by T.F_Lvalue_by.kp T.b_Lvalue_by .nil QR (QA (QM Qj (pv 5) QC) QD)) QD)))))))) QN)
 (QB (QS (QQ Qy (QM QY (pv 4) QC) QC (QP _)) (QE (QK (QO (G_Lputs.mono (by decide)) hr rfl T.m_Lputs T.F_Lputs.kp T.b_Lputs .nil QR (QA (pv 0) (QA (pv 1) (QA (pv 2) (QA (pv 3) (QA (pv 5) QD)))))))) QN)
 (QB (QS (PW.pt (Jp (QQ Qy (QM QY (pv 4) QC) QC (QP _)) (WK (QQ Jc (QL Qd rfl T.z_len PySem.boot_len (QA (pv 6) QD)) QC (QP _))))) (QB (Qe (QO (G_Lout.mono (by decide)) hr rfl T.m_Lout T.F_Lout.kp T.b_Lout .nil QR (QA (pv 0) (QA (pv 1) (QA (pv 2) (QA (Qa Qs (pv 6) (QM QY (pv 5) (QL Qd rfl T.z_len PySem.boot_len (QA (pv 6) QD))) (fun _ _=>rfl)) QD))))))
 (QE (QK (QO (G_Lput.mono (by decide)) hr rfl T.m_Lput T.F_Lput.kp T.b_Lput .nil QR (QA (pv 0) (QA (pv 1) (QA (pv 2) (QA (pv 7) (QA (QO (G_Lvalue_by.mono (by decide)) hr rfl T.m_Lvalue_by T.F_Lvalue_by.kp T.b_Lvalue_by .nil QR (QA (QM Qj (pv 5) QC) QD)) QD))))))))) QN)
 (QB (QS (PW.pt (Jp (QQ WY (QM QY (pv 4) QC) QC (QP _)) (WK (QQ Jc (QL Qd rfl T.z_len PySem.boot_len (QA (pv 6) QD)) QC (QP _))))) (QE (QK (QO (G_Lput.mono (by decide)) hr rfl T.m_Lput T.F_Lput.kp T.b_Lput .nil QR (QA (pv 0) (QA (pv 1) (QA (pv 2) (QA (Qa Qs (pv 6) (QM QY (pv 5) (QL Qd rfl T.z_len PySem.boot_len (QA (pv 6) QD))) (fun _ _=>rfl)) (QA (QO (G_Lvalue_by.mono (by decide)) hr rfl T.m_Lvalue_by T.F_Lvalue_by.kp T.b_Lvalue_by .nil QR (QA (QM Qj (pv 5) QC) QD)) QD)))))))) QN)
 (QB (QS (QQ Qy (QM QY (pv 4) QC) QC (QP _)) (QE (QK (QO (G_Lrefused.mono (by decide)) hr rfl T.m_Lrefused T.F_Lrefused.kp T.b_Lrefused .nil QR (QA (pv 0) (QA (pv 1) (QA (QM QY (pv 5) QC) QD)))))) QN)
 (QB (QS (QQ Qy (QM QY (pv 5) QC) QC (QP _)) (QE (Qe (QO (G_Lemptied.mono (by decide)) hr rfl T.m_Lemptied T.F_Lemptied.kp T.b_Lemptied .nil QR (QA (pv 0) (QA (pv 1) (QA (pv 2) QD)))))) (QE (QS (QQ Jc (QL Qd rfl T.z_len PySem.boot_len (QA (pv 6) QD)) QC (QP _)) (QE (Qe (QO (G_Lout.mono (by decide)) hr rfl T.m_Lout T.F_Lout.kp T.b_Lout .nil QR (QA (pv 0) (QA (pv 1) (QA (pv 2) (QA (Qa Qs (pv 6) (QM QY (QM Qj (pv 5) QC) (QL Qd rfl T.z_len PySem.boot_len (QA (pv 6) QD))) (fun _ _=>rfl)) QD))))))) QN)))
 (QE (QK Q0))))))))))),?_⟩
 have A:=kk.A
 have hbt:=zMn hb
 try walk_at "rd"
 refine⟨d,ps,rfl,kk.hd,fun lr hlr=>?_⟩
 have v1:=QH (o:=HO.lst (ps.map (·.2.1))) hlr
 have hr0:=QF (H:=H) (a:=lr) (o:=HO.lst (ps.map (·.2.1)))
 have k0:=kk.same v1
 try walk_at "rd"
 generalize upd H lr (HO.lst (ps.map (·.2.1)))=H1 at v1 hr0 k0 ⊢
 refine⟨wy,_,rfl,zFd hbt (by omega),fun v k H2 g2 hk hd hok hnk=>?_⟩
 try walk_at "rd"
 have G:=v1.trans g2
 have hr1:=g2 _ _ hr0
 have k1:=k0.same g2
 have kp:IsKos H2 ((ps.map (·.1)).map some) (ps.map (·.2.1)):=k1.en.kos
 have lx:(ps.map (·.2.1)).length=ps.length:=List.length_map ..
 clear hr0
 generalize ps.map (·.2.1)=xs at hr1 kp lx ⊢
 have fo:∀ k'∈ps.map (·.1),∃ i':Nat,S.os[i']? = some (some k'):=fun k' hk'=>kk.there hk'
 have pick:∀ m:Int,0 < ps.length->∃ y k,atI xs (m % ((ps.length:Nat):Int))=some y/\IsK H2 k y/\k.deep<=3/\k.th.ok 3=true/\Nk k/\∃ i':Nat,S.os[i']? = some (some k):=fun m z=>by
  obtain⟨y,hy⟩:=zLK (l:=xs) (i:=m % ((ps.length:Nat):Int)) (Int.emod_nonneg _ (by omega)) (by rw[lx];exact Int.emod_lt_of_pos _ (by omega))
  obtain⟨j,_,hj,_⟩:=zCt hy
  obtain⟨o,eo,io⟩:=kp.get hj
  obtain⟨k,hk,rfl⟩:=List.mem_map.mp (List.mem_of_getElem? eo)
  obtain⟨i',hi'⟩:=fo k hk
  have hm:=List.mem_of_getElem? hi'
  exact⟨y,k,hy,io,A.dp _ hm,(kk.ok k hm).1,(kk.ok k hm).2,i',hi'⟩
 by_cases c0:c % 9 < 2
 ·refine Y5 c0 ?_
  exact⟨_,rfl,fun y H3 g3 hy=>⟨tb,p,S,d,ps,l,es,v,k,y,rfl,k1.same g3,by omega,hk.same g3.tups,hd,hok,hnk,hy,fun S2 ps2 es2 H4 k4 c4 u4 s4=>q S2 ps2 es2 H4 k4 (by omega) u4 (QX (Ql (G.trans g3)) s4)⟩⟩
 refine YO c0 ?_
 by_cases c2:c % 9=2
 ·refine Y5 c2 ?_
  exact⟨tb,p,S,d,ps,l,es,wy,_,rfl,k1,c10,hbt,fun S2 ps2 es2 H4 k4 c4 u4 s4=>q S2 ps2 es2 H4 k4 (by omega) u4 (QX (Ql G) s4)⟩
 refine YO c2 ?_
 by_cases c3:c % 9=3
 case' pos =>
  refine Y5 c3 ?_
  rw[Qw hr1,lx]
  refine⟨_,rfl,?_⟩
  by_cases z:0 < ps.length
  ·refine Y5 (by omega) ?_
   rw[Qw hr1,lx]
   obtain⟨y,k',hy,hk',_,_,_,i0,hi0⟩:=pick (c / 9) z
   refine⟨_,rfl,by omega,?_⟩
   rw[QV hr1 hy]
   refine⟨tb,p,S,d,ps,l,es,y,k',i0,rfl,k1,hk',hi0,fun S2 ps2 es2 H4 k4 c4 u4 s4=>?_⟩
   try walk_at "rd"
   exact⟨_,rfl,fun yy H5 g5 hyy=>⟨tb,p,S2,d,ps2,l,es2,v,k,yy,rfl,k4.same g5,by omega,(hk.same (k1.tups s4)).same g5.tups,hd,hok,hnk,hyy,fun S3 ps3 es3 H6 k6 c6 u6 s6=>q S3 ps3 es3 H6 k6 (by omega) (u4.trans u6) (QX (Ql G) (QX s4 (QX (Ql g5) s6)))⟩⟩
  refine YO (by omega) ?_
  refine Y5 (by omega) ?_
  rw[Qw hr1,lx]
  refine⟨_,rfl,?_⟩
  refine YO (by omega) ?_
  refine YO (by omega) ?_
 case' neg =>
  refine YO c3 ?_
  by_cases c5:c % 9 < 6
  case' pos =>
   refine Y5 c5 ?_
   rw[Qw hr1,lx]
   refine⟨_,rfl,?_⟩
   by_cases z:0 < ps.length
   ·refine Y5 (by omega) ?_
    rw[Qw hr1,lx]
    obtain⟨y,k',hy,hk',hd',hok',hnk',_⟩:=pick (c / 9) z
    refine⟨_,rfl,by omega,?_⟩
    rw[QV hr1 hy]
    exact⟨_,rfl,fun yy H3 g3 hyy=>⟨tb,p,S,d,ps,l,es,y,k',yy,rfl,k1.same g3,by omega,hk'.same g3.tups,hd',hok',hnk',hyy,fun S2 ps2 es2 H4 k4 c4 u4 s4=>q S2 ps2 es2 H4 k4 (by omega) u4 (QX (Ql (G.trans g3)) s4)⟩⟩
   refine YO (by omega) ?_
   refine YO (by omega) ?_
  case' neg =>
   refine YO c5 ?_
   by_cases c6:c % 9=6
   ·refine Y5 c6 ?_
    exact⟨tb,p,S,d,ps,l,es,_,rfl,k1,fun H3 g3=>q S ps es H3 (k1.same g3) (by omega) Up.refl (Ql (G.trans g3))⟩
   refine YO c6 ?_
 all_goals
  refine YZ (fun _=>?_) (fun _=>?_)
  ·exact⟨tb,p,S,d,ps,l,es,rfl,k1,fun S2 ps2 es2 H4 k4 c4 u4 s4=>q S2 ps2 es2 H4 k4 (by omega) u4 (QX (Ql G) s4)⟩
  rw[Qw hr1,lx]
  refine⟨_,rfl,?_⟩
  by_cases z:0 < ps.length
  case' neg=>rw[if_neg (by omega)];exact q S ps es H2 k1 (by omega) Up.refl (Ql G)
  refine Y5 (by omega) ?_
  rw[Qw hr1,lx]
  obtain⟨y,k',hy,hk',_,_,_,i0,hi0⟩:=pick (c / 9 / 4) z
  refine⟨_,rfl,by omega,?_⟩
  rw[QV hr1 hy]
  exact⟨tb,p,S,d,ps,l,es,y,k',i0,rfl,k1,hk',hi0,fun S2 ps2 es2 H4 k4 c4 u4 s4=>q S2 ps2 es2 H4 k4 (by omega) u4 (QX (Ql G) s4)⟩
end
section
variable {P:Program} {w:World} {K:W.Frag} {mg:Str->Option Value} {base:Heap} {a:Ad} {tb:Bool}
theorem zL7 {H:Hp} {k:Kd} {y:V} (h:IsK H k y):y ≠ V.non:=fun e=>by
 have z:IsKo H (some k) V.non:=e ▸ h
 have z2:IsKo H none V.non:=rfl
 exact absurd (z.inj z2) (by intro z;cases z)
def WkL (a:Ad) (H:Hp) (p:Addr) (S:Sh) (t x:Addr):Prop:=∃ W:Wk,H t=some (.lst [.ref x,.bl W.bk,.int W.la,.bl W.ov,.int (W.ca+W.we)])/\WkAt a.a_Walk H x p W/\W.st=true/\W.ca<=S.ca/\W.we<=S.we/\Far t p S
structure Wks (a:Ad) (H:Hp) (p:Addr) (S:Sh) (d l lw:Addr) (qs:List (Addr × Addr)):Prop where
 hw:H lw=some (.lst (qs.map fun q=>V.ref q.1))
 pr:∀ q∈qs,WkL a H p S q.1 q.2
 nd:∀ (i j:Nat) q r,qs[i]? = some q->qs[j]? = some r->(q.1=r.1\/q.2=r.2)->i=j
 fw:Far lw p S
 m1:lw ≠ d
 m2:lw ≠ l
theorem zF5 {qs:List (Addr × Addr)} {x:Addr} {b:Bool} {r:List V}:HO.lst (qs.map fun q=>V.ref q.1) ≠ HO.lst (V.ref x::V.bl b::r):=fun e=>by
 injection e with e
 match qs,e with
 | [],e=>simp at e
 | [_],e=>simp at e
 | _::_::_,e=>simp at e
theorem zJJ {cs:List Int} {x:Addr} {r:List V}:HO.lst (cs.map V.int) ≠ HO.lst (V.ref x::r):=fun e=>by
 injection e with e
 cases cs <;> simp at e
section
variable {w:World} {a:Ad} {tb:Bool} {H H':Hp} {p:Addr} {S S':Sh} {d:Addr} {ps:List En} {l:Addr} {es:List Tr} {lw:Addr} {qs:List (Addr × Addr)} {t x z:Addr} {W:Wk}
theorem K2.nel {o:HO} (k:K2 w a tb H p S d ps l es) (h:H z=some o) (ho:∀ c1 c2 c3 c4,o ≠ .lst [c1,c2,c3,c4]):z ≠ l:=fun e=>by
 obtain⟨_,_,h1,_⟩:=k.hl
 rw[← e,h] at h1
 injection h1 with h1
 exact ho _ _ _ _ h1
theorem K2.kp (k:K2 w a tb H p S d ps l es) (kp:∀ b o,H b=some o->b ≠ z->H' b=some o) (ts:TupS H H') (f:Far z p S) (n1:z ≠ d) (n2:z ≠ l):K2 w a tb H' p S d ps l es:=by
 obtain⟨bn,cp,h,b⟩:=k.hl
 exact⟨zKU k.A f kp ts,k.ok,k.cn,k.w0,kp _ _ k.hd (Ne.symm n1),k.en.same ts,k.ab,Yv ts k.tr,⟨bn,cp,kp _ _ h (Ne.symm n2),b⟩,k.fd,k.fl⟩
theorem K2.wk (k:K2 w a tb H p S d ps l es) (A:WkAt a.a_Walk H x p W) (b:But1 x H H'):K2 w a tb H' p S d ps l es :=
 k.kp b (A.tups b) (A.far k.A) (YN A.ob k.hd (by intro z;cases z)) (k.nel A.ob (by intro _ _ _ _ z;cases z))
theorem WkL.same (h:WkL a H p S t x) (g:Same H H'):WkL a H' p S t x:=by
 obtain⟨W,h1,h2,h3⟩:=h
 exact⟨W,g _ _ h1,h2.same g,h3⟩
theorem Wks.same (h:Wks a H p S d l lw qs) (g:Same H H'):Wks a H' p S d l lw qs:=⟨g _ _ h.hw,fun q hq=>(h.pr q hq).same g,h.nd,h.fw,h.m1,h.m2⟩
theorem Wks.kept (h:Wks a H p S d l lw qs) (k:K2 w a tb H p S d ps l es) (u:Up S S') (kl:Ya p d l S S' H H'):Wks a H' p S' d l lw qs:=by
 have ts:=k.tups kl
 have z:=kl _ _ h.hw h.fw h.m1 h.m2
 refine⟨z.1,fun q hq=>?_,h.nd,z.2,h.m1,h.m2⟩
 obtain⟨W,h1,h2,h3,h4,h5,h6⟩:=h.pr q hq
 have z1:=kl _ _ h1 h6 (YN h1 k.hd (by intro z;cases z)) (k.nel h1 (by intro _ _ _ _ z;cases z))
 have z2:=kl _ _ h2.ob (h2.far k.A) (YN h2.ob k.hd (by intro z;cases z)) (k.nel h2.ob (by intro _ _ _ _ z;cases z))
 exact⟨W,z1.1,⟨z2.1,ts _ _ h2.ch⟩,h3,Int.le_trans h4 u.1,Int.le_trans h5 u.2,z1.2⟩
theorem Wks.step {i:Nat} (h:Wks a H p S d l lw qs) (hi:qs[i]? = some (t,x)) (hy:WkL a H' p S t x) (kp:∀ b o,H b=some o->b ≠ t->b ≠ x->H' b=some o):Wks a H' p S d l lw qs:=by
 obtain⟨W0,w1,w2,_⟩:=h.pr _ (List.mem_of_getElem? hi)
 refine⟨kp _ _ h.hw (YN h.hw w1 zF5) (YN h.hw w2.ob (by intro z;cases z)),fun q hq=>?_,h.nd,h.fw,h.m1,h.m2⟩
 obtain⟨j,hj⟩:=List.getElem?_of_mem hq
 by_cases e:j=i
 ·subst e
  rw[hi] at hj
  cases hj
  exact hy
 ·obtain⟨W,h1,h2,h3⟩:=h.pr q hq
  exact⟨W,kp _ _ h1 (fun z=>e (h.nd _ _ _ _ hj hi (.inl z))) (YN h1 w2.ob (by intro z;cases z)),⟨kp _ _ h2.ob (YN h2.ob w1 (by intro z;cases z)) (fun z=>e (h.nd _ _ _ _ hj hi (.inr z))),kp _ _ h2.ch (YN h2.ch w1 (by intro z;cases z)) (YN h2.ch w2.ob (by intro z;cases z))⟩,h3⟩
theorem Wks.re {H0:Hp} {qs':List (Addr × Addr)} {i0:Nat} (h0:Wks a H0 p S d l lw qs) (ht:H0 t=none) (hx:H0 x=none) (g:Same H0 H) (hy:WkL a H p S t x) (one:∀ (n:Nat) q',qs'[n]? = some q'->qs[n]? = some q'\/(n=i0/\q'=(t,x))):Wks a (upd H lw (.lst (qs'.map fun q=>V.ref q.1))) p S d l lw qs':=by
 have h:=h0.same g
 have ts:=Q7 (o:=.lst (qs'.map fun q=>V.ref q.1)) h.hw
 have old:∀ (n:Nat) q,qs[n]? = some q->q.1 ≠ t/\q.2 ≠ x:=fun n q e=>by
  obtain⟨W,h1,h2,_⟩:=h0.pr q (List.mem_of_getElem? e)
  exact⟨QI h1 ht,QI h2.ob hx⟩
 refine⟨QF,fun q' hq=>?_,fun i j q' r e1 e2 hqr=>?_,h.fw,h.m1,h.m2⟩
 ·obtain⟨n,e⟩:=List.getElem?_of_mem hq
  have wl:WkL a H p S q'.1 q'.2:=by
   rcases one n q' e with z | ⟨_,z⟩
   ·exact h.pr _ (List.mem_of_getElem? z)
   ·rw[z];exact hy
  obtain⟨W,h1,h2,h3⟩:=wl
  exact⟨W,by rw[QG (fun z=>zF5 (by rw[z,h.hw] at h1;injection h1))];exact h1,⟨by rw[QG (YN h2.ob h.hw (by intro z;cases z))];exact h2.ob,ts _ _ h2.ch⟩,h3⟩
 ·rcases one i q' e1 with z1 | ⟨z1,y1⟩ <;> rcases one j r e2 with z2 | ⟨z2,y2⟩
  ·exact h0.nd i j q' r z1 z2 hqr
  ·have:=old i q' z1
   rw[y2] at hqr
   exact (hqr.elim this.1 this.2).elim
  ·have:=old j r z2
   rw[y1] at hqr
   exact (hqr.elim (fun z=>this.1 z.symm) (fun z=>this.2 z.symm)).elim
  ·omega
end
def zKu (w:World) (a:Ad):Sp:=fun vs H Q _=>∃ tb p S d ps l es t x,vs=[.ref d,.ref l,.ref t]/\K2 w a tb H p S d ps l es/\WkL a H p S t x/\∀ H',K2 w a tb H' p S d ps l es->WkL a H' p S t x->(∀ b o,H b=some o->b ≠ t->b ≠ x->H' b=some o)->Q (.bl true) H'
def zFi (w:World) (a:Ad):Sp:=fun vs H Q _=>∃ tb p S d ps l es bk,vs=[.ref p,.ref l,.bl bk]/\K2 w a tb H p S d ps l es/\∀ t x H',Same H H'->H t=none->H x=none->WkL a H' p S t x->Q (.ref t) H'
def zLB (a:Ad):Sp:=fun vs H Q _=>∃ ea,vs=[.ref ea]/\H ea=some (ExO ea (.ref a.a_Broken))/\Q (.bl true) H
theorem zBg (T:Txt K mg a):FnOk P w K mg base CX0 1 a.f_Lis_broken a.d_Lis_broken Zc (zLB a):=by
 refine T.F_Lis_broken.ok sc_Lis_broken (fun vs H Q E h=>?_) (fun cdv A outer s H vs Q E hr h=>?_)
 ·obtain⟨ea,rfl,_⟩:=h
  rfl
 have nd:=sc_Lis_broken.nd
 obtain⟨ea,rfl,hE,q⟩:=h
 refine⟨_,(QB (QS (PW.pt (Ji (QW (QL (YC (D:=a.a_Broken) (ea:=ea)) rfl T.z_isinstance boot_isinstance (QA (pv 0) (QA (Qh (v:=.ref a.a_Full) rfl T.m_Full rfl) QD)))) (Ji (QW (QL (YC (D:=a.a_Broken) (ea:=ea)) rfl T.z_isinstance boot_isinstance (QA (pv 0) (QA (Qh (v:=.ref a.a_Lacking) rfl T.m_Lacking rfl) QD)))) (Wt (QW (QL (YC (D:=a.a_Broken) (ea:=ea)) rfl T.z_isinstance boot_isinstance (QA (pv 0) (QA (Qh (v:=.ref a.a_NoKey) rfl T.m_NoKey rfl) QD)))))))) (QE (QK Q0)) QN)
 (QB (QS (PW.pt (Ji (QW (QL (YC (D:=a.a_Broken) (ea:=ea)) rfl T.z_isinstance boot_isinstance (QA (pv 0) (QA (Qh (v:=.ref a.a_NoSize) rfl T.m_NoSize rfl) QD)))) (Ji (QW (QL (YC (D:=a.a_Broken) (ea:=ea)) rfl T.z_isinstance boot_isinstance (QA (pv 0) (QA (Qh (v:=.ref a.a_NoText) rfl T.m_NoText rfl) QD)))) (Wt (QW (QL (YC (D:=a.a_Broken) (ea:=ea)) rfl T.z_isinstance boot_isinstance (QA (pv 0) (QA (Qh (v:=.ref a.a_NoDeed) rfl T.m_NoDeed rfl) QD)))))))) (QE (QK Q0)) QN)
 (QB (QS (PW.pt (Ji (QW (QL (YC (D:=a.a_Broken) (ea:=ea)) rfl T.z_isinstance boot_isinstance (QA (pv 0) (QA (Qh (v:=.ref a.a_NoName) rfl T.m_NoName rfl) QD)))) (Wt (QW (QL (YC (D:=a.a_Broken) (ea:=ea)) rfl T.z_isinstance boot_isinstance (QA (pv 0) (QA (Qh (v:=.ref a.a_Twice) rfl T.m_Twice rfl) QD))))))) (QE (QK Q0)) QN)
 (QE (QK (Yr (QL (YC (D:=a.a_Broken) (ea:=ea)) rfl T.z_isinstance boot_isinstance (QA (pv 0) (QA (Qh (v:=.ref a.a_Broken) rfl T.m_Broken rfl) QD))) (Yp (QL (YC (D:=a.a_Broken) (ea:=ea)) rfl T.z_isinstance boot_isinstance (QA (pv 0) (QA (Qb (v:=.ty "ValueError") rfl T.z_ValueError zAQ rfl) QD)))))))))),?_⟩
 try walk_at "rd"
 iterate 9 ((try simp only[Yk hE T.i_Broken (ClsV.own _) T.k_Broken_Full,Yk hE T.i_Broken (ClsV.own _) T.k_Broken_Lacking,Yk hE T.i_Broken (ClsV.own _) T.k_Broken_NoKey,Yk hE T.i_Broken (ClsV.own _) T.k_Broken_NoSize,Yk hE T.i_Broken (ClsV.own _) T.k_Broken_NoText,Yk hE T.i_Broken (ClsV.own _) T.k_Broken_NoDeed,Yk hE T.i_Broken (ClsV.own _) T.k_Broken_NoName,Yk hE T.i_Broken (ClsV.own _) T.k_Broken_Twice,Yk hE T.i_Broken (ClsV.own _) T.k_Broken_Broken,Yk hE T.i_Broken (ClsV.ty _) T.k_Broken]);(try walk_at "rd"))
 exact q
theorem zDg (T:Txt K mg a)(G_Ldue:FnOk P w K mg base CX0 1 a.f_Ldue a.d_Ldue zEu (zKy w a))(G_Walk_step:FnOk P w K mg base (CXe P w) 5 a.f_Walk_step a.d_Walk_step Z8 (zF6 a))(G_Lsame:FnOk P w K mg base CX0 5 a.f_Lsame a.d_Lsame WL (zHh 4))(G_Lis_broken:FnOk P w K mg base CX0 1 a.f_Lis_broken a.d_Lis_broken Zc (zLB a)):FnOk P w K mg base CX0 7 a.f_Lstepped a.d_Lstepped W7 (zKu w a):=by
 refine T.F_Lstepped.ok sc_Lstepped (fun vs H Q E h=>?_) (fun cdv A outer s H vs Q E hr h=>?_)
 ·obtain⟨tb,p,S,d,ps,l,es,t,x,rfl,_⟩:=h
  rfl
 have nd:=sc_Lstepped.nd
 obtain⟨tb,p,S,d,ps,l,es,t,x,rfl,kk,wl,q⟩:=h
 obtain⟨bmE,xBookError⟩:=T.x_BookError
 obtain⟨bmB,xB⟩:=T.x_Broken
 refine⟨_,(QB (QT (i:=3) nd rfl (Or.inl rfl) Qm)
 (QB (QT (i:=4) nd rfl (Or.inl rfl) Qm)
 (QB (zDc (i:=5) ⟨rfl,rfl,rfl⟩ (fun pl RX=>(QE (QT (i:=4) nd rfl (Or.inl rfl) (zBx (Qa Qs (pv 2) QC (fun _ _=>rfl)) T.cl_Walk T.M_Walk_step (G_Walk_step.mono (by decide)) hr T.b_Walk_step .nil)))) rfl T.m_BookError xBookError (fun ea=>(QE (QT (i:=3) nd rfl (Or.inl rfl) (pv 5)))) nd rfl rfl)
 (QB (QS (QW (Qa Qs (pv 2) QC (fun _ _=>rfl))) (QE (QK (Yr (Qx ZI (pv 3) Qm (QP _)) (Yp (Qx ZI (pv 4) Qm (QP _)))))) QN)
 (QB (QS (QQ zFY (Qa Qs (pv 2) QC (fun _ _=>rfl)) (Qa Qs (pv 1) QC (fun _ _=>rfl)) (QP _)) (QE (QK (Yr (Qx Za (pv 3) Qm (QP _)) (Yp (QO (G_Lis_broken.mono (by decide)) hr rfl T.m_Lis_broken T.F_Lis_broken.kp T.b_Lis_broken .nil QR (QA (pv 3) QD)))))) QN)
 (QB (QS (QQ Za (pv 3) Qm (QP _)) (QE (QK Q0)) QN)
 (QB (QT (i:=6) nd rfl (Or.inl rfl) (QO (G_Ldue.mono (by decide)) hr rfl T.m_Ldue T.F_Ldue.kp T.b_Ldue .nil QR (QA (pv 0) (QA (Qa Qs (pv 2) QC (fun _ _=>rfl)) (QA (Qa Qs (pv 2) QC (fun _ _=>rfl)) QD)))))
 (QB (QS (QQ ZI (pv 6) Qm (QP _)) (QB (YG Q0 (YH (pv 2) QC Y2))
 (QE (QK (Qx ZI (pv 4) Qm (QP _))))) QN)
 (QB (YG (Qa Qs (Jf hr.units (pv 0) (pv 6) (fun _ _=>rfl)) QC (fun _ _=>rfl)) (YH (pv 2) QC Y2))
 (QE (QK (QO (G_Lsame.mono (by decide)) hr rfl T.m_Lsame T.F_Lsame.kp T.b_Lsame .nil QR (QA (pv 4) (QA (YI (QA (pv 6) (QA (Qa Qs (Jf hr.units (pv 0) (pv 6) (fun _ _=>rfl)) QC (fun _ _=>rfl)) QD))) QD)))))))))))))),?_⟩
 obtain⟨W,ht,A,st,lca,lwe,ft⟩:=wl
 obtain⟨xs,hr2,_⟩:=kk.A.hr
 obtain⟨bn,cp,hl,bk⟩:=kk.hl
 have ntx:t ≠ x:=YN ht A.ob (by intro z;cases z)
 have nlx:l ≠ x:=YN hl A.ob (by intro z;cases z)
 have ntd:t ≠ d:=YN ht kk.hd (by intro z;cases z)
 have ntl:t ≠ l:=kk.nel ht (by intro _ _ _ _ z;cases z)
 have fin:∀ (W':Wk) H1 H2 H3,But1 x H H1->WkAt a.a_Walk H1 x p W'->W'.st=true->W'.ca=W.ca->W'.we=W.we->Same H1 H2->Same (upd H2 t (.lst [.ref x,.bl W'.bk,.int W'.la,.bl W'.ov,.int (W'.ca+W'.we)])) H3->Q (V.bl true) H3:=fun W' H1 H2 H3 b1 A1 s1 s2 s3 g2 g3=>by
  have h2:=g2 _ _ (b1 _ _ ht ntx)
  have tu:=Q7 (o:=.lst [.ref x,.bl W'.bk,.int W'.la,.bl W'.ov,.int (W'.ca+W'.we)]) h2
  have A2:=A1.same g2
  exact q H3 ((((kk.wk A b1).same g2).kp (fun b o e n=>by rw[QG n];exact e) tu ft ntd ntl).same g3) ⟨W',g3 _ _ QF,⟨g3 _ _ (by rw[QG (Ne.symm ntx)];exact A2.ob),g3 _ _ (tu _ _ A2.ch)⟩,s1,by omega,by omega,ft⟩ (fun b o e n1 n2=>g3 _ _ (by rw[QG n1];exact g2 _ _ (b1 _ _ e n2)))
 try walk_at "rd"
 rw[QV ht (v:=V.ref x) rfl,zHe A (by decide +kernel)]
 refine⟨tb,x,p,W,S,xs,rfl,A,kk.A,hr2,st,(fun eo=>?_),(fun eo es1 en H1 b1 A1=>?_),(fun eo es1 e t3 H1 en b1 A1 ht3=>?_),fun eo nb ea H1 g1 he=>?_⟩
 case refine_1 =>
  try walk_at "rd"
  rw[QV ht (v:=V.bl W.ov) rfl]
  refine⟨_,rfl,?_⟩
  refine Y5 eo ?_
  exact q H kk ⟨W,ht,A,st,lca,lwe,ft⟩ (fun _ _ e _ _=>e)
 case refine_4 =>
  refine⟨ea,rfl,_,rfl,bmB,xB,xB.sub T.s_Broken_BookError,?_⟩
  have g2:=g1.trans (QH (o:=ExO ea (.ref a.a_Broken)) he)
  have hE:=QF (H:=H1) (a:=ea) (o:=ExO ea (.ref a.a_Broken))
  try walk_at "rd"
  generalize upd H1 ea (ExO ea (.ref a.a_Broken))=H2 at g2 hE ⊢
  rw[QV (g2 _ _ ht) (v:=V.bl W.ov) rfl]
  refine⟨_,rfl,?_⟩
  refine YO (by rw[eo];decide) ?_
  rw[QV (g2 _ _ ht) (v:=V.int (W.ca+W.we)) rfl,QV (g2 _ _ hl) (v:=V.int (S.ca+S.we)) rfl]
  try walk_at "rd"
  refine Y5 (by omega) ?_
  exact⟨ea,rfl,hE,q H2 (kk.same g2) (WkL.same ⟨W,ht,A,st,lca,lwe,ft⟩ g2) (fun b o e _ _=>g2 _ _ e)⟩
 all_goals
  obtain⟨es2,es3⟩:=es1
  have ht1:=b1 _ _ ht ntx
  have hl1:=b1 _ _ hl nlx
  have k1:=kk.wk A b1
  try walk_at "rd"
  rw[QV ht1 (v:=V.bl W.ov) rfl]
  refine⟨_,rfl,?_⟩
  refine YO (by rw[eo];decide) ?_
  rw[QV ht1 (v:=V.int (W.ca+W.we)) rfl,QV hl1 (v:=V.int (S.ca+S.we)) rfl]
  try walk_at "rd"
  refine YO (by omega) ?_
  rw[QV ht1 (v:=V.bl W.bk) rfl,QV ht1 (v:=V.int W.la) rfl]
 ·rcases zF0 kk.A hr2 kk.ab.1 (bk:=W.bk) (n:=W.la) with ⟨_,e2⟩ | ⟨e,q',e1,_⟩
  case inr=>rw[en] at e1;cases e1
  refine⟨tb,p,S,d,ps,l,es,W.bk,W.la,rfl,k1,(fun _ H2 g2=>?_),fun q2 y H2 hq=>by rw[e2] at hq;cases hq⟩
  try walk_at "rd"
  rw[YD (g2 _ _ ht1) (k:=3) (j:=3) rfl (by show 3 < 5;decide)]
  exact fin { W with ov:=true } H1 H2 _ b1 A1 st rfl rfl g2 (Same.refl _)
 ·rcases zF0 kk.A hr2 kk.ab.1 (bk:=W.bk) (n:=W.la) with ⟨e1,_⟩ | ⟨e',q',e1,e2,hk,h1,h2⟩
  case inl=>rw[en] at e1;cases e1
  rw[en] at e1
  cases e1
  refine⟨tb,p,S,d,ps,l,es,W.bk,W.la,rfl,k1,(fun z=>by rw[e2] at z;cases z),fun q2 y H2 hq g2 hky=>?_⟩
  rw[e2] at hq
  cases hq
  try walk_at "rd"
  refine YO (zL7 hky) ?_
  have k2:=k1.same g2
  have ht2:=g2 _ _ ht1
  obtain⟨v,hv,⟨tv,rfl,hv1,hv2⟩,hd⟩:=k2.of (zJs e2).1
  rw[← h1] at hv1
  refine⟨ps,k2.hd,k2.en,q'.1,hky,by omega,_,hv,?_⟩
  rw[Q2 (v:=V.int e.1) hv1 rfl,YD ht2 (k:=2) (j:=2) rfl (by show 2 < 5;decide)]
  have tu:=Q7 (o:=.lst [.ref x,.bl W.bk,.int e.1,.bl W.ov,.int (W.ca+W.we)]) ht2
  have k3:=k2.kp (fun b o e n=>by rw[QG n];exact e) tu ft ntd ntl
  have f3:=fun H3=>fin { W with la:=e.1 } H1 H2 H3 b1 A1 st rfl rfl g2
  simp only[List.set_cons_succ,List.set_cons_zero]
  generalize upd H2 t (.lst [.ref x,.bl W.bk,.int e.1,.bl W.ov,.int (W.ca+W.we)])=H3 at tu k3 f3 ⊢
  refine⟨ps,k3.hd,k3.en,q'.1,hky.same tu,by omega,_,hv,?_⟩
  rw[Q2 (v:=q'.2.2) (tu _ _ hv1) rfl]
  refine⟨by decide,fun t4 ht4=>?_⟩
  have g4:=QH (o:=HO.tup [y,q'.2.2]) ht4
  refine⟨_,_,rfl,.inr ⟨t3,t4,_,_,rfl,rfl,g4 _ _ (tu _ _ (g2.tups _ _ ht3)),QF,rfl,(show 2<=1000 by decide),fun n u z hu hz=>?_⟩,fun H5 g5=>f3 H5 (g4.trans g5)⟩
  match n,hu,hz with
  | 0,hu,hz=>cases hu;cases hz;exact IsK.sm ((((hk.same (A.tups b1)).same g2.tups).same tu).same g4.tups) ((hky.same tu).same g4.tups) hd
  | 1,hu,hz=>cases hu;cases hz;rw[h2];exact ((hv2.same tu).same g4.tups).up.up
theorem zJp (T:Txt K mg a)(G_Walk___init__:FnOk P w K mg base CX0 4 a.f_Walk___init__ a.d_Walk___init__ YB (zF3 a)):FnOk P w K mg base CX0 6 a.f_Lnew a.d_Lnew zET (zFi w a):=by
 refine T.F_Lnew.ok sc_Lnew (fun vs H Q E h=>?_) (fun cdv A outer s H vs Q E hr h=>?_)
 ·obtain⟨tb,p,S,d,ps,l,es,bk,rfl,_⟩:=h
  rfl
 have nd:=sc_Lnew.nd
 obtain⟨tb,p,S,d,ps,l,es,bk,rfl,kk,q⟩:=h
 refine⟨_,(QB (QS (QW (pv 2)) (QE (QK (YK (QA (zDJ T.mk_Walk (G_Walk___init__.mono (by decide)) hr rfl T.m_Walk T.b_Walk___init___0 .nil QR (QA (pv 0) (QA Q0 (QA Q0 QD)))) (QA Q0 (QA (QM YF (Qa Qs (pv 1) QC (fun _ _=>rfl)) QC) (QA Q0 (QA (Qa Qs (pv 1) QC (fun _ _=>rfl)) QD)))))))) QN)
 (QE (QK (YK (QA (zHZ T.mk_Walk (G_Walk___init__.mono (by decide)) hr rfl T.m_Walk T.bk_Walk___init__ (.cons (show RelV (V.bl false) (Value.bool false) from rfl) .nil) QR (QA (pv 0) QD) Q0) (QA Q0 (QA QC (QA Q0 (QA (Qa Qs (pv 1) QC (fun _ _=>rfl)) QD))))))))),?_⟩
 obtain⟨bn,cp,hl,_⟩:=kk.hl
 try walk_at "rd"
 refine YZ (fun c=>?_) (fun c=>?_)
 ·intro x dx nx nd ne
  have g0:Same H (upd (upd H dx (HO.own x)) x (HO.ins a.a_Walk dx [])):=fun b o e=>by rw[QG (QI e nx),QG (QI e nd)];exact e
  refine⟨tb,x,dx,p,S,true,true,rfl,QF,kk.A.same g0,fun W H2 b2 A2 e1 e2 e3 e4 e5 e6=>⟨rfl,?_⟩⟩
  have g2:Same H H2:=fun b o e=>b2 _ _ (g0 _ _ e) (QI e nx)
  rw[QV (g2 _ _ hl) (v:=V.int S.ca) rfl]
  refine⟨_,rfl,?_⟩
  rw[QV (g2 _ _ hl) (v:=V.int (S.ca+S.we)) rfl]
  refine⟨by decide,fun t ht=>?_⟩
  have g3:=QH (o:=HO.lst [.ref x,.bl true,.int (S.ca+1),.bl false,.int (S.ca+S.we)]) ht
  exact q t x _ (g2.trans g3) (g2.free ht) nx ⟨W,by rw[QF,e1,e3,e4,e5,e6];rfl,A2.same g3,e2,by omega,by omega,ZP (kk.A.same g2) ht⟩
 ·intro x dx nx nd ne
  have g0:Same H (upd (upd H dx (HO.own x)) x (HO.ins a.a_Walk dx [])):=fun b o e=>by rw[QG (QI e nx),QG (QI e nd)];exact e
  refine⟨tb,x,dx,p,S,false,true,rfl,QF,kk.A.same g0,fun W H2 b2 A2 e1 e2 e3 e4 e5 e6=>⟨rfl,?_⟩⟩
  have g2:Same H H2:=fun b o e=>b2 _ _ (g0 _ _ e) (QI e nx)
  rw[QV (g2 _ _ hl) (v:=V.int (S.ca+S.we)) rfl]
  refine⟨by decide,fun t ht=>?_⟩
  have g3:=QH (o:=HO.lst [.ref x,.bl false,.int 0,.bl false,.int (S.ca+S.we)]) ht
  exact q t x _ (g2.trans g3) (g2.free ht) nx ⟨W,by rw[QF,e1,e3,e4,e5,e6];rfl,A2.same g3,e2,by omega,by omega,ZP (kk.A.same g2) ht⟩
end
def zJB (a:Ad):Sp:=fun vs H Q _=>∃ c,vs=[.int c]/\0<=c/\c < 3/\∀ tb p S H',Same H H'->ShAt (cA a tb) H' p S->(tb=false->S.n=(if c=1 then 8 else 512))->(tb=decide (c=0))->S.os=[]->S.hs=[]->S.ms=[]->S.ca=0->S.we=0->Q (.ref p) H'
section
variable {P:Program} {w:World} {K:W.Frag} {mg:Str->Option Value} {base:Heap} {a:Ad}
theorem zDR (T:Txt K mg a):FnOk P w K mg base CX0 1 a.f_Lvalue_by a.d_Lvalue_by Y9 zEW:=by
 refine T.F_Lvalue_by.ok sc_Lvalue_by (fun vs H Q E h=>?_) (fun cdv A outer s H vs Q E hr h=>?_)
 ·obtain⟨n,rfl,_⟩:=h
  rfl
 have nd:=sc_Lvalue_by.nd
 obtain⟨n,rfl,q⟩:=h
 refine⟨_,(QB (QS (QQ Qy (QM QY (pv 0) QC) QC (QP _)) (QE (QK Qm)) QN)
 (QB (QS (QQ Qy (QM QY (pv 0) QC) QC (QP _)) (QE (QK YL)) QN)
 (QB (QS (QQ Qy (QM QY (pv 0) QC) QC (QP _)) (QE (QK (YI (QA (QM QY (QM Qj (pv 0) QC) QC) (QA YL QD))))) QN)
 (QB (QS (QQ Qy (QM QY (pv 0) QC) QC (QP _)) (QE (QK (QM Y7 (QM QY (QM Qj (pv 0) QC) QC) QC))) QN)
 (QE (QK (QM YF (QM Y7 (QM QY (QM Qj (pv 0) QC) (QM Y7 (QM Ys QC (QM Wv QC QC)) QC)) (QM Wv QC QC)) QC))))))),?_⟩
 have q0:∀ v,Lf3 v->Q v H:=fun v h=>q v H (Same.refl H) (.leaf h)
 try walk_at "rd"
 refine YZ (fun _=>q0 _ (.inr (.inr rfl))) (fun _=>YZ (fun _=>q0 _ (.inr (.inl ⟨_,rfl⟩))) (fun _=>YZ (fun _=>⟨by decide,fun p hp=>?_⟩) (fun _=>YZ (fun _=>q0 _ (.inl ⟨_,rfl⟩)) (fun _=>⟨.inl ⟨by decide,by decide⟩,q0 _ (.inl ⟨_,rfl⟩)⟩))))
 refine q _ _ (QH hp) (.inr ⟨p,p,_,_,rfl,rfl,QF,QF,rfl,(show 2<=1000 by decide),fun i u v hu hv=>?_⟩)
 match i,hu,hv with
 | 0,hu,hv=>cases hu;cases hv;exact⟨rfl,.inl ⟨_,rfl⟩⟩
 | 1,hu,hv=>cases hu;cases hv;exact⟨rfl,.inr (.inl ⟨_,rfl⟩)⟩
theorem zIe (T:Txt K mg a)(G_H__init__:FnOk P w K mg base CX0 12 a.f_H__init__ a.d_H__init__ Yl (zEh (cA a false)))(G_T__init__:FnOk P w K mg base CX0 13 a.f_T__init__ a.d_T__init__ WG (zFj (cA a true))):FnOk P w K mg base CX0 15 a.f_Lbook a.d_Lbook zCf (zJB a):=by
 refine T.F_Lbook.ok sc_Lbook (fun vs H Q E h=>?_) (fun cdv A outer s H vs Q E hr h=>?_)
 ·obtain⟨c,rfl,_⟩:=h
  rfl
 have nd:=sc_Lbook.nd
 obtain⟨c,rfl,c0,c3,q⟩:=h
 refine⟨_,(QB (QS (QQ Qy (QM QY (pv 0) QC) QC (QP _)) (QE (QK (zDJ T.mk_Shelf (G_H__init__.mono (by decide)) hr rfl T.m_Shelf T.b_H__init___0 .nil QR (QA QC QD)))) QN)
 (QB (QS (QQ Qy (QM QY (pv 0) QC) QC (QP _)) (QE (QK (zDJ T.mk_Shelf (G_H__init__.mono (by decide)) hr rfl T.m_Shelf T.b_H__init___0 .nil QR (QA QC QD)))) QN)
 (QE (QK (zIi T.mk_Table (G_T__init__.mono (by decide)) hr rfl T.m_Table T.b_T__init__ .nil QR))))),?_⟩
 try walk_at "rd"
 have hc:c=0\/c=1\/c=2:=by omega
 rcases hc with rfl | rfl | rfl
 ·(try walk_at "rd")
  intro p dx np nx ne
  refine⟨p,dx,rfl,QF,fun S H2 kp A en eo eh em eca ewe eti emo=>⟨rfl,?_⟩⟩
  have g2:Same H H2:=fun b o e=>kp b o (by rw[QG (QI e np),QG (QI e nx)];exact e) (QI e np)
  exact q true p S H2 g2 A (fun z=>by cases z) rfl eo eh em eca ewe
 ·(try walk_at "rd")
  intro p dx np nx ne
  refine⟨p,dx,8,rfl,QF,by unfold S8;omega,fun S H2 kp A en ecs eo eh em eca ewe eti emo=>⟨rfl,?_⟩⟩
  have g2:Same H H2:=fun b o e=>kp b o (by rw[QG (QI e np),QG (QI e nx)];exact e) (QI e np)
  exact q false p S H2 g2 A (fun _=>by rw[en];try rfl) (by decide) eo eh em eca ewe
 ·(try walk_at "rd")
  intro p dx np nx ne
  refine⟨p,dx,512,rfl,QF,by unfold S8;omega,fun S H2 kp A en ecs eo eh em eca ewe eti emo=>⟨rfl,?_⟩⟩
  have g2:Same H H2:=fun b o e=>kp b o (by rw[QG (QI e np),QG (QI e nx)];exact e) (QI e np)
  exact q false p S H2 g2 A (fun _=>by rw[en];try rfl) (by decide) eo eh em eca ewe
end
section
variable {P:Program} {w:World} {K:W.Frag} {mg:Str->Option Value} {base:Heap} {a:Ad} {tb:Bool}
open Builtin.Int (intBits) in
def zED (K:W.Frag):Sp:=fun vs H Q _=>∃ (a:Addr) (ns:List Int),vs=[.ref a]/\SqL K H a (ns.map V.int)/\ns.length<=63/\(∀ x∈ns,intBits x<=2 ^ 20)/\∀ H',Q (.bl true) H'
theorem zGP (ns:List Int) (lo hi:Option Int):∃ cells:List Int,zD7 (ns.map V.int) lo hi=cells.map V.int/\cells.length<=ns.length/\∀ x∈cells,x∈ns:=by
 unfold zD7
 rw[← List.map_drop,← List.map_take]
 exact⟨_,rfl,by rw[List.length_take,List.length_drop];omega,fun x hx=>List.mem_of_mem_drop (List.mem_of_mem_take hx)⟩
def zNb (w:World) (a:Ad) (tb:Bool) (p d st lw l:Addr) (cs:List V) (F:List (Option V)->L2.St) (i:Nat) (σ:L2.St) (H':Hp):Prop:=∃ (S:Sh) (ps:List En) (es:List Tr) (qs:List (Addr × Addr)) (q1 q2 q3 q4:Option V),K2 w a tb H' p S d ps st es/\Wks a H' p S d st lw qs/\2<=qs.length/\qs.length<=4/\S.ca<=4*(i:Int)/\H' l=some (.lst cs)/\Far l p S/\l ≠ d/\l ≠ st/\l ≠ lw/\σ=F [q1,q2,q3,q4]
def zNT (w:World) (a:Ad) (tb:Bool) (p:Addr) (S:Sh) (d:Addr) (ps:List En) (st:Addr) (es:List Tr) (lw:Addr) (qs:List (Addr × Addr)) (l:Addr) (cs:List V) (F:Option V->L2.St) (i:Nat) (σ:L2.St) (H':Hp):Prop:=∃ q1:Option V,K2 w a tb H' p S d ps st es/\Wks a H' p S d st lw qs/\H' l=some (.lst cs)/\σ=F q1
theorem K2.zero {w:World} {a:Ad} {tb:Bool} {H:Hp} {p:Addr} {S:Sh} {d l:Addr} {cp:Int} (A:ShAt (cA a tb) H p S) (eo:S.os=[]) (eh:S.hs=[]) (em:S.ms=[]) (eca:S.ca=0) (ewe:S.we=0) (hd:H d=some (dko w d [])) (hl:H l=some (.lst [.int 0,.int 0,.int 0,.int cp])) (c1:tb=false->cp=(2*S.n / 3:Nat)) (c2:tb=true->cp=1000) (fd:Far d p S) (fl:Far l p S):K2 w a tb H p S d [] l [] :=
 ⟨A,by rw[eo];exact fun k hk=>(by cases hk),by unfold Cnt;rw[eca,ewe,eo];rfl,by rw[ewe];decide,hd,EnOk.nil,⟨by rw[eo,em,eh];rfl,rfl,List.Pairwise.nil,fun e he=>by cases he⟩,.nil,⟨0,cp,by rw[hl,eca,ewe];rfl,fun z=>⟨by rw[eo];rfl,c1 z⟩,fun z=>⟨by rw[eca];decide,c2 z⟩⟩,fd,fl⟩
theorem zHq {α:Type} {qs:List α} {v:α} (n:Nat) (q':α) (e:(qs++[v])[n]? = some q'):qs[n]? = some q'\/(n=qs.length/\q'=v):=by
 rcases Nat.lt_or_ge n qs.length with z | z
 ·rw[List.getElem?_append_left z] at e;exact .inl e
 ·have:n < (qs++[v]).length:=(List.getElem?_eq_some_iff.mp e).1
  rw[List.length_append,List.length_singleton] at this
  obtain rfl:n=qs.length:=by omega
  rw[List.getElem?_append_right (Nat.le_refl _),Nat.sub_self] at e
  cases e
  exact .inr ⟨rfl,rfl⟩
theorem zJQ {α:Type} {qs:List α} {v:α} {i:Nat} (n:Nat) (q':α) (e:(qs.set i v)[n]? = some q'):qs[n]? = some q'\/(n=i/\q'=v):=by
 by_cases z:i=n
 ·subst z
  have:i < qs.length:=by have:=(List.getElem?_eq_some_iff.mp e).1;rwa [List.length_set] at this
  rw[List.getElem?_set_self this] at e
  cases e
  exact .inr ⟨rfl,rfl⟩
 ·rw[List.getElem?_set_ne z] at e
  exact .inl e
theorem zNY (T:Txt K mg a)(G_Lcell_at:FnOk P w K mg base CX0 1 a.f_Lcell_at a.d_Lcell_at W1 (zHW K))(G_Lbook:FnOk P w K mg base CX0 15 a.f_Lbook a.d_Lbook zCf (zJB a))(G_Ldeed:FnOk P w K mg base CX0 17 a.f_Ldeed a.d_Ldeed zCg (zDi w a))(G_Lnew:FnOk P w K mg base CX0 6 a.f_Lnew a.d_Lnew zET (zFi w a))(G_Lstepped:FnOk P w K mg base CX0 7 a.f_Lstepped a.d_Lstepped W7 (zKu w a)):FnOk P w K mg base CX0 18 a.f_law a.d_law zH8 (zED K):=by
 refine T.F_law.ok sc_law (fun vs H Q E h=>?_) (fun cdv A outer s H vs Q E hr h=>?_)
 ·obtain⟨b,ns,rfl,_⟩:=h
  rfl
 have nd:=sc_law.nd
 obtain⟨b,ns,rfl,hS,h63,hbits,q⟩:=h
 refine⟨_,(QB (QT (i:=1) nd rfl (Or.inl rfl) (QM QY (QO (G_Lcell_at.mono (by decide)) hr rfl T.m_Lcell_at T.F_Lcell_at.kp T.b_Lcell_at .nil QR (QA (pv 0) (QA QC QD))) QC))
 (QB (QT (i:=2) nd rfl (Or.inl rfl) (QM QY (QM Qj (QO (G_Lcell_at.mono (by decide)) hr rfl T.m_Lcell_at T.F_Lcell_at.kp T.b_Lcell_at .nil QR (QA (pv 0) (QA QC QD))) QC) QC))
 (QB (QT (i:=3) nd rfl (Or.inl rfl) (QO (G_Lbook.mono (by decide)) hr rfl T.m_Lbook T.F_Lbook.kp T.b_Lbook .nil QR (QA (pv 2) QD)))
 (QB (QT (i:=4) nd rfl (Or.inr rfl) zJV)
 (QB (QT (i:=5) nd rfl (Or.inr rfl) (YK (QA QC (QA QC (QA QC (QA (Qa Qs (YK (QA QC (QA QC (QA QC QD)))) (pv 2) (fun _ _=>rfl)) QD))))))
 (QB (QT (i:=6) nd rfl (Or.inl rfl) (YK (QA (QO (G_Lnew.mono (by decide)) hr rfl T.m_Lnew T.F_Lnew.kp T.b_Lnew .nil QR (QA (pv 3) (QA (pv 5) (QA Q0 QD)))) (QA (QO (G_Lnew.mono (by decide)) hr rfl T.m_Lnew T.F_Lnew.kp T.b_Lnew .nil QR (QA (pv 3) (QA (pv 5) (QA Q0 QD)))) QD))))
 (QB (Zj PassesOwn.never rfl (WT (zDd zKY (pv 0) (zAe QC) (zAe QC))) (YU (i:=7) nd rfl (Or.inl rfl)) (QB (QT (i:=8) nd rfl (Or.inl rfl) (QM Qj (pv 7) QC))
 (QB (QT (i:=9) nd rfl (Or.inl rfl) (Qa Qs (pv 6) (QM QY (QM Qj (pv 8) QC) (QL Qd rfl T.z_len PySem.boot_len (QA (pv 6) QD))) (fun _ _=>rfl)))
 (QE (QS (QQ Qy (QM QY (pv 7) QC) QC (QP _)) (QE (QS (Ww (QW (QO (G_Ldeed.mono (by decide)) hr rfl T.m_Ldeed T.F_Ldeed.kp T.b_Ldeed .nil QR (QA (pv 3) (QA (pv 4) (QA (pv 5) (QA (pv 1) (QA (pv 8) QD)))))))) (QE (QK Q0)) QN)) (QE (QS (QQ WY (QM QY (pv 7) QC) QC (QP _)) (QE (Zj PassesOwn.never rfl (WQ rfl T.z_range (QA (QM YF QC (QM QY (pv 8) QC)) QD)) (YU (i:=10) nd rfl (Or.inl rfl)) (QE (QS (Ww (QW (QO (G_Lstepped.mono (by decide)) hr rfl T.m_Lstepped T.F_Lstepped.kp T.b_Lstepped .nil QR (QA (pv 4) (QA (pv 5) (QA (pv 9) QD)))))) (QE (QK Q0)) QN)))) (QE (QS (QQ WY (QL Qd rfl T.z_len PySem.boot_len (QA (pv 6) QD)) QC (QP _)) (QE (Qe (zDk PySem.F.plainAttrs_list PySem.F.slot_list_append PySem.F.type_list_append JU (pv 6) (QA (QO (G_Lnew.mono (by decide)) hr rfl T.m_Lnew T.F_Lnew.kp T.b_Lnew .nil QR (QA (pv 3) (QA (pv 5) (QA (Qx Qy (QM QY (pv 8) QC) QC (QP _)) QD)))) QD)))) (QE (YG (QO (G_Lnew.mono (by decide)) hr rfl T.m_Lnew T.F_Lnew.kp T.b_Lnew .nil QR (QA (pv 3) (QA (pv 5) (QA (Qx Qy (QM QY (pv 8) QC) QC (QP _)) QD)))) (YH (pv 6) (QM QY (QM Qj (pv 8) QC) QC) Y2))))))))))))
 (QE (QK (QL (zBT rfl) rfl T.z_all boot_all (QA (zFm "_law_one" ["_law_rows", "_law_born"] [4,5] rfl ⟨rfl,rfl,by decide +kernel,by decide +kernel,rfl,by decide +kernel,by decide +kernel,rfl,by decide +kernel⟩ rfl (WT (pv 6)) (fun C s1 H1 fp=>(QO (G_Lstepped.mono (by decide)) hr rfl T.m_Lstepped T.F_Lstepped.kp T.b_Lstepped .nil QR (QA (pv 1) (QA (pv 2) (QA (pv 0) QD)))))) QD))))))))))),?_⟩
 try walk_at "rd"
 refine⟨b,ns,0,rfl,hS,by decide,?_⟩
 try walk_at "rd"
 refine⟨b,ns,0,rfl,hS,by decide,?_⟩
 try walk_at "rd"
 have kd0:0<=Zy ns 0 / 7 % 3:=by omega
 have kd3:Zy ns 0 / 7 % 3 < 3:=by omega
 generalize Zy ns 0 / 7 % 3=kd at kd0 kd3 ⊢
 refine⟨_,rfl,kd0,kd3,fun tb p S H1 g1 A sh etb eo eh em eca ewe=>?_⟩
 intro d hd0
 have g2:=QH (o:=dko w d []) hd0
 have d2:=QF (H:=H1) (a:=d) (o:=dko w d [])
 have A2:=A.same g2
 have fd:=ZP A hd0
 show 3<=sizeLine/\∀ (l0:Addr),(upd H1 d (dko w d [])) l0=none->ixC (V.ref l0) (V.int kd) (upd (upd H1 d (dko w d [])) l0 (HO.lst [V.int 1000,V.int 5,V.int 341])) _
 have G2:=g1.trans g2
 generalize upd H1 d (dko w d [])=H2 at g2 d2 A2 G2 ⊢
 refine⟨by decide,fun l0 hl0=>?_⟩
 have g3:=QH (o:=HO.lst [V.int 1000,V.int 5,V.int 341]) hl0
 have hl3:=QF (H:=H2) (a:=l0) (o:=HO.lst [V.int 1000,V.int 5,V.int 341])
 have A3:=A2.same g3
 have d3:=g3 _ _ d2
 have G3:=G2.trans g3
 generalize upd H2 l0 (HO.lst [V.int 1000,V.int 5,V.int 341])=H3 at hl3 A3 d3 G3 ⊢
 obtain⟨cp,hcp,cp1,cp2⟩:∃ cp:Int,atI [V.int 1000,V.int 5,V.int 341] kd=some (V.int cp)/\(tb=false->cp=(2*S.n / 3:Nat))/\(tb=true->cp=1000):=by
  have hc:kd=0\/kd=1\/kd=2:=by omega
  rcases hc with z | z | z <;> subst z
  ·exact⟨1000,rfl,(fun y=>by rw[etb] at y;cases y),fun _=>rfl⟩
  ·exact⟨5,rfl,(fun y=>by rw[sh y];rfl),fun y=>by rw[etb] at y;cases y⟩
  ·exact⟨341,rfl,(fun y=>by rw[sh y];rfl),fun y=>by rw[etb] at y;cases y⟩
 rw[QV hl3 hcp]
 refine⟨by decide,fun st hst=>?_⟩
 have g4:=QH (o:=HO.lst [V.int 0,V.int 0,V.int 0,V.int cp]) hst
 have k4:K2 w a tb (upd H3 st (HO.lst [V.int 0,V.int 0,V.int 0,V.int cp])) p S d [] st []:=K2.zero (A3.same g4) eo eh em eca ewe (g4 _ _ d3) QF cp1 cp2 fd (ZP A3 hst)
 have G4:=G3.trans g4
 generalize upd H3 st (HO.lst [V.int 0,V.int 0,V.int 0,V.int cp])=H4 at k4 G4 ⊢
 try walk_at "rd"
 refine⟨tb,p,S,d,[],st,[],false,rfl,k4,fun t1 x1 H5 g5 nt1 nx1 w5=>?_⟩
 have k5:=k4.same g5
 refine⟨tb,p,S,d,[],st,[],true,rfl,k5,fun t2 x2 H6 g6 nt2 nx2 w6=>?_⟩
 have k6:=k5.same g6
 refine⟨by decide,fun lw hlw=>?_⟩
 have g7:=QH (o:=HO.lst [V.ref t1,V.ref t2]) hlw
 have k7:=k6.same g7
 have w7:Wks a (upd H6 lw (HO.lst [V.ref t1,V.ref t2])) p S d st lw [(t1,x1),(t2,x2)]:=by
  refine⟨QF,fun q hq=>?_,?_,ZP k6.A hlw,(fun e=>by rw[e,k6.hd] at hlw;cases hlw),fun e=>by obtain⟨_,_,h,_⟩:=k6.hl;rw[e,h] at hlw;cases hlw⟩
  ·rcases List.mem_cons.mp hq with z | z
   ·rw[z];exact (w5.same g6).same g7
   ·rw[List.mem_singleton.mp z];exact w6.same g7
  ·obtain⟨_,h1,h2,_⟩:=w5
   have n1:=QI h1 nt2
   have n2:=QI h2.ob nx2
   intro i j q r e1 e2 hqr
   match i,j,e1,e2 with
   | 0,0,_,_=>rfl
   | 0,1,e1,e2=>cases e1;cases e2;exact (hqr.elim n1 n2).elim
   | 1,0,e1,e2=>cases e1;cases e2;exact (hqr.elim (fun z=>n1 z.symm) fun z=>n2 z.symm).elim
   | 1,1,_,_=>rfl
 have G7:=G4.trans (g5.trans (g6.trans g7))
 show zNG K (V.ref b) (some 1) (some 81) (upd H6 lw (HO.lst [V.ref t1,V.ref t2])) _
 generalize upd H6 lw (HO.lst [V.ref t1,V.ref t2])=H7 at k7 w7 G7 ⊢
 refine⟨b,_,rfl,G7.seq hS,fun l hl=>?_⟩
 obtain⟨cells,ec,lc,lm⟩:=zGP ns (some 1) (some 81)
 rw[ec]
 have gl:=QH (o:=HO.lst (cells.map V.int)) hl
 have hl7:=QF (H:=H7) (a:=l) (o:=HO.lst (cells.map V.int))
 have fl:=ZP k7.A hl
 have n1:l ≠ d:=fun e=>by rw[e,k7.hd] at hl;cases hl
 have n2:l ≠ st:=fun e=>by obtain⟨_,_,h,_⟩:=k7.hl;rw[e,h] at hl;cases hl
 have n3:l ≠ lw:=fun e=>by rw[e,w7.hw] at hl;cases hl
 have k8:=k7.same gl
 have w8:=w7.same gl
 generalize upd H7 l (HO.lst (cells.map V.int))=H8 at gl hl7 k8 w8 ⊢
 refine⟨l,rfl,⟨_,SqL.of hl7⟩,Jz (xs:=cells.map V.int) (zNb w a tb p d st lw l (cells.map V.int) fun qs=>[some (.ref b),some (.int (Zy ns 0 % 7)),some (.int kd),some (.ref p),some (.ref d),some (.ref st),some (.ref lw)]++qs) ⟨S,[],[],_,none,none,none,none,k8,w8,by show 2<=2;decide,by show 2<=4;decide,by rw[eca];decide,hl7,fl,n1,n2,n3,rfl⟩ (fun i σ H' _ h=>by obtain⟨_,_,_,_,_,_,_,_,_,_,_,_,_,h,_⟩:=h;exact SqL.of h) (fun i x σ H' e h=>?_) (fun σ H' h=>?_)⟩
 ·obtain⟨S1,ps1,es1,qs1,q1,q2,q3,q4,k1,w1,l2,l4,c1,hl1,f1,m1,m2,m3,rfl⟩:=h
  obtain⟨cell,hcell,rfl⟩:=List.mem_map.mp (List.mem_of_getElem? e)
  have il:i < cells.length:=by have:=(List.getElem?_eq_some_iff.mp e).1;rwa [List.length_map] at this
  have hb:=hbits cell (lm cell hcell)
  try walk_at "rd"
  rw[Qw w1.hw,List.length_map]
  refine⟨_,rfl,by omega,?_⟩
  obtain⟨iw,hiw,hlt⟩:∃ iw:Nat,cell / 4 / 3 % ((qs1.length:Nat):Int)=(iw:Int)/\iw < qs1.length:=by
   have h1:=Int.emod_nonneg (cell / 4 / 3) (show ((qs1.length:Nat):Int) ≠ 0 by omega)
   have h2:=Int.emod_lt_of_pos (cell / 4 / 3) (show (0:Int) < ((qs1.length:Nat):Int) by omega)
   exact⟨(cell / 4 / 3 % ((qs1.length:Nat):Int)).toNat,by omega,by omega⟩
  obtain⟨⟨t,x⟩,htx⟩:∃ q,qs1[iw]? = some q:=⟨_,List.getElem?_eq_getElem hlt⟩
  rw[hiw,QV w1.hw (v:=V.ref t) (ZA (by rw[List.getElem?_map,htx];rfl))]
  try walk_at "rd"
  by_cases c0:cell % 4=0
  ·refine Y5 c0 ?_
   refine⟨tb,p,S1,d,ps1,st,es1,_,_,rfl,k1,by omega,zB2 hb (by omega),fun S2 ps2 es2 H2 k2 c2 u2 s2=>⟨true,rfl,?_⟩⟩
   refine YO (by decide) ?_
   have l2':=s2 _ _ hl1 f1 m1 m2
   exact⟨S2,ps2,es2,qs1,_,_,_,_,k2,w1.kept k1 u2 s2,l2,l4,by omega,l2'.1,l2'.2,m1,m2,m3,rfl⟩
  refine YO c0 ?_
  by_cases c3:cell % 4 < 3
  ·refine Y5 c3 ?_
   refine⟨by omega,by omega,Zh (zNT w a tb p S1 d ps1 st es1 lw qs1 l (cells.map V.int) fun u=>[some (.ref b),some (.int (Zy ns 0 % 7)),some (.int kd),some (.ref p),some (.ref d),some (.ref st),some (.ref lw),some (.int cell),some (.int (cell / 4)),some (.ref t),u]) ⟨_,k1,w1,hl1,rfl⟩ (fun j σ H2 hj h=>?_) (fun σ H2 h=>?_)⟩
   ·obtain⟨u,k2,w2,hl2,rfl⟩:=h
    have wl:=w2.pr _ (List.mem_of_getElem? htx)
    try walk_at "rd"
    refine⟨tb,p,S1,d,ps1,st,es1,t,x,rfl,k2,wl,fun H3 k3 w3 kw=>⟨true,rfl,?_⟩⟩
    refine YO (by decide) ?_
    obtain⟨W,h1,h2,_⟩:=wl
    exact⟨_,k3,w2.step htx w3 kw,kw _ _ hl2 (YN hl2 h1 zJJ) (YN hl2 h2.ob (by intro z;cases z)),rfl⟩
   ·obtain⟨u,k2,w2,hl2,rfl⟩:=h
    exact⟨S1,ps1,es1,qs1,_,_,_,_,k2,w2,l2,l4,by omega,hl2,f1,m1,m2,m3,rfl⟩
  refine YO c3 ?_
  rw[Qw w1.hw,List.length_map]
  refine⟨_,rfl,YZ (fun c=>?_) (fun c=>?_)⟩
  ·rw[zAV w1.hw]
   refine⟨True.intro,tb,p,S1,d,ps1,st,es1,_,rfl,k1,fun t2 x2 H2 g2 n1' n2' w2=>?_⟩
   have wh:=w1.same g2
   have tu:=Q7 (o:=.lst ((qs1++[(t2,x2)]).map fun q=>V.ref q.1)) wh.hw
   show zLg (V.ref lw) [V.ref t2] H2 _
   rw[Zx wh.hw]
   rw[List.map_append] at tu
   refine⟨Qn (by rw[List.length_map];omega),S1,ps1,es1,_,_,_,_,_,(k1.same g2).kp (fun b o e n=>by rw[QG n];exact e) tu wh.fw wh.m1 wh.m2,(by have:=Wks.re w1 n1' n2' g2 w2 (fun n q' e=>zHq n q' e);rw[List.map_append] at this;exact this),by rw[List.length_append];omega,by rw[List.length_append,List.length_singleton];omega,by omega,by rw[QG m3];exact g2 _ _ hl1,f1,m1,m2,m3,rfl⟩
  ·obtain⟨jw,hjw,hjt⟩:∃ jw:Nat,cell / 4 / 3 % 4=(jw:Int)/\jw < qs1.length:=⟨(cell / 4 / 3 % 4).toNat,by omega,by omega⟩
   refine⟨tb,p,S1,d,ps1,st,es1,_,rfl,k1,fun t2 x2 H2 g2 n1' n2' w2=>?_⟩
   have wh:=w1.same g2
   have tu:=Q7 (o:=.lst ((qs1.set jw (t2,x2)).map fun q=>V.ref q.1)) wh.hw
   show zHb (V.ref lw) (V.int (cell / 4 / 3 % 4)) (V.ref t2) H2 _
   rw[hjw,YD wh.hw rfl (by rw[List.length_map];exact hjt)]
   rw[List.map_set] at tu
   exact⟨S1,ps1,es1,_,_,_,_,_,(k1.same g2).kp (fun b o e n=>by rw[QG n];exact e) tu wh.fw wh.m1 wh.m2,(by have:=Wks.re (i0:=jw) (qs':=qs1.set jw (t2,x2)) w1 n1' n2' g2 w2 (fun n q' e=>zJQ n q' e);rw[List.map_set] at this;exact this),by rw[List.length_set];omega,by rw[List.length_set];omega,by omega,by rw[QG m3];exact g2 _ _ hl1,f1,m1,m2,m3,rfl⟩
 ·obtain⟨S1,ps1,es1,qs1,q1,q2,q3,q4,k1,w1,l2,l4,c1,hl1,f1,m1,m2,m3,rfl⟩:=h
  try walk_at "rd"
  refine⟨⟨_,SqL.of w1.hw⟩,Zr (xs:=qs1.map fun q=>V.ref q.1) (fun i zs H2=>K2 w a tb H2 p S1 d ps1 st es1/\Wks a H2 p S1 d st lw qs1/\zs=(List.replicate i true).map V.bl) ⟨k1,w1,rfl⟩ (fun _ _ _ _ h=>SqL.of h.2.1.hw) (fun i zs H2 hi h=>?_) (fun i y zs H2 e h=>?_) (fun zs H2 h=>?_)⟩
  ·obtain⟨_,_,rfl⟩:=h
   rw[List.length_map] at hi
   rw[List.length_map,List.length_replicate]
   exact Qn (by omega)
  ·obtain⟨k2,w2,rfl⟩:=h
   rw[List.getElem?_map] at e
   obtain⟨⟨t,x⟩,htx,rfl⟩:=Option.map_eq_some_iff.mp e
   try walk_at "rd"
   exact⟨tb,p,S1,d,ps1,st,es1,t,x,rfl,k2,w2.pr _ (List.mem_of_getElem? htx),fun H3 k3 w3 kw=>⟨k3,w2.step htx w3 kw,zJC⟩⟩
  ·obtain⟨_,_,rfl⟩:=h
   intro l9 hl9
   refine⟨l9,_,rfl,SqL.of QF,?_⟩
   rw[zGD]
   exact q _
end
section
variable {P:Program} {w:World} {K:W.Frag} {mg:Str->Option Value} {base:Heap} {a:Ad} {tb:Bool}
theorem WX (T:Txt K mg a):FnOk P w K mg base CX0 1 a.f_text_stamp a.d_text_stamp Zn zEx:=by
 refine T.F_text_stamp.ok sc_text_stamp (fun vs H Q E h=>?_) (fun cdv A outer s H vs Q E hr h=>?_)
 ·obtain⟨x,rfl,_⟩:=h
  rfl
 have nd:=sc_text_stamp.nd
 obtain⟨x,rfl,q⟩:=h
 refine⟨_,(QB (QT (i:=1) nd rfl (Or.inl rfl) QC)
 (QB (Zj PassesOwn.never rfl (zML (pv 0)) (YU (i:=2) nd rfl (Or.inl rfl)) (QE (QT (i:=1) nd rfl (Or.inl rfl) (QM QY (QM YF (QM Ys QC (pv 1)) (QL zGe rfl T.z_ord boot_ord (QA (pv 2) QD))) (Qh (v:=.int 2147483647) rfl T.c_TURN ⟨_,rfl⟩)))))
 (QE (QK (pv 1))))),?_⟩
 walk_at "rd"
 refine zIV (fun i σ H'=>H'=H/\∃ u,σ=[some (.str x),some (.int (tst (x.cps.toList.take i))),u]) ⟨rfl,_,rfl⟩ (fun i c σ H' hc h=>?_) (fun σ H' h=>?_)
 ·obtain⟨rfl,u,rfl⟩:=h
  walk_at "rd"
  refine⟨.inl ⟨by decide,by decide⟩,?_⟩
  rw[Y0 hc,zH9]
 ·obtain⟨rfl,u,rfl⟩:=h
  walk_at "rd"
  have e:x.cps.toList.take x.cps.size=x.cps.toList:=List.take_of_length_le (by simp)
  rw[e]
  exact q
theorem zAG {n k:Nat} (T:Txt K mg a) (hn:1<=n) (G_text_stamp:FnOk P w K mg base CX0 1 a.f_text_stamp a.d_text_stamp Zn zEx)
  (G_tuple_stamp:∀ m,k=m+1->FnOk P w K mg base CX0 n a.f_tuple_stamp a.d_tuple_stamp ZH (zNB m)):FnOk P w K mg base CX0 (n+1) a.f_stamp a.d_stamp WJ (zI4 k):=by
 refine T.F_stamp.ok sc_stamp (fun vs H Q E h=>?_) (fun cdv A outer s H vs Q E hr h=>?_)
 ·obtain⟨v,k,rfl,_⟩:=h
  rfl
 have nd:=sc_stamp.nd
 obtain⟨v,kd,rfl,hk,hd,q⟩:=h
 cases kd with
 | num i =>
  unfold IsK at hk
  subst hk
  refine⟨_,(QB (QS (QW (QL QZ rfl T.z_isinstance boot_isinstance (QA (pv 0) (QA (Qb (v:=.ty "str") rfl T.z_str boot_str rfl) QD)))) Qi QN) (QB (QS (QW (QL QZ rfl T.z_isinstance boot_isinstance (QA (pv 0) (QA (Qb (v:=.ty "tuple") rfl T.z_tuple boot_tuple rfl) QD)))) Qi QN) (QE (QK (QM QY (pv 0) (Qh (v:=.int 2147483647) rfl T.c_TURN ⟨_,rfl⟩)))))),?_⟩
  walk_at "rd"
  unfold Kd.st at q
  exact q
 | txt x =>
  unfold IsK at hk
  subst hk
  refine⟨_,(QB (QS (QW (QL QZ rfl T.z_isinstance boot_isinstance (QA (pv 0) (QA (Qb (v:=.ty "str") rfl T.z_str boot_str rfl) QD)))) (QE (QK (QO (G_text_stamp.mono hn) hr rfl T.m_text_stamp T.F_text_stamp.kp T.b_text_stamp .nil QR (QA (pv 0) QD)))) QN) (QB Y1 Qi)),?_⟩
  walk_at "rd"
  unfold Kd.st at q
  exact q
 | tup ks =>
  unfold IsK at hk
  obtain⟨b,ws,rfl,hb,_,hks⟩:=hk
  unfold Kd.deep at hd
  obtain⟨m,rfl⟩:∃ m,k=m+1:=⟨k - 1,by omega⟩
  have G_tuple_stamp:=G_tuple_stamp m rfl
  refine⟨_,(QB (QS (QW (QL QZ rfl T.z_isinstance boot_isinstance (QA (pv 0) (QA (Qb (v:=.ty "str") rfl T.z_str boot_str rfl) QD)))) Qi QN) (QB (QS (QW (QL QZ rfl T.z_isinstance boot_isinstance (QA (pv 0) (QA (Qb (v:=.ty "tuple") rfl T.z_tuple boot_tuple rfl) QD)))) (QE (QK (QO G_tuple_stamp hr rfl T.m_tuple_stamp T.F_tuple_stamp.kp T.b_tuple_stamp .nil QR (QA (pv 0) QD)))) QN) Qi)),?_⟩
  (iterate 4 ((try simp only[YX hb,Qt hb]);(try walk_at "rd")))
  unfold Kd.st at q
  exact⟨_,_,_,rfl,hb,hks,by omega,q⟩
theorem Jh {n k:Nat} (T:Txt K mg a) (G_stamp:FnOk P w K mg base CX0 n a.f_stamp a.d_stamp WJ (zI4 k)):FnOk P w K mg base CX0 (n+1) a.f_tuple_stamp a.d_tuple_stamp ZH (zNB k):=by
 refine T.F_tuple_stamp.ok sc_tuple_stamp (fun vs H Q E h=>?_) (fun cdv A outer s H vs Q E hr h=>?_)
 ·obtain⟨v,k,ks,rfl,_⟩:=h
  rfl
 have nd:=sc_tuple_stamp.nd
 obtain⟨b,ws,ks,rfl,hb,hks,hd,q⟩:=h
 refine⟨_,(QB (QT (i:=1) nd rfl (Or.inl rfl) QC)
 (QB (Zj PassesOwn.never rfl (zHf (pv 0)) (YU (i:=2) nd rfl (Or.inl rfl)) (QE (QT (i:=1) nd rfl (Or.inl rfl) (QM QY (QM zLz (QM Ys QC (pv 1)) (QO G_stamp hr rfl T.m_stamp T.F_stamp.kp T.b_stamp .nil QR (QA (pv 2) QD))) (Qh (v:=.int 2147483647) rfl T.c_TURN ⟨_,rfl⟩)))))
 (QE (QK (pv 1))))),?_⟩
 walk_at "rd"
 refine⟨⟨_,SqT.of hb⟩,?_⟩
 refine zHj (xs:=ws) (fun i σ H'=>H'=H/\∃ u,σ=[some (.ref b),some (.int (Kd.stL 11 (ks.take i))),u]) ⟨rfl,_,by unfold Kd.stL;rfl⟩ (fun i σ H' _ h=>by rw[h.1];exact SqT.of hb) (fun i x σ H' hc h=>?_) (fun σ H' h=>?_)
 ·obtain⟨rfl,u,rfl⟩:=h
  obtain⟨k',e1,e2⟩:=hks.get hc
  walk_at "rd"
  refine⟨.inl ⟨by decide,by decide⟩,x,k',rfl,e2,Nat.le_trans (Kd.deep_le (List.mem_of_getElem? e1)) hd,?_⟩
  walk_at "rd"
  rw[Y0 e1,Kd.stL_snoc]
 ·obtain⟨rfl,u,rfl⟩:=h
  walk_at "rd"
  rw[List.take_of_length_le (by rw[hks.length];exact Nat.le_refl _)]
  exact q
theorem Jg (T:Txt K mg a):∀ d:Nat,FnOk P w K mg base CX0 (2*d+2) a.f_stamp a.d_stamp WJ (zI4 d)
 | 0=>zAG (n:=1) (k:=0) T (Nat.le_refl _) (WX T) (fun m h=>by cases h)
 | d + 1 => zAG (n := 2 * d + 3) (k := d + 1) T (by omega) (WX T) (fun m h => by
   cases h
   exact Jh T (Jg T d))
theorem zGT (T:Txt K mg a):FnOk P w K mg base CX0 1 a.f_stride a.d_stride zBQ zDT:=by
 refine T.F_stride.ok sc_stride (fun vs H Q E h=>?_) (fun cdv A outer s H vs Q E hr h=>?_)
 ·obtain⟨m,rfl,_⟩:=h
  rfl
 have nd:=sc_stride.nd
 obtain⟨m,rfl,h0,q⟩:=h
 refine⟨_,(QE (QK (QM zMf (QM Qj (pv 0) QC) QC))),?_⟩
 walk_at "rd"
 rw[zG8 (by omega)]
 exact q
theorem zHO (T:Txt K mg a)(G_stride:FnOk P w K mg base CX0 1 a.f_stride a.d_stride zBQ zDT):FnOk P w K mg base CX0 2 a.f_probe a.d_probe zAh zDQ:=by
 refine T.F_probe.ok sc_probe (fun vs H Q E h=>?_) (fun cdv A outer s H vs Q E hr h=>?_)
 ·obtain⟨m,s,c,rfl,_⟩:=h
  rfl
 have nd:=sc_probe.nd
 obtain⟨m,s,c,rfl,h0,h1,h2,h3,q⟩:=h
 refine⟨_,(QE (QK (QM QY (QM YF (pv 0) (QM Ys (pv 2) (QO (G_stride.mono (by decide)) hr rfl T.m_stride T.F_stride.kp T.b_stride .nil QR (QA (pv 0) QD)))) (pv 1)))),?_⟩
 walk_at "rd"
 refine⟨_,rfl,h0,?_⟩
 walk_at "rd"
 refine⟨.inl ⟨by omega,by omega⟩,h1,?_⟩
 have e:pr m s c.toNat=(m+c*std m) % s:=by unfold pr;rw[Int.toNat_of_nonneg h2]
 rw[← e]
 exact q
theorem zDe (T:Txt K mg a):FnOk P w K mg base CX0 1 a.f_Lcell_at a.d_Lcell_at W1 (zHW K):=by
 refine T.F_Lcell_at.ok sc_Lcell_at (fun vs H Q E h=>?_) (fun cdv A outer s H vs Q E hr h=>?_)
 ·obtain⟨b,ns,k,rfl,_⟩:=h
  rfl
 have nd:=sc_Lcell_at.nd
 obtain⟨b,ns,k,rfl,hS,h0,q⟩:=h
 refine⟨_,(QB (QS (QQ WY (pv 1) (QL Zs rfl T.z_len PySem.boot_len (QA (pv 0) QD)) (QP _)) (QE (QK (Qa zFT (pv 0) (pv 1) (fun _ _=>rfl)))) QN)
 (QE (QK QC))),?_⟩
 walk_at "rd"
 refine⟨_,.inl hS,?_⟩
 rw[List.length_map]
 refine YZ (fun c=>?_) (fun c=>?_)
 ·have e:k=((k.toNat:Nat):Int):=by omega
  have hk:k.toNat < ns.length:=by omega
  refine⟨b,_,k,V.int ns[k.toNat],rfl,rfl,hS,?_,?_⟩
  ·have e3:atI (ns.map V.int) ((k.toNat:Nat):Int)=some (V.int ns[k.toNat]):=ZA (by simp[hk])
   rw[← e] at e3
   exact e3
  ·have e2:Zy ns k=ns[k.toNat]:=by unfold Zy;rw[List.getElem?_eq_getElem hk];rfl
   rw[← e2];exact q
 ·have e2:Zy ns k=0:=by unfold Zy;rw[List.getElem?_eq_none (by omega)];rfl
  rw[e2] at q
  exact q
end
section
variable {P:Program} {w:World} {K:W.Frag} {mg:Str->Option Value} {base:Heap} {a:Ad} {tb:Bool}
theorem JW (T:Txt K mg a):FnOk P w K mg base CX0 1 a.f_is_number a.d_is_number Ym zGI:=by
 refine T.F_is_number.ok sc_is_number (fun vs H Q E h=>?_) (fun cdv A outer s H vs Q E hr h=>?_)
 ·obtain⟨B,v,t,rfl,_⟩:=h
  rfl
 have nd:=sc_is_number.nd
 obtain⟨B,v,t,rfl,ht,hs,q⟩:=h
 refine⟨_,(QE (QK (Yr (QL QZ rfl T.z_isinstance boot_isinstance (QA (pv 0) (QA (Qb (v:=.ty "int") rfl T.z_int boot_int rfl) QD))) (Yp (zCV (QL QZ rfl T.z_isinstance boot_isinstance (QA (pv 0) (QA (Qb (v:=.ty "bool") rfl T.z_bool boot_bool rfl) QD)))))))),?_⟩
 cases t with
 | num i=>unfold L2.IsT at ht;subst ht;walk_at "rd";exact q
 | txt i=>unfold L2.IsT at ht;obtain⟨rfl,_⟩:=ht;walk_at "rd";exact q
 | tup ts=>unfold L2.IsT at ht;obtain⟨b,ws,rfl,hb,_,_⟩:=ht;(iterate 4 ((try simp only[Zw hb]);(try walk_at "rd")));exact q
 | odd o =>
  unfold L2.IsT at ht
  cases o with
  | bl b=>cases (show v=.bl b from ht);walk_at "rd";exact q
  | non=>cases (show v=.non from ht);walk_at "rd";exact q
  | lst=>obtain⟨b,xs,rfl,hb⟩:=(show ∃ a xs,v=.ref a/\B a=some (.lst xs) from ht);(iterate 4 ((try simp only[WA (hs _ _ hb)]);(try walk_at "rd")));exact q
  | dct=>obtain⟨b,xs,rfl,hb⟩:=(show ∃ a xs,v=.ref a/\B a=some (.dK xs) from ht);(iterate 4 ((try simp only[JB (hs _ _ hb)]);(try walk_at "rd")));exact q
theorem Wc {n k:Nat} (T:Txt K mg a) (hn:1<=k) (G_is_number:FnOk P w K mg base CX0 1 a.f_is_number a.d_is_number Ym zGI) (G_are_parts:∀ m,n=m+1->FnOk P w K mg base CX0 k a.f_are_parts a.d_are_parts Z5 (zKv m)):FnOk P w K mg base CX0 (k+1) a.f_is_part a.d_is_part ZO (zCO n):=by
 refine T.F_is_part.ok sc_is_part (fun vs H Q E h=>?_) (fun cdv A outer s H vs Q E hr h=>?_)
 ·obtain⟨B,v,t,rfl,_⟩:=h
  rfl
 have nd:=sc_is_part.nd
 obtain⟨B,v,t,rfl,ht,hs,q⟩:=h
 have q0:=q H (Same.refl H)
 cases t with
 | num i =>
  refine⟨_,(QB (QS (QW (QO (G_is_number.mono hn) hr rfl T.m_is_number T.F_is_number.kp T.b_is_number .nil QR (QA (pv 0) QD))) (QE (QK (zDj WY WY (zFg zCy (QM Wv QC QC)) (pv 0) (QM Wv QC QC)))) QN) Qi),?_⟩
  have ht0:=ht
  unfold L2.IsT at ht;subst ht
  unfold Th.ok at q0
  walk_at "rd"
  refine⟨B,_,_,rfl,ht0,hs,?_⟩
  unfold Th.isNum
  walk_at "rd"
  refine YZ (fun c=>?_) (fun c=>?_)
  ·rw[decide_eq_true (by omega : -10 ^ 60 < i)] at q0;exact q0
  ·rw[decide_eq_false (by omega:¬ -10 ^ 60 < i)] at q0;exact q0
 | txt x =>
  refine⟨_,(QB (QS (QW (QO (G_is_number.mono hn) hr rfl T.m_is_number T.F_is_number.kp T.b_is_number .nil QR (QA (pv 0) QD))) Qi QN) (QB (QS (QW (QL QZ rfl T.z_isinstance boot_isinstance (QA (pv 0) (QA (Qb (v:=.ty "str") rfl T.z_str boot_str rfl) QD)))) (QE (QK (Qx zFk (QL Qd rfl T.z_len PySem.boot_len (QA (pv 0) QD)) (Qh (v:=.int 60) rfl T.c_MOST_SIGNS ⟨_,rfl⟩) (QP _)))) QN) Qi)),?_⟩
  have ht0:=ht
  unfold L2.IsT at ht;obtain⟨rfl,hx⟩:=ht
  unfold Th.ok at q0
  walk_at "rd"
  refine⟨B,_,_,rfl,ht0,hs,?_⟩
  unfold Th.isNum
  walk_at "rd"
  refine⟨Nat.le_of_lt (zB7 hx),_,rfl,?_⟩
  have e:decide ((x.length:Int)<=60)=decide (x.length<=60):=decide_eq_decide.mpr (by omega)
  rw[e]
  exact q0
 | tup ts =>
  have ht0:=ht
  unfold L2.IsT at ht;obtain⟨b,ws,rfl,hb,hw,hts⟩:=ht
  unfold Th.ok at q
  cases n with
  | zero =>
   refine⟨_,(QB (QS (QW (QO (G_is_number.mono hn) hr rfl T.m_is_number T.F_is_number.kp T.b_is_number .nil QR (QA (pv 0) QD))) Qi QN) (QB (QS (QW (QL QZ rfl T.z_isinstance boot_isinstance (QA (pv 0) (QA (Qb (v:=.ty "str") rfl T.z_str boot_str rfl) QD)))) Qi QN) (QB (QS (QW (QL QZ rfl T.z_isinstance boot_isinstance (QA (pv 0) (QA (Qb (v:=.ty "tuple") rfl T.z_tuple boot_tuple rfl) QD)))) (QE (QK (Yr (Qx Jc (pv 1) QC (QP _)) (Yp zIf)))) QN) Qi))),?_⟩
   (iterate 4 ((try simp only[YX hb,Qt hb]);(try walk_at "rd")))
   refine⟨B,_,_,rfl,ht0,hs,?_⟩
   unfold Th.isNum
   (iterate 4 ((try simp only[YX hb,Qt hb]);(try walk_at "rd")))
   exact q H (Same.refl H)
  | succ m =>
   have G_are_parts:=G_are_parts m rfl
   refine⟨_,(QB (QS (QW (QO (G_is_number.mono hn) hr rfl T.m_is_number T.F_is_number.kp T.b_is_number .nil QR (QA (pv 0) QD))) Qi QN) (QB (QS (QW (QL QZ rfl T.z_isinstance boot_isinstance (QA (pv 0) (QA (Qb (v:=.ty "str") rfl T.z_str boot_str rfl) QD)))) Qi QN) (QB (QS (QW (QL QZ rfl T.z_isinstance boot_isinstance (QA (pv 0) (QA (Qb (v:=.ty "tuple") rfl T.z_tuple boot_tuple rfl) QD)))) (QE (QK (Yr (Qx Jc (pv 1) QC (QP _)) (Yp (QO G_are_parts hr rfl T.m_are_parts T.F_are_parts.kp T.b_are_parts .nil QR (QA (pv 0) (QA (QM Y7 (pv 1) QC) QD))))))) QN) Qi))),?_⟩
   (iterate 4 ((try simp only[YX hb,Qt hb]);(try walk_at "rd")))
   refine⟨B,_,_,rfl,ht0,hs,?_⟩
   unfold Th.isNum
   (iterate 4 ((try simp only[YX hb,Qt hb]);(try walk_at "rd")))
   rw[if_pos (by omega)]
   refine⟨B,b,ws,ts,by rw[show ((m+1:Nat):Int) - 1=(m:Int) by omega],hb,hw,hts,hs,fun H' g=>?_⟩
   have:=q H' g
   rw[decide_eq_true (by omega:0 < m+1),Bool.true_and] at this
   exact this
 | odd o =>
  refine⟨_,(QB (QS (QW (QO (G_is_number.mono hn) hr rfl T.m_is_number T.F_is_number.kp T.b_is_number .nil QR (QA (pv 0) QD))) Qi QN) (QB (QS (QW (QL QZ rfl T.z_isinstance boot_isinstance (QA (pv 0) (QA (Qb (v:=.ty "str") rfl T.z_str boot_str rfl) QD)))) Qi QN) (QB (QS (QW (QL QZ rfl T.z_isinstance boot_isinstance (QA (pv 0) (QA (Qb (v:=.ty "tuple") rfl T.z_tuple boot_tuple rfl) QD)))) Qi QN) (QE (QK Q0))))),?_⟩
  have ht0:=ht
  unfold L2.IsT at ht
  unfold Th.ok at q0
  cases o with
  | bl b=>cases (show v=.bl b from ht);walk_at "rd";refine⟨B,_,_,rfl,ht0,hs,?_⟩;unfold Th.isNum;walk_at "rd";exact q0
  | non=>cases (show v=.non from ht);walk_at "rd";refine⟨B,_,_,rfl,ht0,hs,?_⟩;unfold Th.isNum;walk_at "rd";exact q0
  | lst=>obtain⟨b,xs,rfl,hb⟩:=(show ∃ a xs,v=.ref a/\B a=some (.lst xs) from ht);have hb:=hs _ _ hb;(iterate 4 ((try simp only[Z0 hb,ZL hb]);(try walk_at "rd")));refine⟨B,_,_,rfl,ht0,hs,?_⟩;unfold Th.isNum;(iterate 4 ((try simp only[Z0 hb,ZL hb]);(try walk_at "rd")));exact q0
  | dct=>obtain⟨b,xs,rfl,hb⟩:=(show ∃ a xs,v=.ref a/\B a=some (.dK xs) from ht);have hb:=hs _ _ hb;(iterate 4 ((try simp only[Wj hb,Zg hb]);(try walk_at "rd")));refine⟨B,_,_,rfl,ht0,hs,?_⟩;unfold Th.isNum;(iterate 4 ((try simp only[Wj hb,Zg hb]);(try walk_at "rd")));exact q0
theorem zAS {n k:Nat} (T:Txt K mg a) (G_is_part:FnOk P w K mg base CX0 k a.f_is_part a.d_is_part ZO (zCO n)):FnOk P w K mg base CX0 (k+1) a.f_are_parts a.d_are_parts Z5 (zKv n):=by
 refine T.F_are_parts.ok sc_are_parts (fun vs H Q E h=>?_) (fun cdv A outer s H vs Q E hr h=>?_)
 ·obtain⟨B,b,ws,ts,rfl,_⟩:=h
  rfl
 have nd:=sc_are_parts.nd
 obtain⟨B,b,ws,ts,rfl,hb,hw,hts,hs,q⟩:=h
 have hl:=hts.length
 refine⟨_,(QE (QK (Yr (Qx zFk (QL Qd rfl T.z_len PySem.boot_len (QA (pv 0) QD)) (Qh (v:=.int 6) rfl T.c_MOST_PARTS ⟨_,rfl⟩) (QP _)) (Yp (QL (zBT rfl) rfl T.z_all boot_all (QA (zFm "thing" ["levels"] [1] rfl ⟨rfl,rfl,by decide +kernel,by decide +kernel,rfl,by decide +kernel,by decide +kernel,rfl,by decide +kernel⟩ rfl (zHf (pv 0)) (fun C s1 H1 fp=>(QO G_is_part hr rfl T.m_is_part T.F_is_part.kp T.b_is_part .nil QR (QA (pv 0) (QA (pv 1) QD))))) QD)))))),?_⟩
 (iterate 4 ((try simp only[zBE hb]);(try walk_at "rd")))
 refine YZ (fun c=>?_) (fun c=>?_)
 ·refine⟨⟨_,SqT.of hb⟩,?_⟩
  refine zGc (xs:=ws) (fun i ys H'=>Same H H'/\i<=ts.length/\ys=(ts.take i).map fun t=>V.bl (t.ok n)) ⟨Same.refl H,Nat.zero_le _,rfl⟩ (fun i ys H' _ h=>SqT.of (h.1 _ _ hb)) (fun i ys H' hi h=>?_) (fun i x ys H' hi h=>?_) (fun ys H' h=>?_)
  ·obtain⟨_,_,rfl⟩:=h
   rw[List.length_map,List.length_take]
   exact zB7 (by omega)
  ·obtain⟨g,hle,rfl⟩:=h
   obtain⟨t',e1,e2⟩:=hts.get hi
   walk_at "rd"
   refine⟨B,x,t',rfl,e2.same g.tups,hs.trans g,fun H2 g2=>⟨g.trans g2,?_,?_⟩⟩
   ·exact (List.getElem?_eq_some_iff.mp e1).1
   ·rw[Y0 e1,List.map_append];rfl
  ·obtain⟨g,_,rfl⟩:=h
   rw[hl,List.take_length]
   intro p hp
   have e:ts.map (fun t=>V.bl (t.ok n))=(ts.map fun t=>t.ok n).map V.bl:=by rw[List.map_map];rfl
   refine⟨p,ts.map fun t=>t.ok n,rfl,SqL.of (by rw[QF,e]),?_⟩
   have z:=q _ (g.trans (QH (o:=HO.lst (ts.map fun t=>V.bl (t.ok n))) hp))
   rw[zF8,decide_eq_true (by omega:ts.length<=6),Bool.true_and] at z
   exact z
 ·have z:=q H (Same.refl H)
  rw[decide_eq_false (by omega:¬ ts.length<=6),Bool.false_and] at z
  exact z
theorem Z3 (T:Txt K mg a):∀ n:Nat,FnOk P w K mg base CX0 (2*n+2) a.f_is_part a.d_is_part ZO (zCO n)
 | 0=>Wc (n:=0) (k:=1) T (Nat.le_refl _) (JW T) (fun m h=>by cases h)
 | n + 1 => Wc (n := n + 1) (k := 2 * n + 3) T (by omega) (JW T) (fun m h => by
   cases h
   exact zAS T (Z3 T n))
theorem zHH (T:Txt K mg a)(G_is_part:FnOk P w K mg base CX0 8 a.f_is_part a.d_is_part ZO (zCO 3)):FnOk P w K mg base CX0 9 a.f_is_key a.d_is_key Jd zHs:=by
 refine T.F_is_key.ok sc_is_key (fun vs H Q E h=>?_) (fun cdv A outer s H vs Q E hr h=>?_)
 ·obtain⟨B,v,t,rfl,_⟩:=h
  rfl
 have nd:=sc_is_key.nd
 obtain⟨B,v,t,rfl,ht,hs,q⟩:=h
 refine⟨_,(QE (QK (QO G_is_part hr rfl T.m_is_part T.F_is_part.kp T.b_is_part .nil QR (QA (pv 0) (QA (Qh (v:=.int 3) rfl T.c_DEEPEST ⟨_,rfl⟩) QD))))),?_⟩
 walk_at "rd"
 exact⟨B,v,t,rfl,ht,hs,q⟩
end
section
variable {P:Program} {w:World} {K:W.Frag} {mg:Str->Option Value} {base:Heap} {a:Ad} {tb:Bool}
theorem zBh (T:Txt K mg a):FnOk P w K mg base CX0 1 a.f_is_number a.d_is_number Ym zK6:=by
 refine T.F_is_number.ok sc_is_number (fun vs H Q E h=>?_) (fun cdv A outer s H vs Q E hr h=>?_)
 ·obtain⟨x,n,s,rfl,_⟩:=h
  rfl
 have nd:=sc_is_number.nd
 obtain⟨x,n,s,rfl,hx,q⟩:=h
 refine⟨_,(QE (QK (Yr (QL QZ rfl T.z_isinstance boot_isinstance (QA (pv 0) (QA (Qb (v:=.ty "int") rfl T.z_int boot_int rfl) QD))) (Yp (zCV (QL QZ rfl T.z_isinstance boot_isinstance (QA (pv 0) (QA (Qb (v:=.ty "bool") rfl T.z_bool boot_bool rfl) QD)))))))),?_⟩
 rcases hx with ⟨i,rfl,rfl,rfl⟩ | ⟨hx,rfl,rfl⟩
 ·walk_at "rd"
  exact q
 rcases hx with ⟨b,rfl⟩ | rfl | ⟨z,rfl⟩ | ⟨p,xs,rfl,hp⟩ | ⟨p,xs,rfl,hp⟩ | ⟨p,xs,rfl,hp⟩
 ·walk_at "rd"
  exact q
 ·walk_at "rd"
  exact q
 ·walk_at "rd"
  exact q
 ·walk_at "rd"
  rw[Zw hp]
  exact⟨_,rfl,zHn q⟩
 ·walk_at "rd"
  rw[WA hp]
  exact⟨_,rfl,zHn q⟩
 ·walk_at "rd"
  rw[JB hp]
  exact⟨_,rfl,zHn q⟩
theorem zE5 (T:Txt K mg a)(G_is_number:FnOk P w K mg base CX0 1 a.f_is_number a.d_is_number Ym zK6):FnOk P w K mg base CX0 2 a.f_is_size a.d_is_size J0 zM7:=by
 refine T.F_is_size.ok sc_is_size (fun vs H Q E h=>?_) (fun cdv A outer s H vs Q E hr h=>?_)
 ·obtain⟨x,n,s,rfl,_⟩:=h
  rfl
 have nd:=sc_is_size.nd
 obtain⟨x,n,s,rfl,hx,q⟩:=h
 refine⟨_,(QE (QK (Yr (QO (G_is_number.mono (by decide)) hr rfl T.m_is_number T.F_is_number.kp T.b_is_number .nil QR (QA (pv 0) QD)) (Yr (zDj zFk zFk (Qh (v:=.int 8) rfl T.c_LEAST ⟨_,rfl⟩) (pv 0) (Qh (v:=.int 4096) rfl T.c_GREATEST ⟨_,rfl⟩)) (Yp (Qx Qy (QM zMN (pv 0) (QM Y7 (pv 0) QC)) QC (QP _))))))),?_⟩
 walk_at "rd"
 refine⟨x,n,s,rfl,hx,?_⟩
 rcases hx with ⟨i,rfl,rfl,rfl⟩ | ⟨hx,rfl,rfl⟩
 ·walk_at "rd"
  refine YZ (fun c=>?_) (fun c=>?_)
  ·refine YZ (fun c2=>?_) (fun c2=>?_)
   ·rw[zM6 c c2]
    exact q
   ·have e:decide (S8 i)=false:=decide_eq_false (by unfold S8;omega)
    rw[e] at q
    exact q
  ·have e:decide (S8 i)=false:=decide_eq_false (by unfold S8;omega)
   rw[e] at q
   exact q
 ·walk_at "rd"
  exact q
theorem zF2 (T:Txt K mg a):FnOk P w K mg base CX0 1 a.f_room a.d_room zDE zEq:=by
 refine T.F_room.ok sc_room (fun vs H Q E h=>?_) (fun cdv A outer s H vs Q E hr h=>?_)
 ·obtain⟨i,rfl,_⟩:=h
  rfl
 have nd:=sc_room.nd
 obtain⟨i,rfl,q⟩:=h
 refine⟨_,(QE (QK (QM Qj (QM Ys QC (pv 0)) QC))),?_⟩
 walk_at "rd"
 exact⟨.inl ⟨by decide,by decide⟩,q⟩
theorem zA3 (T:Txt K mg a)(G_stamp:FnOk P w K mg base CX0 8 a.f_stamp a.d_stamp WJ (zI4 3))(G_probe:FnOk P w K mg base CX0 2 a.f_probe a.d_probe zAh zDQ):FnOk P w K mg base CX0 9 a.f_first_empty a.d_first_empty ZJ zMx:=by
 refine T.F_first_empty.ok sc_first_empty (fun vs H Q E h=>?_) (fun cdv A outer s H vs Q E hr h=>?_)
 ·obtain⟨p,cs,v,k,c,rfl,_⟩:=h
  rfl
 have nd:=sc_first_empty.nd
 obtain⟨p,cs,v,k,c,rfl,hp,l0,l1,hk,hd,hc,q⟩:=h
 refine⟨_,(QB (QT (i:=2) nd rfl (Or.inl rfl) (QO (G_stamp.mono (by decide)) hr rfl T.m_stamp T.F_stamp.kp T.b_stamp .nil QR (QA (pv 1) QD)))
 (QE (Zj PassesOwn.never rfl (WQ rfl T.z_range (QA (QL Qd rfl T.z_len PySem.boot_len (QA (pv 0) QD)) QD)) (YU (i:=3) nd rfl (Or.inl rfl)) (QB (QT (i:=4) nd rfl (Or.inl rfl) (QO (G_probe.mono (by decide)) hr rfl T.m_probe T.F_probe.kp T.b_probe .nil QR (QA (pv 2) (QA (QL Qd rfl T.z_len PySem.boot_len (QA (pv 0) QD)) (QA (pv 3) QD)))))
 (QE (QS (QQ Qy (Qa Qs (pv 0) (pv 4) (fun _ _=>rfl)) (Qh (v:=.int (-1)) rfl T.c_EMPTY ⟨_,rfl⟩) (QP _)) (QE (QK (pv 4))) QN)))))),?_⟩
 have rg:=Kd.st_range k
 obtain⟨c1,c2,c3⟩:=hc
 walk_at "rd"
 refine⟨v,k,rfl,hk,hd,?_⟩
 show zIT [V.ref p] _ _
 rw[Qw hp,List.length_map]
 refine⟨_,rfl,by omega,by omega,?_⟩
 rw[Int.toNat_natCast]
 refine Zh (fun i σ H'=>H'=H/\i<=c/\∃ u w,σ=[some (.ref p),some v,some (.int k.st),u,w]) ⟨rfl,Nat.zero_le _,_,_,rfl⟩ (fun i σ H' hi h=>?_) (fun σ H' h=>?_)
 ·obtain⟨rfl,hic,u,w,rfl⟩:=h
  walk_at "rd"
  rw[Qw hp,List.length_map]
  refine⟨_,_,_,rfl,rg.1,by omega,by omega,by omega,?_⟩
  walk_at "rd"
  rw[Int.zero_add,Int.toNat_natCast,← zAw l0]
  rw[QV hp (v:=V.int (cAt cs k.st i)) (ZA (by rw[List.getElem?_map,ZX l0];rfl))]
  rw[zCl]
  refine⟨_,rfl,YZ (fun z=>?_) (fun z=>?_)⟩
  ·have z:=of_decide_eq_true z
   have e:i=c:=by
    rcases Nat.lt_or_ge i c with y | y
    ·exact absurd z (c3 i y)
    ·omega
   rw[e]
   exact q
  ·have z:=of_decide_eq_false (Bool.eq_false_iff.mpr z)
   refine⟨rfl,?_⟩
   rcases Nat.lt_or_ge i c with y | y
   ·omega
   ·have e:i=c:=by omega
    rw[e] at z
    exact absurd c2 z
 ·obtain⟨rfl,hic,u,w,rfl⟩:=h
  omega
theorem zHK (T:Txt K mg a):FnOk P w K mg base CX0 1 a.f_is_end a.d_is_end zBX zLF:=by
 refine T.F_is_end.ok sc_is_end (fun vs H Q E h=>?_) (fun cdv A outer s H vs Q E hr h=>?_)
 ·obtain⟨v,r,xs,os,x,k,rfl,_⟩:=h
  rfl
 have nd:=sc_is_end.nd
 obtain⟨v,r,xs,os,x,k,rfl,hr1,hos,hk,hv,q⟩:=h
 refine⟨_,(QE (QK (zM2 (Qx Qy (pv 0) (Qh (v:=.int (-1)) rfl T.c_EMPTY ⟨_,rfl⟩) (QP _)) (Yp (Yr (Qx zK9 (pv 0) QC (QP _)) (Yp (Qx (zMC hr.units) (Qa Qs (pv 1) (pv 0) (fun _ _=>rfl)) (pv 2) (QP _)))))))),?_⟩
 walk_at "rd"
 refine YZ (fun z=>?_) (fun z=>YZ (fun z2=>?_) (fun z2=>?_))
 ·rw[decide_eq_true (show YW os k v from .inl z)] at q
  exact q
 ·obtain⟨k',e1,e2⟩:=hv z2
  obtain⟨y,e3,e4⟩:=hos.get' e1
  have at':atI xs v=some y:=by
   have:=ZA e3
   rwa [Int.toNat_of_nonneg z2] at this
  rw[QV hr1 at']
  refine⟨k',k,e4,hk,e2,?_⟩
  have e:k'.eqb k=decide (YW os k v):=by
   rw[Kd.eqb_dec]
   refine decide_eq_decide.mpr ⟨fun e=>.inr ⟨z2,by rw[e1,e]⟩,fun h=>?_⟩
   rcases h with h | ⟨_,h⟩
   ·exact absurd h z
   ·rw[e1] at h
    exact Option.some.inj (Option.some.inj h)
  rw[e]
  exact q
 ·have e:¬ YW os k v:=fun h=>by
   rcases h with h | ⟨h,_⟩
   ·exact z h
   ·exact z2 h
  rw[decide_eq_false e] at q
  exact q
theorem zH4 (T:Txt K mg a)(G_stamp:FnOk P w K mg base CX0 8 a.f_stamp a.d_stamp WJ (zI4 3))(G_probe:FnOk P w K mg base CX0 2 a.f_probe a.d_probe zAh zDQ)(G_is_end:FnOk P w K mg base CX0 1 a.f_is_end a.d_is_end zBX zLF):FnOk P w K mg base CX0 9 a.f_paper a.d_paper zAl zCx:=by
 refine T.F_paper.ok sc_paper (fun vs H Q E h=>?_) (fun cdv A outer s H vs Q E hr h=>?_)
 ·obtain⟨p,r,cs,xs,os,x,k,c,rfl,_⟩:=h
  rfl
 have nd:=sc_paper.nd
 obtain⟨p,r,cs,xs,os,x,k,c,rfl,hp,hrw,hos,hk,hd,l0,l1,hg,hc,q⟩:=h
 refine⟨_,(QB (QT (i:=3) nd rfl (Or.inl rfl) (QO (G_stamp.mono (by decide)) hr rfl T.m_stamp T.F_stamp.kp T.b_stamp .nil QR (QA (pv 2) QD)))
 (QB (QT (i:=4) nd rfl (Or.inl rfl) (YK QD))
 (QB (Zj PassesOwn.never rfl (WQ rfl T.z_range (QA (QL Qd rfl T.z_len PySem.boot_len (QA (pv 0) QD)) QD)) (YU (i:=5) nd rfl (Or.inl rfl)) (QB (QT (i:=6) nd rfl (Or.inl rfl) (QO (G_probe.mono (by decide)) hr rfl T.m_probe T.F_probe.kp T.b_probe .nil QR (QA (pv 3) (QA (QL Qd rfl T.z_len PySem.boot_len (QA (pv 0) QD)) (QA (pv 5) QD)))))
 (QB (Qe (zDk PySem.F.plainAttrs_list PySem.F.slot_list_append PySem.F.type_list_append JU (pv 4) (QA (YI (QA (pv 6) (QA (Qa Qs (pv 0) (pv 6) (fun _ _=>rfl)) QD))) QD)))
 (QE (QS (QW (QO (G_is_end.mono (by decide)) hr rfl T.m_is_end T.F_is_end.kp T.b_is_end .nil QR (QA (Qa Qs (pv 0) (pv 6) (fun _ _=>rfl)) (QA (pv 1) (QA (pv 2) QD))))) (QE zIz) QN)))))
 (QE (QK (pv 4)))))),?_⟩
 have rg:=Kd.st_range k
 obtain⟨c1,c2,c3⟩:=hc
 walk_at "rd"
 refine⟨x,k,rfl,hk,hd,?_⟩
 refine⟨by decide,fun b hb=>?_⟩
 have g1:=QH (o:=HO.lst []) hb
 show zIT [V.ref p] _ _
 rw[Qw (g1 _ _ hp),List.length_map]
 refine⟨_,rfl,by omega,by omega,?_⟩
 rw[Int.toNat_natCast]
 refine Zh (fun i σ H'=>i<=c/\Same H H'/\(∃ ys,H' b=some (.lst ys)/\IsKos H' ((List.range i).map fun i=>some (.tup [.num (sl k.st cs.length i:Nat),.num (cAt cs k.st i)])) ys)/\∃ u w,σ=[some (.ref p),some (.ref r),some x,some (.int k.st),some (.ref b),u,w]) ⟨Nat.zero_le _,g1,⟨[],QF,IsKos.nil⟩,none,none,rfl⟩ (fun i σ H' hi h=>?_) (fun σ H' h=>?_)
 ·obtain⟨hic,g,⟨ys,hy,hoy⟩,u,w,rfl⟩:=h
  walk_at "rd"
  rw[Qw (g _ _ hp),List.length_map]
  refine⟨_,_,_,rfl,rg.1,by omega,by omega,by omega,?_⟩
  rw[Int.zero_add,Int.toNat_natCast,← zAw l0]
  have at':atI (cs.map V.int) ((sl k.st cs.length i:Nat):Int)=some (V.int (cAt cs k.st i)):=ZA (by rw[List.getElem?_map,ZX l0];rfl)
  refine⟨.inl ⟨rfl,_,SqL.of hy⟩,?_⟩
  rw[QV (g _ _ hp) at']
  refine⟨by decide,fun t ht=>?_⟩
  have gt:=QH (o:=HO.tup [V.int (sl k.st cs.length i:Nat),V.int (cAt cs k.st i)]) ht
  rw[Zx (gt _ _ hy)]
  have hyl:=hoy.len
  rw[List.length_map,List.length_range] at hyl
  refine⟨by rw[hyl];exact Qn (by omega),?_⟩
  have tb:=Q7 (o:=HO.lst (ys++[V.ref t])) (gt _ _ hy)
  have g2:=(g.trans gt).upd (o:=HO.lst (ys++[V.ref t])) hb
  rw[QV (g2 _ _ hp) at']
  have hoy2:IsKos (upd (upd H' t (HO.tup [V.int (sl k.st cs.length i:Nat),V.int (cAt cs k.st i)])) b (HO.lst (ys++[V.ref t]))) ((List.range (i+1)).map fun i=>some (.tup [.num (sl k.st cs.length i:Nat),.num (cAt cs k.st i)])) (ys++[V.ref t]):=by
   rw[List.range_succ,List.map_append]
   refine (hoy.same (gt.tups.trans tb)).snoc ?_
   exact Yw (tb _ _ QF) (by show 2<=1000;decide) (IsKs.two Zl Zl)
  refine⟨_,r,xs,os,x,k,rfl,g2 _ _ hrw,hos.same g2.tups,hk.same g2.tups,fun h=>hg _ (zJw l0) h,_,rfl,?_⟩
  by_cases z:YW os k (cAt cs k.st i)
  ·have e:i=c:=by
    rcases Nat.lt_or_ge i c with y | y
    ·exact absurd z (c3 i y)
    ·omega
   rw[if_pos (decide_eq_true z)]
   show zLM (zJI 4) _ _ _
   walk_at "rd"
   rw[e] at hoy2
   rw[e]
   exact q b _ _ (e ▸ g2) hb QF hoy2
  ·rw[if_neg (by simp[z])]
   refine⟨?_,g2,_,QF,hoy2⟩
   rcases Nat.lt_or_ge i c with y | y
   ·omega
   ·have e:i=c:=by omega
    rw[e] at z
    exact absurd c2 z
 ·obtain⟨hic,g,⟨ys,hy,hoy⟩,u,w,rfl⟩:=h
  omega
theorem zDS (T:Txt K mg a)(G_paper:FnOk P w K mg base CX0 9 a.f_paper a.d_paper zAl zCx):FnOk P w K mg base CX0 10 a.f_place_of a.d_place_of JA zF7:=by
 refine T.F_place_of.ok sc_place_of (fun vs H Q E h=>?_) (fun cdv A outer s H vs Q E hr h=>?_)
 ·obtain⟨p,r,cs,xs,os,x,k,c,rfl,_⟩:=h
  rfl
 have nd:=sc_place_of.nd
 obtain⟨p,r,cs,xs,os,x,k,c,rfl,hp,hrw,hos,hk,hd,l0,l1,hg,hc,q⟩:=h
 refine⟨_,(QB (QT (i:=3) nd rfl (Or.inl rfl) (QO (G_paper.mono (by decide)) hr rfl T.m_paper_slots T.F_paper.kp T.b_paper .nil QR (QA (pv 0) (QA (pv 1) (QA (pv 2) QD)))))
 (QB (QT (i:=4) nd rfl (Or.inl rfl) (Qa Qs (Qa Qs (pv 3) (zFg zCy QC) (fun _ _=>rfl)) QC (fun _ _=>rfl)))
 (QE (QK (WI (QQ Qy (pv 4) (Qh (v:=.int (-1)) rfl T.c_EMPTY ⟨_,rfl⟩) (QP _)) Qm (pv 4)))))),?_⟩
 walk_at "rd"
 refine⟨p,r,cs,xs,os,x,k,c,rfl,hp,hrw,hos,hk,hd,l0,l1,hg,hc,fun f ys H' g hf0 hf hoy=>?_⟩
 have hyl:ys.length=c+1:=by rw[hoy.len,zCa]
 obtain⟨y,ey⟩:∃ y,ys[c]? = some y:=⟨ys[c],List.getElem?_eq_getElem (by omega)⟩
 obtain⟨t,rfl,ht⟩:=zH0 hoy ey
 have qq:=q H' g
 show ixC (V.ref f) (V.int (-1)) _ _
 rw[QV hf ((zDH hyl).trans ey),Q2 (v:=V.int (cAt cs k.st c)) ht rfl,zCl]
 refine⟨_,rfl,?_⟩
 by_cases z:cAt cs k.st c = -1
 ·rw[if_pos (decide_eq_true z)]
  rw[if_pos z] at qq
  exact qq
 ·rw[if_neg (by simp[z])]
  rw[if_neg z] at qq
  exact qq
theorem zDZ (T:Txt K mg a)(G_is_size:FnOk P w K mg base CX0 2 a.f_is_size a.d_is_size J0 zM7)(G_room:FnOk P w K mg base CX0 1 a.f_room a.d_room zDE zEq)(G_first_empty:FnOk P w K mg base CX0 9 a.f_first_empty a.d_first_empty ZJ zMx):FnOk P w K mg base CX0 10 a.f_cells_of a.d_cells_of Wy zFX:=by
 refine T.F_cells_of.ok sc_cells_of (fun vs H Q E h=>?_) (fun cdv A outer s H vs Q E hr h=>?_)
 ·obtain⟨r,xs,os,s,rfl,_⟩:=h
  rfl
 have nd:=sc_cells_of.nd
 obtain⟨r,xs,os,s,rfl,hrw,hos,osh,h8,hl,q⟩:=h
 refine⟨_,(QB (QS (Ww (QW (QO (G_is_size.mono (by decide)) hr rfl T.m_is_size T.F_is_size.kp T.b_is_size .nil QR (QA (pv 1) QD)))) (QE Y1) QN)
 (QB (QS (QQ Jc (QL Qd rfl T.z_len PySem.boot_len (QA (pv 0) QD)) (QO (G_room.mono (by decide)) hr rfl T.m_room T.F_room.kp T.b_room .nil QR (QA (pv 1) QD)) (QP _)) (QE Y1) QN)
 (QB (QT (i:=2) nd rfl (Or.inl rfl) (QM zLx (YK (QA (Qh (v:=.int (-1)) rfl T.c_EMPTY ⟨_,rfl⟩) QD)) (pv 1)))
 (QB (Zj PassesOwn.never rfl (zJj rfl rfl T.z_enumerate (pv 0)) (zHl rfl (JH (YU (i:=3) nd rfl (Or.inl rfl)) (JH (YU (i:=4) nd rfl (Or.inl rfl)) zFl))) (QE (QS (QQ Za (pv 4) Qm (QP _)) (QE (YG (pv 3) (YH (pv 2) (QO (G_first_empty.mono (by decide)) hr rfl T.m_first_empty T.F_first_empty.kp T.b_first_empty .nil QR (QA (pv 2) (QA (pv 4) QD))) Y2))) QN)))
 (QE (QK (pv 2))))))),?_⟩
 have r8:=h8.range
 have xl:=hos.len
 walk_at "rd"
 refine⟨.int s,true,true,rfl,.inl ⟨s,rfl,rfl,(decide_eq_true h8).symm⟩,true,rfl,?_⟩
 rw[if_neg (by decide),Qw hrw,xl]
 refine⟨s,rfl,_,rfl,_,rfl,?_⟩
 rw[if_neg (by omega)]
 refine⟨by decide,fun p hp=>⟨p,s,_,rfl,rfl,QF,by omega,by omega,?_,fun c hc=>?_⟩⟩
 ·show 1*s.toNat<=sizeLine
  rw[Nat.one_mul]
  exact Nat.le_of_lt (Qn (by omega))
 have erep:(List.replicate s.toNat [V.int (-1)]).flatten=(List.replicate s.toNat (-1:Int)).map V.int:=by
  rw[List.map_replicate]
  generalize s.toNat=z
  induction z with
  | zero=>rfl
  | succ z ih=>rw[List.replicate_succ,List.flatten_cons,ih,List.replicate_succ];rfl
 rw[erep]
 have g1:=QH (o:=HO.lst [V.int (-1)]) hp
 have g2:=QH (o:=HO.lst ((List.replicate s.toNat (-1:Int)).map V.int)) hc
 have hc0:H c=none:=g1.free hc
 have G2:=g1.trans g2
 have sn:((s.toNat:Nat):Int)=s:=by omega
 have p2:IsP2 ((s.toNat:Nat):Int):=by rw[sn];exact h8.p2
 refine⟨⟨_,SqL.of (G2 _ _ hrw)⟩,zGq (xs:=xs) (fun i σ H'=>Same H H'/\(∃ cs:List Int,H' c=some (HO.lst (cs.map V.int))/\LB (stO os) s.toNat i cs)/\∃ u v,σ=[some (.ref r),some (.int s),some (.ref c),u,v]) ⟨G2,⟨_,QF,.zero⟩,none,none,rfl⟩ (fun _ _ _ _ h=>SqL.of (h.1 _ _ hrw)) (fun i x t σ H' e h ht=>?_) (fun σ H' h=>?_)⟩
 ·obtain⟨G,⟨cs,hcs,lb⟩,u,v,rfl⟩:=h
  obtain⟨o,e1,e2⟩:=hos.get e
  have il:i < os.length:=(List.getElem?_eq_some_iff.mp e1).1
  have gt:=QH (o:=HO.tup [V.int (i:Nat),x]) ht
  have G3:=G.trans gt
  have L:=lb.laid (by omega)
  have cl:=L.len
  walk_at "rd"
  refine⟨_,SqT.of QF,rfl,_,_,rfl,_,_,rfl,rfl,?_⟩
  have hnon:=e2.non
  cases o with
  | none =>
   rw[if_neg (fun z=>z (of_decide_eq_true hnon))]
   exact⟨G3,cs,gt _ _ hcs,lb.skip (by unfold stO;rw[e1])⟩
  | some k =>
   rw[if_pos (of_decide_eq_false hnon)]
   obtain⟨c',hc'⟩:=lb.room (by omega) p2 k.st
   refine⟨c,cs,x,k,c',rfl,gt _ _ hcs,by omega,by omega,IsK.same G3.tups e2,osh _ (List.mem_of_getElem? e1),by rw[cl];exact hc',?_⟩
   show zHb (V.ref c) _ _ _ _
   rw[YD (gt _ _ hcs) rfl (by rw[List.length_map];exact zBN (by omega)),← List.map_set,cl]
   exact⟨G3.upd hc0,_,QF,lb.put (by unfold stO;rw[e1]) hc'⟩
 ·obtain⟨G,⟨cs,hcs,lb⟩,u,v,rfl⟩:=h
  walk_at "rd"
  rw[xl] at lb
  exact q c cs _ G hc0 hcs lb
theorem zDW (T:Txt K mg a):FnOk P w K mg base CX0 1 a.f_size_for a.d_size_for ZT zIo:=by
 refine T.F_size_for.ok sc_size_for (fun vs H Q E h=>?_) (fun cdv A outer s H vs Q E hr h=>?_)
 ·obtain⟨m,rfl,_⟩:=h
  rfl
 have nd:=sc_size_for.nd
 obtain⟨m,rfl,h0,h1,q⟩:=h
 refine⟨_,(QB (QT (i:=1) nd rfl (Or.inl rfl) (Qh (v:=.int 8) rfl T.c_LEAST ⟨_,rfl⟩))
 (QB (zIL PassesOwn.never (QQ WY (pv 1) (QM Ys QC (pv 0)) (QP _)) (QE (QT (i:=1) nd rfl (Or.inl rfl) (QM Ys QC (pv 1)))))
 (QE (QK (pv 1))))),?_⟩
 walk_at "rd"
 refine zIK (fun σ H'=>H'=H/\∃ s,σ=[some (.int m),some (.int s)]/\S8 s/\(s=8\/s / 2 < 3*m)) (fun σ _=>match σ with | [_,some (.int s)]=>(8192 - s).toNat | _=>0) ⟨rfl,8,rfl,.inl rfl,.inl rfl⟩ (fun σ H' h=>?_)
 obtain⟨rfl,s,rfl,h2,h3⟩:=h
 walk_at "rd"
 refine⟨.inl ⟨by decide,by decide⟩,?_⟩
 refine YZ (fun c=>?_) (fun c=>?_)
 ·refine⟨fun σ' H''=>H''=H'/\σ'=[some (.int m),some (.int (2*s))],fun σ' H'' e=>?_,?_⟩
  ·obtain⟨rfl,rfl⟩:=e
   have r:=h2.range
   refine⟨_,?_,rfl,rfl,_,rfl,h2.double (by omega),.inr (by omega)⟩
   show (8192 - 2*s).toNat < (8192 - s).toNat
   omega
  ·walk_at "rd"
   exact .inl ⟨by decide,by decide⟩
 ·exact q s h2 (by omega) h3
theorem zG7 (T:Txt K mg a):FnOk P w K mg base CX0 1 a.f_packed a.d_packed Ja zBO:=by
 refine T.F_packed.ok sc_packed (fun vs H Q E h=>?_) (fun cdv A outer s H vs Q E hr h=>?_)
 ·obtain⟨a,b,xs,ys,rfl,_⟩:=h
  rfl
 have nd:=sc_packed.nd
 obtain⟨a1,b1,xs,ys,rfl,ha,hb,hl,h3,q⟩:=h
 refine⟨_,(QB (zBS (i:=2) nd rfl (Or.inl rfl) "key" [] [] rfl ⟨rfl,rfl,by decide +kernel,by decide +kernel,rfl,by decide +kernel,by decide +kernel,rfl,by decide +kernel⟩ rfl (WT (pv 0)) (fun C s1 H1 fp=>(QQ Za (pv 0) Qm (QP _))) (fun C s1 H1 fp=>(pv 0)))
 (QB (zGu (i:=3) nd rfl (Or.inl rfl) "key" "thing" [] [] rfl ⟨rfl,rfl,by decide +kernel,by decide +kernel,by decide +kernel,by decide +kernel,rfl,by decide +kernel⟩ rfl rfl rfl (zGJ false false rfl T.z_zip (QA (pv 0) (QA (pv 1) QD))) (fun C s1 H1 fp=>(QQ Za (pv 0) Qm (QP _))) (fun C s1 H1 fp=>(pv 1)))
 (QE (QK (YI (QA (pv 2) (QA (pv 3) QD))))))),?_⟩
 try walk_at "rd"
 refine⟨⟨_,SqL.of ha⟩,Zr (xs:=xs) (fun i zs H'=>H'=H/\zs=Kp (xs.take i)) ⟨rfl,rfl⟩ (fun _ _ _ _ h=>by rw[h.1];exact SqL.of ha) (fun i zs H' hi h=>?_) (fun i x zs H' e h=>?_) (fun zs H' h=>?_)⟩
 ·obtain⟨rfl,rfl⟩:=h
  exact Qn (Nat.le_trans zLw (by rw[List.length_take];omega))
 ·obtain⟨rfl,rfl⟩:=h
  try walk_at "rd"
  rw[Wr e,zKX]
  by_cases c:x=V.non
  ·have hN:NN x=false:=by unfold NN;simp[c]
   rw[if_neg (fun h=>h c),hN];rfl
  ·have hN:NN x=true:=by unfold NN;simp[c]
   rw[if_pos c,hN];rfl
 ·obtain⟨rfl,rfl⟩:=h
  rw[List.take_length]
  intro p hp
  have g1:=QH (o:=HO.lst (Kp xs)) hp
  generalize hH1:upd H' p (HO.lst (Kp xs))=H1 at g1 ⊢
  have hp1:H1 p=some (.lst (Kp xs)):=by rw[← hH1];exact QF
  refine⟨⟨_,SqL.of (g1 _ _ ha)⟩,⟨_,SqL.of (g1 _ _ hb)⟩,zBJ (xs:=xs) (ys:=ys) hl (Nat.le_of_lt (Qn (by omega))) (fun i zs H2=>Same H1 H2/\zs.length<=i/\zs=Kb (xs.take i) (ys.take i)) ⟨Same.refl H1,Nat.zero_le _,rfl⟩
   (fun i zs H2 _ h=>⟨SqL.of (h.1 _ _ (g1 _ _ ha)),SqL.of (h.1 _ _ (g1 _ _ hb)),h.2.1⟩) (fun i x y t zs H2 ex ey h ht=>?_) (fun zs H2 h=>?_)⟩
  ·obtain⟨g,hz,rfl⟩:=h
   have g2:=g.trans (QH (o:=HO.tup [x,y]) ht)
   try walk_at "rd"
   have lx:(xs.take i).length=(ys.take i).length:=by rw[List.length_take,List.length_take];omega
   rw[Wr ex,Wr ey,zJt lx]
   by_cases c:x=V.non
   ·have hN:NN x=false:=by unfold NN;simp[c]
    rw[if_neg (fun h=>h c),hN]
    exact⟨g2,by omega,rfl⟩
   ·have hN:NN x=true:=by unfold NN;simp[c]
    rw[if_pos c,hN]
    exact⟨g2,by rw[List.length_append,List.length_singleton];omega,rfl⟩
  ·obtain⟨g,hz,rfl⟩:=h
   rw[List.take_length,hl,List.take_length]
   intro p2 hp2
   have g2:=QH (o:=HO.lst (Kb xs ys)) hp2
   have hn:H1 p2=none:=g.free hp2
   have np:p ≠ p2:=QI hp1 hn
   try walk_at "rd"
   refine⟨by decide,fun t ht=>?_⟩
   have g3:=QH (o:=HO.tup [V.ref p,V.ref p2]) ht
   have G:=((g1.trans g).trans g2).trans g3
   exact q t p p2 _ G hp (g1.free hn) np QF (g3 _ _ (g2 _ _ (g _ _ hp1))) (g3 _ _ QF)
end
section
variable {P:Program} {w:World} {K:W.Frag} {mg:Str->Option Value} {base:Heap} {a:Ad} {tb:Bool}
theorem zEy (T:Txt K mg a)(G_is_key:FnOk P w K mg base CX0 9 a.f_is_key a.d_is_key Jd zHs):FnOk P w K mg base CX0 10 a.f_checked a.d_checked Yd zIQ:=by
 refine T.F_checked.ok sc_checked (fun vs H Q E h=>?_) (fun cdv A outer s H vs Q E hr h=>?_)
 ·obtain⟨x,k,rfl,_⟩:=h
  rfl
 have nd:=sc_checked.nd
 obtain⟨x,k,rfl,hk,hok,q⟩:=h
 refine⟨_,(QB (QS (Ww (QW (QO (G_is_key.mono (by decide)) hr rfl T.m_is_key T.F_is_key.kp T.b_is_key .nil QR (QA (pv 0) QD)))) (QE Y1) QN)
 (QE (QK (pv 0)))),?_⟩
 try walk_at "rd"
 refine⟨Emp,x,k.th,rfl,hk.th hok,zHp,fun H' g=>?_⟩
 rw[hok]
 try walk_at "rd"
 exact q H' g
theorem zGd (T:Txt K mg a)(G_place_of:FnOk P w K mg base CX0 10 a.f_place_of a.d_place_of JA zF7):FnOk P w K mg base CX0 11 a.f_Hplace a.d_Hplace ZN (zHP (cA a tb)):=by
 refine T.F_Hplace.ok sc_Hplace (fun vs H Q E h=>?_) (fun cdv A outer s H vs Q E hr h=>?_)
 ·obtain⟨p,S,x,k,rfl,_⟩:=h
  rfl
 have nd:=sc_Hplace.nd
 obtain⟨p,S,x,k,rfl,A,hk,hd,q⟩:=h
 refine⟨_,(QE (QK (QO (G_place_of.mono (by decide)) hr rfl T.m_place_of T.F_place_of.kp T.b_place_of .nil QR (QA (QU (pv 0) rfl) (QA (QU (pv 0) rfl) (QA (pv 1) QD)))))),?_⟩
 try walk_at "rd"
 rw[zDB T A,zBG T A]
 obtain⟨xs,h1,h2⟩:=A.hr
 have hl:=A.fm.len
 have hs:=A.small
 rcases zL1 S.os k with ⟨i,hi⟩ | hn
 ·obtain⟨c,hc,e⟩:=A.fm.there hi
  refine⟨S.pc,S.pr,S.cs,xs,S.os,x,k,c,rfl,A.hc,h1,h2,hk,hd,by omega,by omega,zDD A,by rw[hl];exact hc,fun H' g=>?_⟩
  rw[e,if_neg (by omega)]
  exact q.1 i hi H' g
 ·obtain⟨c,hc,e⟩:=A.fm.lacks hn
  refine⟨S.pc,S.pr,S.cs,xs,S.os,x,k,c,rfl,A.hc,h1,h2,hk,hd,by omega,by omega,zDD A,by rw[hl];exact hc,fun H' g=>?_⟩
  rw[e,if_pos rfl]
  exact q.2 hn H' g
theorem zIZ (T:Txt K mg a):FnOk P w K mg base CX0 1 a.f_Hmany a.d_Hmany WR (JE (cA a tb)):=by
 refine T.F_Hmany.ok sc_Hmany (fun vs H Q E h=>?_) (fun cdv A outer s H vs Q E hr h=>?_)
 ·obtain⟨p,S,rfl,_⟩:=h
  rfl
 have nd:=sc_Hmany.nd
 obtain⟨p,S,rfl,A,q⟩:=h
 refine⟨_,(QE (QK (QM Y7 (QU (pv 0) rfl) (QU (pv 0) rfl)))),?_⟩
 try walk_at "rd"
 rw[zFQ T A,zEp T A]
 try walk_at "rd"
 exact q
theorem zEi (T:Txt K mg a)(G_Hmany:FnOk P w K mg base CX0 1 a.f_Hmany a.d_Hmany WR (JE (cA a tb))):FnOk P w K mg base CX0 2 a.f_Hcounts a.d_Hcounts J1 (zDw (cA a tb)):=by
 refine T.F_Hcounts.ok sc_Hcounts (fun vs H Q E h=>?_) (fun cdv A outer s H vs Q E hr h=>?_)
 ·obtain⟨p,S,rfl,_⟩:=h
  rfl
 have nd:=sc_Hcounts.nd
 obtain⟨p,S,rfl,A,q⟩:=h
 refine⟨_,(QE (QK (YI (QA (Q1 (pv 0) (T.cl tb) (T.M_Hmany tb) (G_Hmany.mono (by decide)) hr T.b_Hmany .nil QR) (QA (QU (pv 0) rfl) (QA (QU (pv 0) rfl) (QA (QU (pv 0) rfl) (QA (QU (pv 0) rfl) QD)))))))),?_⟩
 try walk_at "rd"
 rw[Ye A (by decide +kernel)]
 refine⟨p,S,rfl,A,?_⟩
 show ZM K ("came" : Str) (V.ref p) H _
 rw[zFQ T A,zEp T A,zNA T A,zMy T A]
 exact⟨by decide,fun t ht=>q t ht⟩
theorem zEB (T:Txt K mg a):FnOk P w K mg base CX0 1 a.f_Hentries a.d_Hentries Zd (Jk (cA a tb)):=by
 refine T.F_Hentries.ok sc_Hentries (fun vs H Q E h=>?_) (fun cdv A outer s H vs Q E hr h=>?_)
 ·obtain⟨p,S,xs,rfl,_⟩:=h
  rfl
 have nd:=sc_Hentries.nd
 obtain⟨p,S,xs,rfl,A,hx,q⟩:=h
 refine⟨_,(QE (QK (zID "entry" [] [] rfl ⟨rfl,rfl,by decide +kernel,by decide +kernel,rfl,by decide +kernel,by decide +kernel,rfl,by decide +kernel⟩ rfl (zKg false false false rfl T.z_zip (QA (QU (pv 0) rfl) (QA (QU (pv 0) rfl) (QA (QU (pv 0) rfl) QD)))) (fun C s1 H1 fp=>(QQ Za (Qa Qs (pv 0) QC (fun _ _=>rfl)) Qm (QP _))) (fun C s1 H1 fp=>(pv 0))))),?_⟩
 obtain⟨xs',h1,h2⟩:=A.hr
 rw[hx] at h1
 cases h1
 have hxl:=h2.len
 have l1:=A.l1
 have l2:=A.l2
 have hsm:=A.small
 try walk_at "rd"
 rw[zB5 T A,zBG T A,zBR T A]
 refine⟨S.pm,rfl,S.pr,rfl,S.ph,rfl,⟨_,SqL.of A.hm⟩,⟨_,SqL.of hx⟩,⟨_,SqL.of A.hh⟩,?_⟩
 refine zE3 (xs:=S.ms.map V.int) (ys:=xs) (zs:=S.hs) (by rw[List.length_map];omega) (by rw[List.length_map];omega) (Nat.le_of_lt (Qn (by rw[List.length_map];omega)))
  (fun i vs H'=>Same H H'/\vs.length<=i/\Paired (EntR H') vs (((S.ms.zip (xs.zip S.hs)).take i).filter fun e=>NN e.2.1)) ⟨Same.refl H,Nat.zero_le _,.nil⟩
  (fun i vs H' hi h=>⟨SqL.of (h.1 _ _ A.hm),SqL.of (h.1 _ _ hx),SqL.of (h.1 _ _ A.hh),h.2.1⟩) (fun i x y z t vs H' ex ey ez h ht=>?_) (fun vs H' h=>?_)
 ·obtain⟨g,hl,pr⟩:=h
  rw[List.getElem?_map] at ex
  cases em:S.ms[i]? with
  | none=>rw[em] at ex;cases ex
  | some m =>
   rw[em] at ex
   cases ex
   have gt:=QH (o:=HO.tup [V.int m,y,z]) ht
   have ez':(S.ms.zip (xs.zip S.hs))[i]? = some (m,y,z):=by
    rw[List.getElem?_zip_eq_some]
    exact⟨em,by rw[List.getElem?_zip_eq_some];exact⟨ey,ez⟩⟩
   have pr':=Yf pr fun a _ b h=>EntR.same gt h
   have hu:=QF (H:=H') (a:=t) (o:=HO.tup [V.int m,y,z])
   have G:=g.trans gt
   generalize upd H' t (HO.tup [V.int m,y,z])=H2 at gt pr' hu G ⊢
   try walk_at "rd"
   rw[Q2 (v:=y) hu rfl,Y0 ez',List.filter_append]
   by_cases c:y=V.non
   ·have hN:NN y=false:=by unfold NN;simp[c]
    rw[if_neg (fun h=>h c)]
    refine⟨G,by omega,?_⟩
    have e1:[(m,y,z)].filter (fun e:Int × V × V=>NN e.2.1)=[]:=by simp[List.filter,hN]
    rw[e1,List.append_nil]
    exact pr'
   ·have hN:NN y=true:=by unfold NN;simp[c]
    rw[if_pos c]
    refine⟨G,by rw[List.length_append,List.length_singleton];omega,?_⟩
    have e1:[(m,y,z)].filter (fun e:Int × V × V=>NN e.2.1)=[(m,y,z)]:=by simp[List.filter,hN]
    rw[e1]
    exact ZB pr' ⟨t,rfl,hu⟩
 ·obtain⟨g,hl,pr⟩:=h
  intro l hl'
  have gl:=QH (o:=HO.lst vs) hl'
  refine q l vs _ (g.trans gl) (g.free hl') QF ?_
  have pr':=Yf pr fun a _ b h=>EntR.same gl h
  rw[List.take_of_length_le (by rw[List.length_zip,List.length_map];omega)] at pr'
  exact pr'
theorem zGw (T:Txt K mg a)(G_paper:FnOk P w K mg base CX0 9 a.f_paper a.d_paper zAl zCx):FnOk P w K mg base CX0 10 a.f_Hwrite a.d_Hwrite JG (zCT (cA a tb)):=by
 refine T.F_Hwrite.ok sc_Hwrite (fun vs H Q E h=>?_) (fun cdv A outer s H vs Q E hr h=>?_)
 ·obtain⟨p,S,x,k,v,c,rfl,_⟩:=h
  rfl
 have nd:=sc_Hwrite.nd
 obtain⟨p,S,x,k,v,c,rfl,A,hk,hd,hc,q⟩:=h
 refine⟨_,(QB (QT (i:=3) nd rfl (Or.inl rfl) (QO (G_paper.mono (by decide)) hr rfl T.m_paper_slots T.F_paper.kp T.b_paper .nil QR (QA (QU (pv 0) rfl) (QA (QU (pv 0) rfl) (QA (pv 1) QD)))))
 (QE (YG (pv 2) (YH (QU (pv 0) rfl) (Qa Qs (Qa Qs (pv 3) (zFg zCy QC) (fun _ _=>rfl)) QC (fun _ _=>rfl)) Y2)))),?_⟩
 obtain⟨xs,h1,h2⟩:=A.hr
 have hl:=A.fm.len
 have hsm:=A.small
 try walk_at "rd"
 rw[zDB T A,zBG T A]
 refine⟨S.pc,S.pr,S.cs,xs,S.os,x,k,c,rfl,A.hc,h1,h2,hk,hd,by omega,by omega,zDD A,by rw[hl];exact hc,fun f ys H' g hf0 hf hoy=>?_⟩
 have A':=A.same g
 have hyl:ys.length=c+1:=by rw[hoy.len,zCa]
 obtain⟨y,ey⟩:∃ y,ys[c]? = some y:=⟨ys[c],List.getElem?_eq_getElem (by omega)⟩
 obtain⟨t,rfl,ht⟩:=zH0 hoy ey
 try walk_at "rd"
 rw[zDB T A']
 show ixC (V.ref f) (V.int (-1)) _ _
 rw[QV hf ((zDH hyl).trans ey),Q2 (v:=V.int (sl k.st S.cs.length c:Nat)) ht rfl,YD A'.hc rfl (by rw[List.length_map];exact zBN (by omega)),← List.map_set,hl]
 exact q H' g
theorem zEC (T:Txt K mg a)(G_cells_of:FnOk P w K mg base CX0 10 a.f_cells_of a.d_cells_of Wy zFX):FnOk P w K mg base CX0 11 a.f_Hlay_out a.d_Hlay_out Yh (zEI (cA a tb)):=by
 refine T.F_Hlay_out.ok sc_Hlay_out (fun vs H Q E h=>?_) (fun cdv A outer s H vs Q E hr h=>?_)
 ·obtain⟨p,dx,fs,n,pr,ph,pm,xs,os,rfl,_⟩:=h
  rfl
 have nd:=sc_Hlay_out.nd
 obtain⟨p,dx,fs,n,pr,ph,pm,xs,os,rfl,hp,hf,h1,h2,osh,h8,hl,q⟩:=h
 refine⟨_,(QB (Q4 (pv 0) (QO (G_cells_of.mono (by decide)) hr rfl T.m_cells_of T.F_cells_of.kp T.b_cells_of .nil QR (QA (pv 2) (QA (pv 1) QD))) rfl)
 (QB (Q4 (pv 0) (pv 1) rfl)
 (QB (Q4 (pv 0) (pv 2) rfl)
 (QB (Q4 (pv 0) (pv 3) rfl)
 (QE (Q4 (pv 0) (pv 4) rfl)))))),?_⟩
 try walk_at "rd"
 refine⟨pr,xs,os,n,rfl,h1,h2,osh,h8,hl,fun pc cs H1 g hn hc lb=>?_⟩
 have hp1:=g _ _ hp
 show zHi K ("cells" : Str) (V.ref pc) (V.ref p) H1 _
 rw[Qp hp1 (T.cl tb) (T.n_cells tb) (by omega)]
 try walk_at "rd"
 rw[Qp QF (T.cl tb) (T.n_size tb) (by have:=Qo "cells" (V.ref pc) fs;omega),Q3]
 try walk_at "rd"
 rw[Qp QF (T.cl tb) (T.n_row tb) (by have:=Qo "cells" (V.ref pc) fs;have:=Qo "size" (V.int n) (Qr "cells" (V.ref pc) fs);omega),Q3]
 try walk_at "rd"
 rw[Qp QF (T.cl tb) (T.n_held tb) (by have:=Qo "cells" (V.ref pc) fs;have:=Qo "size" (V.int n) (Qr "cells" (V.ref pc) fs);have:=Qo "row" (V.ref pr) (Qr "size" (V.int n) (Qr "cells" (V.ref pc) fs));omega),Q3]
 try walk_at "rd"
 rw[Qp QF (T.cl tb) (T.n_comings tb) (by have:=Qo "cells" (V.ref pc) fs;have:=Qo "size" (V.int n) (Qr "cells" (V.ref pc) fs);have:=Qo "row" (V.ref pr) (Qr "size" (V.int n) (Qr "cells" (V.ref pc) fs));have:=Qo "held" (V.ref ph) (Qr "row" (V.ref pr) (Qr "size" (V.int n) (Qr "cells" (V.ref pc) fs)));omega),Q3]
 exact q pc cs H1 g hn hc lb
theorem zCb (T:Txt K mg a)(G_Hlay_out:FnOk P w K mg base CX0 11 a.f_Hlay_out a.d_Hlay_out Yh (zEI (cA a tb))):FnOk P w K mg base CX0 12 a.f_H__init__ a.d_H__init__ Yl (zEh (cA a tb)):=by
 refine T.F_H__init__.ok sc_H__init__ (fun vs H Q E h=>?_) (fun cdv A outer s H vs Q E hr h=>?_)
 ·obtain⟨p,dx,n,rfl,_⟩:=h
  rfl
 have nd:=sc_H__init__.nd
 obtain⟨p,dx,n,rfl,hp,h8,q⟩:=h
 refine⟨_,(QB (Qe (Qq (pv 0) (T.cl tb) (T.M_Hlay_out tb) (G_Hlay_out.mono (by decide)) hr T.b_Hlay_out .nil QR (QA (pv 1) (QA (YK QD) (QA (YK QD) (QA (YK QD) QD))))))
 (QB (Q4 (pv 0) QC rfl)
 (QB (Q4 (pv 0) QC rfl)
 (QB (Q4 (pv 0) QC rfl)
 (QE (Q4 (pv 0) QC rfl)))))),?_⟩
 have r8:=h8.range
 try walk_at "rd"
 rw[ZQ hp (by rfl)]
 refine⟨by decide,fun pr n1=>⟨by decide,fun ph n2=>⟨by decide,fun pm n3=>?_⟩⟩⟩
 have g1:=QH (o:=HO.lst []) n1
 have g2:=QH (o:=HO.lst []) n2
 have g3:=QH (o:=HO.lst []) n3
 have hr3:=g3 _ _ (g2 _ _ (QF (H:=H) (a:=pr) (o:=HO.lst [])))
 have hh3:=g3 _ _ (QF (H:=upd H pr (HO.lst [])) (a:=ph) (o:=HO.lst []))
 have hm3:=QF (H:=upd (upd H pr (HO.lst [])) ph (HO.lst [])) (a:=pm) (o:=HO.lst [])
 have m0:H pr=none:=n1
 have m1:pr ≠ ph:=fun e=>by subst e;rw[QF] at n2;cases n2
 have m2:ph ≠ pm:=fun e=>by subst e;rw[QF] at n3;cases n3
 have m3:pr ≠ pm:=fun e=>by subst e;rw[g2 _ _ QF] at n3;cases n3
 have G3:=(g1.trans g2).trans g3
 generalize upd (upd (upd H pr (HO.lst [])) ph (HO.lst [])) pm (HO.lst [])=H3 at g3 hr3 hh3 hm3 G3 ⊢
 refine⟨p,dx,[],n,pr,ph,pm,[],[],rfl,G3 _ _ hp,by decide,hr3,IsKos.nil,(fun o ho=>by cases ho),h8,by show (3:Int)*(0:Nat)<=2*n;omega,fun pc cs H4 g4 hn hc lb=>?_⟩
 have hcs:cs=List.replicate n.toNat (-1):=by cases lb;rfl
 rw[zKV]
 try walk_at "rd"
 have G4:=G3.trans g4
 have k1:pc ≠ pr:=fun e=>by subst e;rw[hr3] at hn;cases hn
 have k2:pc ≠ ph:=fun e=>by subst e;rw[hh3] at hn;cases hn
 have k3:pc ≠ pm:=fun e=>by subst e;rw[hm3] at hn;cases hn
 have p1:p ≠ pc:=QI (G3 _ _ hp) hn
 have p2:p ≠ pr:=QI hp n1
 have p3:p ≠ ph:=QI hp (g1.free n2)
 have p4:p ≠ pm:=QI hp ((g1.trans g2).free n3)
 rw[Qp QF (T.cl tb) (T.n_came tb) zKW,Q3,zKJ]
 try walk_at "rd"
 rw[Qp QF (T.cl tb) (T.n_went tb) zJu,Q3,zJT]
 try walk_at "rd"
 rw[Qp QF (T.cl tb) (T.n_tidyings tb) zJS,Q3,zKf]
 try walk_at "rd"
 rw[Qp QF (T.cl tb) (T.n_moved tb) zJK,Q3,zJL]
 have nn:((n.toNat:Nat):Int)=n:=by omega
 refine q ⟨dx,pc,pr,ph,pm,n.toNat,cs,[],[],[],0,0,0,0⟩ _ (fun b o e m=>by rw[QG m];exact G4 _ _ e) ⟨?_,?_,⟨[],?_,IsKos.nil⟩,?_,?_,⟨k1,k2,k3,m1,m3,m2⟩,?_,?_,?_,rfl,rfl,(fun o ho=>by cases ho),fun o ho=>by cases ho⟩ rfl hcs rfl rfl rfl rfl rfl rfl rfl
 ·show upd H4 p _ p=some (.ins (cA a tb) dx (shF pc ((n.toNat:Nat):Int) pr ph pm 0 0 0 0))
  rw[QF,nn]
 ·rw[QG (Ne.symm p1)];exact hc
 ·rw[QG (Ne.symm p2)];exact g4 _ _ hr3
 ·rw[QG (Ne.symm p3)];exact g4 _ _ hh3
 ·rw[QG (Ne.symm p4)];exact g4 _ _ hm3
 ·show Fm n.toNat cs []
  rw[hcs]
  exact Fm.zero (by rw[nn];exact h8.p2)
 ·show S8 ((n.toNat:Nat):Int)
  rw[nn];exact h8
 ·show 3*0<=2*n.toNat
  omega
end
section
variable {P:Program} {w:World} {K:W.Frag} {mg:Str->Option Value} {base:Heap} {a:Ad} {tb:Bool}
theorem zAK (T:Txt K mg a)(G_checked:FnOk P w K mg base CX0 10 a.f_checked a.d_checked Yd zIQ)(G_Hplace:FnOk P w K mg base CX0 11 a.f_Hplace a.d_Hplace ZN (zHP (cA a tb))):FnOk P w K mg base (CXe P w) 12 a.f_Hsure_place a.d_Hsure_place YQ (zFb (cA a tb) a.a_Lacking):=by
 refine T.F_Hsure_place.okE sc_Hsure_place (fun vs H Q E h=>?_) (fun cdv A outer s H vs Q E hr h=>?_)
 ·obtain⟨p,S,x,k,rfl,_⟩:=h
  rfl
 have nd:=sc_Hsure_place.nd
 obtain⟨p,S,x,k,rfl,A,hk,hd,hok,q1,q2⟩:=h
 obtain⟨bmL,xL⟩:=T.x_Lacking
 refine⟨_,(QB (QT (i:=2) nd rfl (Or.inl rfl) (Qq (pv 0) (T.cl tb) (T.M_Hplace tb) (G_Hplace.mono (by decide)) hr T.b_Hplace .nil QR (QA (QO (G_checked.mono (by decide)) hr rfl T.m_checked T.F_checked.kp T.b_checked .nil QR (QA (pv 1) QD)) QD)))
 (QB (QS (QQ ZI (pv 2) Qm (QP _)) (QE (ZR hr.hd rfl T.m_Lacking xL (QA YL QD))) QN)
 (QE (QK (pv 2))))),?_⟩
 try walk_at "rd"
 rw[Ye A (by decide +kernel)]
 refine⟨x,k,rfl,hk,hok,fun H1 g1=>?_⟩
 refine⟨p,S,x,k,rfl,A.same g1,hk.same g1.tups,hd,fun j hj H2 g2=>?_,fun hn H2 g2=>?_⟩
 ·unfold plV
  try walk_at "rd"
  exact q1 j H2 hj (g1.trans g2)
 ·unfold plV
  try walk_at "rd"
  exact⟨by decide,fun ea he=>q2 hn ea H2 (g1.trans g2) he⟩
theorem zGg (T:Txt K mg a)(G_Hsure_place:FnOk P w K mg base (CXe P w) 12 a.f_Hsure_place a.d_Hsure_place YQ (zFb (cA a tb) a.a_Lacking))(G_Hwrite:FnOk P w K mg base CX0 10 a.f_Hwrite a.d_Hwrite JG (zCT (cA a tb))):FnOk P w K mg base (CXe P w) 13 a.f_Htake a.d_Htake JN (zAi (cA a tb) a.a_Lacking):=by
 refine T.F_Htake.okE sc_Htake (fun vs H Q E h=>?_) (fun cdv A outer s H vs Q E hr h=>?_)
 ·obtain⟨p,S,x,k,rfl,_⟩:=h
  rfl
 have nd:=sc_Htake.nd
 obtain⟨p,S,x,k,rfl,A,hk,hd,hok,q1,q2⟩:=h
 refine⟨_,(QB (QT (i:=2) nd rfl (Or.inl rfl) (Qq (pv 0) (T.cl tb) (T.M_Hsure_place tb) (G_Hsure_place.mono (by decide)) hr T.b_Hsure_place .nil (zAF (fun _ _ _ h=>h)) (QA (pv 1) QD)))
 (QB (QT (i:=3) nd rfl (Or.inl rfl) (Qa Qs (QU (pv 0) rfl) (pv 2) (fun _ _=>rfl)))
 (QB (Qe (Qq (pv 0) (T.cl tb) (T.M_Hwrite tb) (G_Hwrite.mono (by decide)) hr T.b_Hwrite .nil QR (QA (pv 1) (QA (Qh (v:=.int (-2)) rfl T.c_GONE ⟨_,rfl⟩) QD))))
 (QB (YG Qm (YH (QU (pv 0) rfl) (pv 2) Y2))
 (QB (YG Qm (YH (QU (pv 0) rfl) (pv 2) Y2))
 (QB (JC (pv 0) QC zA7)
 (QE (QK (pv 3))))))))),?_⟩
 try walk_at "rd"
 rw[Ye A (by decide +kernel)]
 refine⟨p,S,x,k,rfl,A,hk,hd,hok,fun i H1 hi g1=>?_,q2⟩
 have A1:=A.same g1
 obtain⟨n1,n2,n3,n4⟩:=A.lists
 obtain⟨d1,d2,d3,d4,d5,d6⟩:=A.ne
 obtain⟨c,hc,hce⟩:=A.fm.there hi
 have hlt:i < S.hs.length:=by rw[A.l1];exact (List.getElem?_eq_some_iff.mp hi).1
 have hlo:i < S.os.length:=(List.getElem?_eq_some_iff.mp hi).1
 have hv0:(S.hs[i]?).getD V.non=S.hs[i]:=by rw[List.getElem?_eq_getElem hlt];rfl
 try walk_at "rd"
 rw[zBR T A1,QV A1.hh (v:=S.hs[i]) (ZA (by simp[hlt]))]
 try walk_at "rd"
 rw[Ye A1 (by decide +kernel)]
 try walk_at "rd"
 refine⟨p,S,x,k,-2,c,rfl,A1,hk.same g1.tups,hd,hc,fun H2 g2=>?_⟩
 have A2:=A1.same g2
 obtain⟨xs,h21,h22⟩:=A2.hr
 have hxl:=h22.len
 have G2:=g1.trans g2
 have hob3:upd H2 S.pc (HO.lst ((S.cs.set (sl k.st S.n c) (-2)).map V.int)) p=some (.ins (cA a tb) S.dx (shF S.pc S.n S.pr S.ph S.pm S.ca S.we S.ti S.mo)):=by rw[QG n1];exact A2.ob
 have hcs3:=QF (H:=H2) (a:=S.pc) (o:=HO.lst ((S.cs.set (sl k.st S.n c) (-2)).map V.int))
 have hrw3:upd H2 S.pc (HO.lst ((S.cs.set (sl k.st S.n c) (-2)).map V.int)) S.pr=some (.lst xs):=by rw[QG (Ne.symm d1)];exact h21
 have hhd3:upd H2 S.pc (HO.lst ((S.cs.set (sl k.st S.n c) (-2)).map V.int)) S.ph=some (.lst S.hs):=by rw[QG (Ne.symm d2)];exact A2.hh
 have hcm3:upd H2 S.pc (HO.lst ((S.cs.set (sl k.st S.n c) (-2)).map V.int)) S.pm=some (.lst (S.ms.map V.int)):=by rw[QG (Ne.symm d3)];exact A2.hm
 have b3:But p S H (upd H2 S.pc (HO.lst ((S.cs.set (sl k.st S.n c) (-2)).map V.int))):=fun b o e _ m1 _ _ _=>by rw[QG m1];exact G2 _ _ e
 generalize upd H2 S.pc (HO.lst ((S.cs.set (sl k.st S.n c) (-2)).map V.int))=H3 at hob3 hcs3 hrw3 hhd3 hcm3 b3 ⊢
 try walk_at "rd"
 rw[Qc hob3 (T.cl tb) (T.n_row tb) zDK]
 try walk_at "rd"
 rw[YD hrw3 rfl (by omega)]
 have hob4:upd H3 S.pr (HO.lst (xs.set i V.non)) p=some (.ins (cA a tb) S.dx (shF S.pc S.n S.pr S.ph S.pm S.ca S.we S.ti S.mo)):=by rw[QG n2];exact hob3
 have hcs4:upd H3 S.pr (HO.lst (xs.set i V.non)) S.pc=some (.lst ((S.cs.set (sl k.st S.n c) (-2)).map V.int)):=by rw[QG d1];exact hcs3
 have hrw4:=QF (H:=H3) (a:=S.pr) (o:=HO.lst (xs.set i V.non))
 have hhd4:upd H3 S.pr (HO.lst (xs.set i V.non)) S.ph=some (.lst S.hs):=by rw[QG (Ne.symm d4)];exact hhd3
 have hcm4:upd H3 S.pr (HO.lst (xs.set i V.non)) S.pm=some (.lst (S.ms.map V.int)):=by rw[QG (Ne.symm d5)];exact hcm3
 have b4:But p S H (upd H3 S.pr (HO.lst (xs.set i V.non))):=fun b o e m0 m1 m2 m3 m4=>by rw[QG m2];exact b3 b o e m0 m1 m2 m3 m4
 generalize upd H3 S.pr (HO.lst (xs.set i V.non))=H4 at hob4 hcs4 hrw4 hhd4 hcm4 b4 ⊢
 try walk_at "rd"
 rw[Qc hob4 (T.cl tb) (T.n_held tb) zAn]
 try walk_at "rd"
 rw[YD hhd4 rfl hlt]
 have hob5:upd H4 S.ph (HO.lst (S.hs.set i V.non)) p=some (.ins (cA a tb) S.dx (shF S.pc S.n S.pr S.ph S.pm S.ca S.we S.ti S.mo)):=by rw[QG n3];exact hob4
 have hcs5:upd H4 S.ph (HO.lst (S.hs.set i V.non)) S.pc=some (.lst ((S.cs.set (sl k.st S.n c) (-2)).map V.int)):=by rw[QG d2];exact hcs4
 have hrw5:upd H4 S.ph (HO.lst (S.hs.set i V.non)) S.pr=some (.lst (xs.set i V.non)):=by rw[QG d4];exact hrw4
 have hhd5:=QF (H:=H4) (a:=S.ph) (o:=HO.lst (S.hs.set i V.non))
 have hcm5:upd H4 S.ph (HO.lst (S.hs.set i V.non)) S.pm=some (.lst (S.ms.map V.int)):=by rw[QG (Ne.symm d6)];exact hcm4
 have b5:But p S H (upd H4 S.ph (HO.lst (S.hs.set i V.non))):=fun b o e m0 m1 m2 m3 m4=>by rw[QG m3];exact b4 b o e m0 m1 m2 m3 m4
 generalize upd H4 S.ph (HO.lst (S.hs.set i V.non))=H5 at hob5 hcs5 hrw5 hhd5 hcm5 b5 ⊢
 try walk_at "rd"
 rw[Qc hob5 (T.cl tb) (T.n_went tb) zDq]
 try walk_at "rd"
 rw[Qp hob5 (T.cl tb) (T.n_went tb) JP,JJ]
 have b6:But p S H (upd H5 p (HO.ins (cA a tb) S.dx (shF S.pc S.n S.pr S.ph S.pm S.ca (S.we+1) S.ti S.mo))):=fun b o e m0 m1 m2 m3 m4=>by rw[QG m0];exact b5 b o e m0 m1 m2 m3 m4
 try walk_at "rd"
 rw[← hv0]
 refine q1 i c _ hi hc b6 ⟨QF,?_,⟨xs.set i V.non,?_,?_⟩,?_,?_,A.ne,A.fm.take hi hc,A.s8,?_,?_,?_,?_,A.cm⟩
 ·show upd H5 p _ S.pc=_
  rw[QG (Ne.symm n1)];exact hcs5
 ·show upd H5 p _ S.pr=_
  rw[QG (Ne.symm n2)];exact hrw5
 ·obtain⟨xs0,h01,h02⟩:=A.hr
  have ex:xs=xs0:=by have:=G2 _ _ h01;rw[h21] at this;cases this;rfl
  subst ex
  exact zJ4 h02 (A.tups b6) i
 ·show upd H5 p _ S.ph=_
  rw[QG (Ne.symm n3)];exact hhd5
 ·show upd H5 p _ S.pm=_
  rw[QG (Ne.symm n4)];exact hcm5
 ·show 3*(S.os.set i none).length<=_
  rw[List.length_set];exact A.rm
 ·show (S.hs.set i V.non).length=(S.os.set i none).length
  rw[List.length_set,List.length_set];exact A.l1
 ·show _=(S.os.set i none).length
  rw[List.length_set];exact A.l2
 ·intro o ho
  rcases List.mem_or_eq_of_mem_set ho with z | z
  ·exact A.dp o z
  ·rw[z];exact True.intro
end
section
variable {P:Program} {w:World} {K:W.Frag} {mg:Str->Option Value} {base:Heap} {a:Ad} {tb:Bool}
theorem zCd (T:Txt K mg a)(G_H__init__:FnOk P w K mg base CX0 12 a.f_H__init__ a.d_H__init__ Yl (zEh (cA a true))):FnOk P w K mg base CX0 13 a.f_T__init__ a.d_T__init__ WG (zFj (cA a true)):=by
 refine T.F_T__init__.ok sc_T__init__ (fun vs H Q E h=>?_) (fun cdv A outer s H vs Q E hr h=>?_)
 ·obtain⟨p,dx,rfl,_⟩:=h
  rfl
 have nd:=sc_T__init__.nd
 obtain⟨p,dx,rfl,hp,q⟩:=h
 refine⟨_,(QE (Qe (zEe rfl T.m_Shelf T.M_H__init__ (G_H__init__.mono (by decide)) hr T.b_H__init___0 .nil QR (QA (pv 0) (QA (Qh (v:=.int 8) rfl T.c_LEAST ⟨_,rfl⟩) QD))))),?_⟩
 try walk_at "rd"
 exact⟨p,dx,8,rfl,hp,.inl rfl,fun S H2 kp A en ecs eo eh em eca ewe eti emo=>q S H2 kp A en eo eh em eca ewe eti emo⟩
theorem zIH (T:Txt K mg a):FnOk P w K mg base CX0 1 a.f_Hsize_emptied a.d_Hsize_emptied YT (zJE (cA a tb)):=by
 refine T.F_Hsize_emptied.ok sc_Hsize_emptied (fun vs H Q E h=>?_) (fun cdv A outer s H vs Q E hr h=>?_)
 ·obtain⟨p,S,rfl,_⟩:=h
  rfl
 have nd:=sc_Hsize_emptied.nd
 obtain⟨p,S,rfl,⟨we,A⟩,q⟩:=h
 refine⟨_,(QE (QK (QU (pv 0) rfl))),?_⟩
 try walk_at "rd"
 rw[Qc A (T.cl tb) (T.n_size tb) zEA]
 exact q
theorem J5 (T:Txt K mg a):FnOk P w K mg base CX0 1 a.f_Tsize_emptied a.d_Tsize_emptied Zt zJh:=by
 refine T.F_Tsize_emptied.ok sc_Tsize_emptied (fun vs H Q E h=>?_) (fun cdv A outer s H vs Q E hr h=>?_)
 ·obtain⟨p,rfl,_⟩:=h
  rfl
 have nd:=sc_Tsize_emptied.nd
 obtain⟨p,rfl,q⟩:=h
 refine⟨_,(QE (QK (Qh (v:=.int 8) rfl T.c_LEAST ⟨_,rfl⟩))),?_⟩
 try walk_at "rd"
 exact q
theorem zAP (T:Txt K mg a):FnOk P w K mg base CX0 1 (vA a.f_Hsize_emptied a.f_Tsize_emptied tb) (vA a.d_Hsize_emptied a.d_Tsize_emptied tb) YT (zFZ a tb):=by
 cases tb
 ·exact (zIH T).imp fun _ _ _ _ h=>h
 ·exact (J5 T).imp fun _ _ _ _ ⟨p,S,e,_,q⟩=>⟨p,e,q⟩
theorem zDl (T:Txt K mg a)(G_Hmany:FnOk P w K mg base CX0 1 a.f_Hmany a.d_Hmany WR (JE (cA a tb)))(G_size_emptied:FnOk P w K mg base CX0 1 (vA a.f_Hsize_emptied a.f_Tsize_emptied tb) (vA a.d_Hsize_emptied a.d_Tsize_emptied tb) YT (zFZ a tb))(G_Hlay_out:FnOk P w K mg base CX0 11 a.f_Hlay_out a.d_Hlay_out Yh (zEI (cA a tb))):FnOk P w K mg base CX0 12 a.f_Hemptied a.d_Hemptied W2 (zBM a tb):=by
 refine T.F_Hemptied.ok sc_Hemptied (fun vs H Q E h=>?_) (fun cdv A outer s H vs Q E hr h=>?_)
 ·obtain⟨p,S,rfl,_⟩:=h
  rfl
 have nd:=sc_Hemptied.nd
 obtain⟨p,S,rfl,A,q⟩:=h
 refine⟨_,(QB (JC (pv 0) (Q1 (pv 0) (T.cl tb) (T.M_Hmany tb) (G_Hmany.mono (by decide)) hr T.b_Hmany .nil QR) zA7)
 (QE (Qe (Qq (pv 0) (T.cl tb) (T.M_Hlay_out tb) (G_Hlay_out.mono (by decide)) hr T.b_Hlay_out .nil QR (QA (Q1 (pv 0) (T.cl tb) (T.M_size_emptied tb) (G_size_emptied.mono (by decide)) hr (T.b_size_emptied tb) .nil QR) (QA (YK QD) (QA (YK QD) (QA (YK QD) QD)))))))),?_⟩
 try walk_at "rd"
 rw[zEp T A]
 try walk_at "rd"
 rw[Ye A (by decide +kernel)]
 try walk_at "rd"
 refine⟨p,S,rfl,A,?_⟩
 try walk_at "rd"
 rw[Qp A.ob (T.cl tb) (T.n_went tb) JP,JJ,show S.we+(S.ca - S.we)=S.ca by omega]
 have hob:=QF (H:=H) (a:=p) (o:=HO.ins (cA a tb) S.dx (shF S.pc S.n S.pr S.ph S.pm S.ca S.ca S.ti S.mo))
 have k1:∀ b o,H b=some o->b ≠ p->upd H p (HO.ins (cA a tb) S.dx (shF S.pc S.n S.pr S.ph S.pm S.ca S.ca S.ti S.mo)) b=some o:=fun b o e n=>by rw[QG n];exact e
 generalize upd H p (HO.ins (cA a tb) S.dx (shF S.pc S.n S.pr S.ph S.pm S.ca S.ca S.ti S.mo))=H1 at hob k1 ⊢
 try walk_at "rd"
 rw[ZQ hob (zFE (by decide +kernel)),ZQ hob (zFE (by decide +kernel))]
 try walk_at "rd"
 refine⟨p,S,rfl,⟨_,hob⟩,?_⟩
 try walk_at "rd"
 refine⟨by decide,fun pr n1=>⟨by decide,fun ph n2=>⟨by decide,fun pm n3=>?_⟩⟩⟩
 have g1:=QH (o:=HO.lst []) n1
 have g2:=QH (o:=HO.lst []) n2
 have g3:=QH (o:=HO.lst []) n3
 have hr3:=g3 _ _ (g2 _ _ (QF (H:=H1) (a:=pr) (o:=HO.lst [])))
 have hh3:=g3 _ _ (QF (H:=upd H1 pr (HO.lst [])) (a:=ph) (o:=HO.lst []))
 have hm3:=QF (H:=upd (upd H1 pr (HO.lst [])) ph (HO.lst [])) (a:=pm) (o:=HO.lst [])
 have m1:pr ≠ ph:=fun e=>by subst e;rw[QF] at n2;cases n2
 have m2:ph ≠ pm:=fun e=>by subst e;rw[QF] at n3;cases n3
 have m3:pr ≠ pm:=fun e=>by subst e;rw[g2 _ _ QF] at n3;cases n3
 have G3:=(g1.trans g2).trans g3
 have p2:p ≠ pr:=QI hob n1
 have p3:p ≠ ph:=QI hob (g1.free n2)
 have p4:p ≠ pm:=QI hob ((g1.trans g2).free n3)
 generalize upd (upd (upd H1 pr (HO.lst [])) ph (HO.lst [])) pm (HO.lst [])=H3 at g3 hr3 hh3 hm3 G3 ⊢
 refine⟨p,S.dx,_,((nE tb S:Nat):Int),pr,ph,pm,[],[],rfl,G3 _ _ hob,by show 9<=9;decide,hr3,IsKos.nil,(fun o ho=>by cases ho),zH3 A,by show (3:Int)*(0:Nat)<=2*_;omega,fun pc cs H4 g4 hn hc lb=>?_⟩
 have hcs:cs=List.replicate (nE tb S) (-1):=by
  have:((nE tb S:Nat):Int).toNat=nE tb S:=by omega
  rw[this] at lb
  cases lb;rfl
 rw[zFW]
 have G4:=G3.trans g4
 have c1:pc ≠ pr:=fun e=>by subst e;rw[hr3] at hn;cases hn
 have c2:pc ≠ ph:=fun e=>by subst e;rw[hh3] at hn;cases hn
 have c3:pc ≠ pm:=fun e=>by subst e;rw[hm3] at hn;cases hn
 have p1:p ≠ pc:=QI (G3 _ _ hob) hn
 have fr:∀ b,H1 b=none->b ≠ p->H b=none:=fun b hb m=>by
  cases z:H b with
  | none=>rfl
  | some o=>rw[k1 b o z m] at hb;cases hb
 refine q pc pr ph pm _ (fr _ (G3.free hn) (Ne.symm p1)) (fr _ n1 (Ne.symm p2)) (fr _ (g1.free n2) (Ne.symm p3)) (fr _ ((g1.trans g2).free n3) (Ne.symm p4)) (fun b o e m=>by rw[QG m];exact G4 _ _ (k1 b o e m)) ⟨QF,?_,⟨[],?_,IsKos.nil⟩,?_,?_,⟨c1,c2,c3,m1,m3,m2⟩,Fm.zero (zH3 A).p2,zH3 A,?_,rfl,rfl,(fun o ho=>by cases ho),fun o ho=>by cases ho⟩
 ·show upd H4 p _ pc=some (.lst ((List.replicate (nE tb S) (-1)).map V.int))
  rw[QG (Ne.symm p1),← hcs];exact hc
 ·show upd H4 p _ pr=_
  rw[QG (Ne.symm p2)];exact g4 _ _ hr3
 ·show upd H4 p _ ph=_
  rw[QG (Ne.symm p3)];exact g4 _ _ hh3
 ·show upd H4 p _ pm=_
  rw[QG (Ne.symm p4)];exact g4 _ _ hm3
 ·show 3*0<=2*nE tb S
  omega
end
section
variable {P:Program} {w:World} {K:W.Frag} {mg:Str->Option Value} {base:Heap} {a:Ad} {tb:Bool}
theorem zBe (T:Txt K mg a)(G_Hmany:FnOk P w K mg base CX0 1 a.f_Hmany a.d_Hmany WR (JE (cA a tb)))(G_packed:FnOk P w K mg base CX0 1 a.f_packed a.d_packed Ja zBO)(G_size_for:FnOk P w K mg base CX0 1 a.f_size_for a.d_size_for ZT zIo)(G_Hlay_out:FnOk P w K mg base CX0 11 a.f_Hlay_out a.d_Hlay_out Yh (zEI (cA a tb))):FnOk P w K mg base CX0 12 a.f_Tmake_room a.d_Tmake_room JM (zIk (cA a tb)):=by
 refine T.F_Tmake_room.ok sc_Tmake_room (fun vs H Q E h=>?_) (fun cdv A outer s H vs Q E hr h=>?_)
 ·obtain⟨p,S,rfl,_⟩:=h
  rfl
 have nd:=sc_Tmake_room.nd
 obtain⟨p,S,rfl,A,cn,c5,q⟩:=h
 refine⟨_,(QB (QT (i:=1) nd rfl (Or.inl rfl) (Q1 (pv 0) (T.cl tb) (T.M_Hmany tb) (G_Hmany.mono (by decide)) hr T.b_Hmany .nil QR))
 (QB (QT (i:=2) nd rfl (Or.inl rfl) (QO (G_packed.mono (by decide)) hr rfl T.m_packed T.F_packed.kp T.b_packed .nil QR (QA (QU (pv 0) rfl) (QA (QU (pv 0) rfl) QD))))
 (QB (QT (i:=3) nd rfl (Or.inl rfl) (QO (G_packed.mono (by decide)) hr rfl T.m_packed T.F_packed.kp T.b_packed .nil QR (QA (QU (pv 0) rfl) (QA (QU (pv 0) rfl) QD))))
 (QB (Qe (Qq (pv 0) (T.cl tb) (T.M_Hlay_out tb) (G_Hlay_out.mono (by decide)) hr T.b_Hlay_out .nil QR (QA (QO (G_size_for.mono (by decide)) hr rfl T.m_size_for T.F_size_for.kp T.b_size_for .nil QR (QA (pv 1) QD)) (QA (Qa Qs (pv 2) QC (fun _ _=>rfl)) (QA (Qa Qs (pv 2) QC (fun _ _=>rfl)) (QA (Qa Qs (pv 3) QC (fun _ _=>rfl)) QD))))))
 (QB (JC (pv 0) QC zA7)
 (QE (JC (pv 0) (pv 1) zA7))))))),?_⟩
 have hsm:=A.small
 have l1:=A.l1
 have l2:=A.l2
 obtain⟨xs,h1,h2⟩:=A.hr
 have hxl:=h2.len
 try walk_at "rd"
 rw[Ye A (by decide +kernel)]
 try walk_at "rd"
 refine⟨p,S,rfl,A,?_⟩
 try walk_at "rd"
 rw[zBG T A,zBR T A]
 try walk_at "rd"
 refine⟨S.pr,S.ph,xs,S.hs,rfl,h1,A.hh,by omega,by omega,fun t1 r1 b1 H1 g1 nr1 nb1 ne1 ht1 hr1 hb1=>?_⟩
 have A1:=A.same g1
 try walk_at "rd"
 rw[zBG T A1,zB5 T A1]
 try walk_at "rd"
 refine⟨S.pr,S.pm,xs,_,rfl,g1 _ _ h1,A1.hm,by rw[List.length_map];omega,by omega,fun t2 r2 b2 H2 g2 nr2 nb2 ne2 ht2 hr2 hb2=>?_⟩
 have A2:=A1.same g2
 have G2:=g1.trans g2
 try walk_at "rd"
 rw[Ye A2 (by decide +kernel)]
 try walk_at "rd"
 have hcn:S.ca - S.we=(YR S.os:Int):=cn
 have el:(Qk S.os).length=YR S.os:=rfl
 refine⟨_,rfl,by omega,by omega,fun n8 s8 s3 s6=>?_⟩
 have r8:=s8.range
 have en:((n8.toNat:Nat):Int)=n8:=by omega
 try walk_at "rd"
 rw[Q2 (v:=V.ref r1) (g2 _ _ ht1) rfl,Q2 (v:=V.ref b1) (g2 _ _ ht1) rfl,Q2 (v:=V.ref b2) ht2 rfl]
 refine⟨p,S.dx,_,n8,r1,b1,b2,Kp xs,Qk S.os,rfl,A2.ob,by show 9<=9;decide,g2 _ _ hr1,(zE1 h2).same G2.tups,(fun o ho=>A.dp o (Js ho)),s8,by rw[el];omega,fun pc cs H3 g3 hn hc lb=>?_⟩
 rw[zFW]
 try walk_at "rd"
 rw[Qc QF (T.cl tb) (T.n_tidyings tb) Je]
 try walk_at "rd"
 rw[Qp QF (T.cl tb) (T.n_tidyings tb) JP,Q3,Jj]
 try walk_at "rd"
 rw[Qc QF (T.cl tb) (T.n_moved tb) zB6]
 try walk_at "rd"
 rw[Qp QF (T.cl tb) (T.n_moved tb) JP,Q3,zBo]
 have G3:=G2.trans g3
 have kpq:=zE1 h2
 have eb1:Kb xs S.hs=Qv S.os S.hs:=zCZ h2 l1
 have eb2:Kb xs (S.ms.map V.int)=(Qv S.os S.ms).map V.int:=by rw[zCZ h2 (by rw[List.length_map];exact l2),Jq]
 have nb2':H b2=none:=g1.free nb2
 have npc:H pc=none:=G2.free hn
 have p1:p ≠ pc:=QI A.ob npc
 have p2:p ≠ r1:=QI A.ob nr1
 have p3:p ≠ b1:=QI A.ob nb1
 have p4:p ≠ b2:=QI A.ob nb2'
 have c1:pc ≠ r1:=fun e=>by subst e;rw[g2 _ _ hr1] at hn;cases hn
 have c2:pc ≠ b1:=fun e=>by subst e;rw[g2 _ _ hb1] at hn;cases hn
 have c3:pc ≠ b2:=fun e=>by subst e;rw[hb2] at hn;cases hn
 have m2:r1 ≠ b2:=fun e=>by subst e;rw[hr1] at nb2;cases nb2
 have m3:b1 ≠ b2:=fun e=>by subst e;rw[hb1] at nb2;cases nb2
 have f8:IsP2 ((n8.toNat:Nat):Int):=by rw[en];exact s8.p2
 have fm:Fm n8.toNat cs (Qk S.os):=Fm.of_lb f8 lb (by omega) (fun p hp=>by
  obtain⟨k,hk⟩:=zGh hp
  exact⟨k,hk,by unfold stO;rw[hk]⟩) (Wo A.fm.keys)
 refine q pc r1 b1 b2 n8.toNat cs _ npc nr1 nb1 nb2' (fun b o e m=>by rw[QG m];exact G3 _ _ e) (by omega) (by omega) ⟨?_,?_,⟨Kp xs,?_,?_⟩,?_,?_,⟨c1,c2,c3,ne1,m2,m3⟩,fm,by show S8 ((n8.toNat:Nat):Int);rw[en];exact s8,by show 3*(Qk S.os).length<=2*n8.toNat;omega,by show (Qv S.os S.hs).length=_;exact Yz l1,by show (Qv S.os S.ms).length=_;exact Yz l2,fun o ho=>A.dp o (Js ho),fun m hm=>A.cm m (J3 hm)⟩
 ·show upd H3 p _ p=some (.ins (cA a tb) S.dx (shF pc ((n8.toNat:Nat):Int) r1 b1 b2 S.ca S.we (S.ti+1) (S.mo+(S.ca - S.we))))
  rw[QF,en]
 ·show upd H3 p _ pc=_
  rw[QG (Ne.symm p1)];exact hc
 ·show upd H3 p _ r1=_
  rw[QG (Ne.symm p2)];exact g3 _ _ (g2 _ _ hr1)
 ·exact ((kpq.same G2.tups).same g3.tups).same (fun b zs e=>by rw[QG (fun z=>by rw[z,g3 _ _ A2.ob] at e;cases e)];exact e)
 ·show upd H3 p _ b1=_
  rw[QG (Ne.symm p3),g3 _ _ (g2 _ _ hb1),eb1];rfl
 ·show upd H3 p _ b2=_
  rw[QG (Ne.symm p4),g3 _ _ hb2,eb2];rfl
theorem zBc (T:Txt K mg a):FnOk P w K mg base (CXe P w) 1 a.f_Hmake_room a.d_Hmake_room Yu (zGF a.a_Full):=by
 refine T.F_Hmake_room.okE sc_Hmake_room (fun vs H Q E h=>?_) (fun cdv A outer s H vs Q E hr h=>?_)
 ·obtain⟨p,rfl,_⟩:=h
  rfl
 have nd:=sc_Hmake_room.nd
 obtain⟨p,rfl,q⟩:=h
 obtain⟨bmF,xF⟩:=T.x_Full
 refine⟨_,(QE (ZR hr.hd rfl T.m_Full xF (QA YL QD))),?_⟩
 try walk_at "rd"
 exact⟨by decide,fun ea he=>q ea he⟩
theorem zC2 (T:Txt K mg a) (G_Hmany:FnOk P w K mg base CX0 1 a.f_Hmany a.d_Hmany WR (JE (cA a tb)))(G_packed:FnOk P w K mg base CX0 1 a.f_packed a.d_packed Ja zBO)(G_size_for:FnOk P w K mg base CX0 1 a.f_size_for a.d_size_for ZT zIo)(G_Hlay_out:FnOk P w K mg base CX0 11 a.f_Hlay_out a.d_Hlay_out Yh (zEI (cA a tb))):FnOk P w K mg base (CXe P w) 12 (vA a.f_Hmake_room a.f_Tmake_room tb) (vA a.d_Hmake_room a.d_Tmake_room tb) Yu (zK0 a tb):=by
 cases tb
 ·exact ((zBc T).mono (by decide)).imp fun _ _ _ _ h=>h.elim (fun z=>by cases z.1) fun z=>z.2
 ·exact (zBe T G_Hmany G_packed G_size_for G_Hlay_out).toE.imp fun _ _ _ _ h=>h.elim (fun z=>z.2) fun z=>by cases z.1
end
section
variable {P:Program} {w:World} {K:W.Frag} {mg:Str->Option Value} {base:Heap} {a:Ad} {tb:Bool}
theorem zIA (T:Txt K mg a)(G_room:FnOk P w K mg base CX0 1 a.f_room a.d_room zDE zEq)(G_make_room:FnOk P w K mg base (CXe P w) 12 (vA a.f_Hmake_room a.f_Tmake_room tb) (vA a.d_Hmake_room a.d_Tmake_room tb) Yu (zK0 a tb))(G_Hwrite:FnOk P w K mg base CX0 10 a.f_Hwrite a.d_Hwrite JG (zCT (cA a tb))):FnOk P w K mg base (CXe P w) 13 a.f_Hcome a.d_Hcome zAY (zCe a tb):=by
 refine T.F_Hcome.okE sc_Hcome (fun vs H Q E h=>?_) (fun cdv A outer s H vs Q E hr h=>?_)
 ·obtain⟨p,S,x,k,y,rfl,_⟩:=h
  rfl
 have nd:=sc_Hcome.nd
 obtain⟨p,S,x,k,y,rfl,A,cn,c5,hk,hd,hn,qA,qB,qF⟩:=h
 refine⟨_,(QB (QS (QQ zK9 (QL Qd rfl T.z_len PySem.boot_len (QA (QU (pv 0) rfl) QD)) (QO (G_room.mono (by decide)) hr rfl T.m_room T.F_room.kp T.b_room .nil QR (QA (QU (pv 0) rfl) QD)) (QP _)) (QE (Qe (Q1 (pv 0) (T.cl tb) (T.M_make_room tb) (G_make_room.mono (by decide)) hr (T.b_make_room tb) .nil (zAF (fun _ _ _ h=>h))))) QN)
 (QB (Qe (Qq (pv 0) (T.cl tb) (T.M_Hwrite tb) (G_Hwrite.mono (by decide)) hr T.b_Hwrite .nil QR (QA (pv 1) (QA (QL Qd rfl T.z_len PySem.boot_len (QA (QU (pv 0) rfl) QD)) QD))))
 (QB (JC (pv 0) QC zA7)
 (QB (Qe (zDk PySem.F.plainAttrs_list PySem.F.slot_list_append PySem.F.type_list_append JU (QU (pv 0) rfl) (QA (pv 1) QD)))
 (QB (Qe (zDk PySem.F.plainAttrs_list PySem.F.slot_list_append PySem.F.type_list_append JU (QU (pv 0) rfl) (QA (pv 2) QD)))
 (QE (Qe (zDk PySem.F.plainAttrs_list PySem.F.slot_list_append PySem.F.type_list_append JU (QU (pv 0) rfl) (QA (QU (pv 0) rfl) QD))))))))),?_⟩
 obtain⟨xs,h1,h2⟩:=A.hr
 have hxl:=h2.len
 have hsm:=A.small
 try walk_at "rd"
 rw[zBG T A,Qw h1,zL4 T A]
 refine⟨_,rfl,?_⟩
 try walk_at "rd"
 rw[hxl]
 rcases Classical.em (2*S.n / 3<=S.os.length) with hfull | hfull
 case' inl =>
  rw[if_pos (by omega),Ye A (by decide +kernel)]
  try walk_at "rd"
  rcases Bool.eq_false_or_eq_true tb with etb | etb
  case inr=>exact .inr ⟨etb,p,rfl,fun ea he=>qF etb hfull ea he⟩
  refine .inl ⟨etb,p,S,rfl,A,cn,c5,fun pc1 pr1 ph1 pm1 n1' cs1 H0 f1 f2 f3 f4 kp0 s1 s2 A0=>?_⟩
  have tid:Tid S (Zu S pc1 pr1 ph1 pm1 n1' cs1):=⟨_,_,_,_,_,_,rfl,s1,s2⟩
  have el:(Qk S.os).length=YR S.os:=rfl
  have hk0:IsK H0 k x:=hk.same fun b xs e=>kp0 b _ e (fun z=>by rw[z,A.ob] at e;cases e)
  have hn0:∀ i:Nat,(Zu S pc1 pr1 ph1 pm1 n1' cs1).os[i]? ≠ some (some k):=fun i e=>by
   obtain⟨j,hj⟩:=zA6 (os:=S.os) e
   exact hn j hj
  have hrm:3*((Zu S pc1 pr1 ph1 pm1 n1' cs1).os.length+1)<=2*(Zu S pc1 pr1 ph1 pm1 n1' cs1).n:=by have:=A0.small;show 3*((Qk S.os).length+1)<=2*n1';have z:8<=n1':=this.2.1;omega
  have qq:∀ c H',IsFirst (fun c=>YW (Zu S pc1 pr1 ph1 pm1 n1' cs1).os k (cAt (Zu S pc1 pr1 ph1 pm1 n1' cs1).cs k.st c)) (Zu S pc1 pr1 ph1 pm1 n1' cs1).n c->But p (Zu S pc1 pr1 ph1 pm1 n1' cs1) H0 H'->ShAt (cA a tb) H' p (Z9 (Zu S pc1 pr1 ph1 pm1 n1' cs1) k c y)->Q .non H':=fun c H' _ b A'=>qB etb hfull _ c H' tid (zDu kp0 f1 f2 f3 f4 b) A'
  generalize Zu S pc1 pr1 ph1 pm1 n1' cs1=S1 at tid hn0 hrm qq A0
  try walk_at "rd"
 case' inr =>
  rw[if_neg (by omega)]
  obtain⟨S1,H0,A0,hk0,hn0,hrm,qq,eH⟩:∃ S1 H0,ShAt (cA a tb) H0 p S1/\IsK H0 k x/\(∀ i:Nat,S1.os[i]? ≠ some (some k))/\3*(S1.os.length+1)<=2*S1.n/\(∀ c H',IsFirst (fun c=>YW S1.os k (cAt S1.cs k.st c)) S1.n c->But p S1 H0 H'->ShAt (cA a tb) H' p (Z9 S1 k c y)->Q .non H')/\H0=H:=⟨S,H,A,hk,hn,by omega,fun c H' h b A'=>qA (by omega) c H' h b A',rfl⟩
  rw[← eH]
 all_goals
  clear hk hn h1 h2 hxl hsm qA qB qF
  have A:=A0
  have hk:=hk0
  have hn:=hn0
  obtain⟨xs,h1,h2⟩:=A.hr
  have hxl:=h2.len
  have hsm:=A.small
  obtain⟨n1,n2,n3,n4⟩:=A.lists
  obtain⟨d1,d2,d3,d4,d5,d6⟩:=A.ne
  obtain⟨c,hc,hce⟩:=A.fm.lacks hn
  rw[Ye A (by decide +kernel),zBG T A,Qw h1,hxl]
  refine⟨p,S1,x,k,(S1.os.length:Nat),c,rfl,A,hk,hd,hc,fun H1 g1=>?_⟩
  have A1:=A.same g1
  obtain⟨xs1,h11,h12⟩:=A1.hr
  have ex:xs1=xs:=by have:=g1 _ _ h1;rw[h11] at this;cases this;rfl
  subst ex
  have b2:But p S1 H0 (upd H1 S1.pc (HO.lst ((S1.cs.set (sl k.st S1.n c) ((S1.os.length:Nat):Int)).map V.int))):=fun b o e _ m1 _ _ _=>by rw[QG m1];exact g1 _ _ e
  have hcs:upd H1 S1.pc (HO.lst ((S1.cs.set (sl k.st S1.n c) ((S1.os.length:Nat):Int)).map V.int)) S1.pc=some (.lst ((S1.cs.set (sl k.st S1.n c) ((S1.os.length:Nat):Int)).map V.int)):=QF
  have hob:upd H1 S1.pc (HO.lst ((S1.cs.set (sl k.st S1.n c) ((S1.os.length:Nat):Int)).map V.int)) p=some (.ins (cA a tb) S1.dx (shF S1.pc S1.n S1.pr S1.ph S1.pm S1.ca S1.we S1.ti S1.mo)):=by rw[QG n1];exact A1.ob
  have hrw:upd H1 S1.pc (HO.lst ((S1.cs.set (sl k.st S1.n c) ((S1.os.length:Nat):Int)).map V.int)) S1.pr=some (.lst xs1):=by rw[QG (Ne.symm d1)];exact h11
  have hhd:upd H1 S1.pc (HO.lst ((S1.cs.set (sl k.st S1.n c) ((S1.os.length:Nat):Int)).map V.int)) S1.ph=some (.lst S1.hs):=by rw[QG (Ne.symm d2)];exact A1.hh
  have hcm:upd H1 S1.pc (HO.lst ((S1.cs.set (sl k.st S1.n c) ((S1.os.length:Nat):Int)).map V.int)) S1.pm=some (.lst (S1.ms.map V.int)):=by rw[QG (Ne.symm d3)];exact A1.hm
  generalize upd H1 S1.pc (HO.lst ((S1.cs.set (sl k.st S1.n c) ((S1.os.length:Nat):Int)).map V.int))=H2 at b2 hcs hob hrw hhd hcm ⊢
  try walk_at "rd"
  rw[Qc hob (T.cl tb) (T.n_came tb) zA8]
  try walk_at "rd"
  rw[Qp hob (T.cl tb) (T.n_came tb) JP,zCU]
  have hob3:=QF (H:=H2) (a:=p) (o:=HO.ins (cA a tb) S1.dx (shF S1.pc S1.n S1.pr S1.ph S1.pm (S1.ca+1) S1.we S1.ti S1.mo))
  have b3:But p S1 H0 (upd H2 p (HO.ins (cA a tb) S1.dx (shF S1.pc S1.n S1.pr S1.ph S1.pm (S1.ca+1) S1.we S1.ti S1.mo))):=fun b o e m0 m1 m2 m3 m4=>by rw[QG m0];exact b2 b o e m0 m1 m2 m3 m4
  have hcs3:upd H2 p (HO.ins (cA a tb) S1.dx (shF S1.pc S1.n S1.pr S1.ph S1.pm (S1.ca+1) S1.we S1.ti S1.mo)) S1.pc=some (.lst ((S1.cs.set (sl k.st S1.n c) ((S1.os.length:Nat):Int)).map V.int)):=by rw[QG (Ne.symm n1)];exact hcs
  have hrw3:upd H2 p (HO.ins (cA a tb) S1.dx (shF S1.pc S1.n S1.pr S1.ph S1.pm (S1.ca+1) S1.we S1.ti S1.mo)) S1.pr=some (.lst xs1):=by rw[QG (Ne.symm n2)];exact hrw
  have hhd3:upd H2 p (HO.ins (cA a tb) S1.dx (shF S1.pc S1.n S1.pr S1.ph S1.pm (S1.ca+1) S1.we S1.ti S1.mo)) S1.ph=some (.lst S1.hs):=by rw[QG (Ne.symm n3)];exact hhd
  have hcm3:upd H2 p (HO.ins (cA a tb) S1.dx (shF S1.pc S1.n S1.pr S1.ph S1.pm (S1.ca+1) S1.we S1.ti S1.mo)) S1.pm=some (.lst (S1.ms.map V.int)):=by rw[QG (Ne.symm n4)];exact hcm
  generalize upd H2 p (HO.ins (cA a tb) S1.dx (shF S1.pc S1.n S1.pr S1.ph S1.pm (S1.ca+1) S1.we S1.ti S1.mo))=H3 at b3 hob3 hcs3 hrw3 hhd3 hcm3 ⊢
  try walk_at "rd"
  rw[Qc hob3 (T.cl tb) (T.n_row tb) zDK]
  try walk_at "rd"
  rw[zAV hrw3,Zx hrw3]
  refine⟨True.intro,Qn (by omega),?_⟩
  have b4:But p S1 H0 (upd H3 S1.pr (HO.lst (xs1++[x]))):=fun b o e m0 m1 m2 m3 m4=>by rw[QG m2];exact b3 b o e m0 m1 m2 m3 m4
  have hob4:upd H3 S1.pr (HO.lst (xs1++[x])) p=some (.ins (cA a tb) S1.dx (shF S1.pc S1.n S1.pr S1.ph S1.pm (S1.ca+1) S1.we S1.ti S1.mo)):=by rw[QG n2];exact hob3
  have hcs4:upd H3 S1.pr (HO.lst (xs1++[x])) S1.pc=some (.lst ((S1.cs.set (sl k.st S1.n c) ((S1.os.length:Nat):Int)).map V.int)):=by rw[QG d1];exact hcs3
  have hrw4:=QF (H:=H3) (a:=S1.pr) (o:=HO.lst (xs1++[x]))
  have hhd4:upd H3 S1.pr (HO.lst (xs1++[x])) S1.ph=some (.lst S1.hs):=by rw[QG (Ne.symm d4)];exact hhd3
  have hcm4:upd H3 S1.pr (HO.lst (xs1++[x])) S1.pm=some (.lst (S1.ms.map V.int)):=by rw[QG (Ne.symm d5)];exact hcm3
  generalize upd H3 S1.pr (HO.lst (xs1++[x]))=H4 at b4 hob4 hcs4 hrw4 hhd4 hcm4 ⊢
  try walk_at "rd"
  rw[Qc hob4 (T.cl tb) (T.n_held tb) zAn]
  try walk_at "rd"
  rw[zAV hhd4,Zx hhd4]
  refine⟨True.intro,Qn (by have:=A.l1;omega),?_⟩
  have b5:But p S1 H0 (upd H4 S1.ph (HO.lst (S1.hs++[y]))):=fun b o e m0 m1 m2 m3 m4=>by rw[QG m3];exact b4 b o e m0 m1 m2 m3 m4
  have hob5:upd H4 S1.ph (HO.lst (S1.hs++[y])) p=some (.ins (cA a tb) S1.dx (shF S1.pc S1.n S1.pr S1.ph S1.pm (S1.ca+1) S1.we S1.ti S1.mo)):=by rw[QG n3];exact hob4
  have hcs5:upd H4 S1.ph (HO.lst (S1.hs++[y])) S1.pc=some (.lst ((S1.cs.set (sl k.st S1.n c) ((S1.os.length:Nat):Int)).map V.int)):=by rw[QG d2];exact hcs4
  have hrw5:upd H4 S1.ph (HO.lst (S1.hs++[y])) S1.pr=some (.lst (xs1++[x])):=by rw[QG d4];exact hrw4
  have hhd5:=QF (H:=H4) (a:=S1.ph) (o:=HO.lst (S1.hs++[y]))
  have hcm5:upd H4 S1.ph (HO.lst (S1.hs++[y])) S1.pm=some (.lst (S1.ms.map V.int)):=by rw[QG (Ne.symm d6)];exact hcm4
  generalize upd H4 S1.ph (HO.lst (S1.hs++[y]))=H5 at b5 hob5 hcs5 hrw5 hhd5 hcm5 ⊢
  try walk_at "rd"
  rw[Qc hob5 (T.cl tb) (T.n_comings tb) zAC]
  try walk_at "rd"
  rw[zAV hcm5,Qc hob5 (T.cl tb) (T.n_came tb) zA8]
  refine⟨True.intro,?_⟩
  rw[Zx hcm5]
  refine⟨Qn (by have:=A.l2;rw[List.length_map];omega),?_⟩
  have b6:But p S1 H0 (upd H5 S1.pm (HO.lst (S1.ms.map V.int++[V.int (S1.ca+1)]))):=fun b o e m0 m1 m2 m3 m4=>by rw[QG m4];exact b5 b o e m0 m1 m2 m3 m4
  refine qq c _ hc b6 ⟨?_,?_,⟨xs1++[x],?_,?_⟩,?_,?_,A.ne,?_,A.s8,?_,?_,?_,?_,?_⟩
  ·rw[QG n4];exact hob5
  ·show upd H5 S1.pm _ S1.pc=_
   rw[QG d3];exact hcs5
  ·show upd H5 S1.pm _ S1.pr=_
   rw[QG d5];exact hrw5
  ·exact (h2.same (A.tups b6)).snoc (hk.same (A.tups b6))
  ·show upd H5 S1.pm _ S1.ph=_
   rw[QG d6];exact hhd5
  ·show upd H5 S1.pm _ S1.pm=some (.lst ((S1.ms++[S1.ca+1]).map V.int))
   rw[QF,List.map_append];rfl
  ·exact A.fm.put hn hc (by omega)
  ·show 3*(S1.os++[some k]).length<=2*S1.n
   rw[List.length_append];exact hrm
  ·show (S1.hs++[y]).length=(S1.os++[some k]).length
   rw[List.length_append,List.length_append,A.l1];rfl
  ·show (S1.ms++[S1.ca+1]).length=(S1.os++[some k]).length
   rw[List.length_append,List.length_append,A.l2];rfl
  ·intro o ho
   rcases List.mem_append.mp ho with m | m
   ·exact A.dp o m
   ·rw[List.mem_singleton.mp m];exact hd
  ·intro m hm
   rcases List.mem_append.mp hm with z | z
   ·have:=A.cm m z
    show m<=S1.ca+1
    omega
   ·rw[List.mem_singleton.mp z];exact Int.le_refl _
theorem zJM (T:Txt K mg a)(G_checked:FnOk P w K mg base CX0 10 a.f_checked a.d_checked Yd zIQ)(G_Hplace:FnOk P w K mg base CX0 11 a.f_Hplace a.d_Hplace ZN (zHP (cA a tb)))(G_Hcome:FnOk P w K mg base (CXe P w) 13 a.f_Hcome a.d_Hcome zAY (zCe a tb)):FnOk P w K mg base (CXe P w) 14 a.f_Hput a.d_Hput zA1 (zIq a tb):=by
 refine T.F_Hput.okE sc_Hput (fun vs H Q E h=>?_) (fun cdv A outer s H vs Q E hr h=>?_)
 ·obtain⟨p,S,x,k,y,rfl,_⟩:=h
  rfl
 have nd:=sc_Hput.nd
 obtain⟨p,S,x,k,y,rfl,A,cn,c5,hk,hd,hok,q1,q2,q3,q4⟩:=h
 refine⟨_,(QB (QT (i:=3) nd rfl (Or.inl rfl) (Qq (pv 0) (T.cl tb) (T.M_Hplace tb) (G_Hplace.mono (by decide)) hr T.b_Hplace .nil QR (QA (QO (G_checked.mono (by decide)) hr rfl T.m_checked T.F_checked.kp T.b_checked .nil QR (QA (pv 1) QD)) QD)))
 (QB (QS (QQ ZI (pv 3) Qm (QP _)) (QB (Qe (Qq (pv 0) (T.cl tb) (T.M_Hcome tb) (G_Hcome.mono (by decide)) hr T.b_Hcome .nil (zAF (fun _ _ _ h=>h)) (QA (pv 1) (QA (pv 2) QD))))
 (QE (QK Q0))) QN)
 (QB (YG (pv 2) (YH (QU (pv 0) rfl) (pv 3) Y2))
 (QE (QK Q0))))),?_⟩
 try walk_at "rd"
 rw[Ye A (by decide +kernel)]
 refine⟨x,k,rfl,hk,hok,fun H1 g1=>?_⟩
 refine⟨p,S,x,k,rfl,A.same g1,hk.same g1.tups,hd,fun i hi H2 g2=>?_,fun hn H2 g2=>?_⟩
 ·have G:=g1.trans g2
  have A2:=A.same G
  obtain⟨n1,n2,n3,n4⟩:=A.lists
  obtain⟨d1,d2,d3,d4,d5,d6⟩:=A.ne
  have hlt:i < S.hs.length:=by rw[A.l1];exact (List.getElem?_eq_some_iff.mp hi).1
  unfold plV
  try walk_at "rd"
  rw[zBR T A2]
  rw[YD A2.hh rfl hlt]
  obtain⟨xs,h1,h2⟩:=A2.hr
  have b:But p S H (upd H2 S.ph (HO.lst (S.hs.set i y))):=fun b o e m0 m1 m2 m3 m4=>by rw[QG m3];exact G _ _ e
  have bt:=A.tups b
  refine q1 i _ hi b ⟨?_,?_,⟨xs,?_,?_⟩,QF,?_,A.ne,A.fm,A.s8,A.rm,?_,A.l2,A.dp,A.cm⟩
  ·rw[QG n3];exact A2.ob
  ·rw[QG d2];exact A2.hc
  ·rw[QG d4];exact h1
  ·exact h2.same (Q7 A2.hh)
  ·rw[QG (Ne.symm d6)];exact A2.hm
  ·show (S.hs.set i y).length=_
   rw[List.length_set];exact A.l1
 ·have G:=g1.trans g2
  unfold plV
  try walk_at "rd"
  rw[Ye (A.same G) (by decide +kernel)]
  refine⟨p,S,x,k,y,rfl,A.same G,cn,c5,hk.same G.tups,hd,hn,fun hr c H3 hc b A3=>?_,(fun etb hf S1 c H3 td ks A3=>?_),fun etb hf ea he=>q4 etb hn hf ea H2 G he⟩
  ·(try walk_at "rd")
   exact q2 c H3 hn hr hc (fun z o e m0 m1 m2 m3 m4=>b z o (G _ _ e) m0 m1 m2 m3 m4) A3
  ·(try walk_at "rd")
   exact q3 S1 c H3 etb hn hf td (fun z o e m=>ks z o (G _ _ e) m) A3
end
section
variable {P:Program} {w:World} {K:W.Frag} {mg:Str->Option Value} {base:Heap} {a:Ad} {tb:Bool}
theorem zGb (T:Txt K mg a):FnOk P w K mg base CX0 1 a.f_Lsame a.d_Lsame WL (zHh 0):=by
 refine T.F_Lsame.ok sc_Lsame (fun vs H Q E h=>?_) (fun cdv A outer s H vs Q E hr h=>?_)
 ·obtain⟨x,y,rfl,_⟩:=h
  rfl
 have nd:=sc_Lsame.nd
 obtain⟨x,y,rfl,hx,q⟩:=h
 obtain⟨rfl,hx⟩:=hx
 have q0:=q H (Same.refl H)
 refine⟨_,(QB (QS (PW.pt (Ji (QW (QL QZ rfl T.z_isinstance boot_isinstance (QA (pv 0) (QA (Qb (v:=.ty "bool") rfl T.z_bool boot_bool rfl) QD)))) (Wt (QQ zFY (QL QZ rfl T.z_isinstance boot_isinstance (QA (pv 0) (QA (Qb (v:=.ty "tuple") rfl T.z_tuple boot_tuple rfl) QD))) (QL QZ rfl T.z_isinstance boot_isinstance (QA (pv 1) (QA (Qb (v:=.ty "tuple") rfl T.z_tuple boot_tuple rfl) QD))) (QP _))))) (QE (QK Q0)) QN)
 (QB (QS (QW (QL QZ rfl T.z_isinstance boot_isinstance (QA (pv 1) (QA (Qb (v:=.ty "tuple") rfl T.z_tuple boot_tuple rfl) QD)))) (QE Y1) QN)
 (QE (QK (Qx Qy (pv 0) (pv 1) (QP _)))))),?_⟩
 rcases hx with ⟨i,rfl⟩ | ⟨z,rfl⟩ | rfl
 ·(try walk_at "rd")
  exact q0
 ·(try walk_at "rd")
  exact q0
 ·(try walk_at "rd")
  exact q0
theorem zHD {d k:Nat} (T:Txt K mg a)(G_Lsame:FnOk P w K mg base CX0 k a.f_Lsame a.d_Lsame WL (zHh d)):FnOk P w K mg base CX0 (k+1) a.f_Lsame a.d_Lsame WL (zHh (d+1)):=by
 refine T.F_Lsame.ok sc_Lsame (fun vs H Q E h=>?_) (fun cdv A outer s H vs Q E hr h=>?_)
 ·obtain⟨x,y,rfl,_⟩:=h
  rfl
 have nd:=sc_Lsame.nd
 obtain⟨x,y,rfl,hx,q⟩:=h
 rcases hx with ⟨rfl,hx⟩ | ⟨a1,b1,xs,ys,rfl,rfl,ha,hb,hl,h1000,h5⟩
 ·have q0:=q H (Same.refl H)
  refine⟨_,(QB (QS (PW.pt (Ji (QW (QL QZ rfl T.z_isinstance boot_isinstance (QA (pv 0) (QA (Qb (v:=.ty "bool") rfl T.z_bool boot_bool rfl) QD)))) (Wt (QQ zFY (QL QZ rfl T.z_isinstance boot_isinstance (QA (pv 0) (QA (Qb (v:=.ty "tuple") rfl T.z_tuple boot_tuple rfl) QD))) (QL QZ rfl T.z_isinstance boot_isinstance (QA (pv 1) (QA (Qb (v:=.ty "tuple") rfl T.z_tuple boot_tuple rfl) QD))) (QP _))))) (QE (QK Q0)) QN)
  (QB (QS (QW (QL QZ rfl T.z_isinstance boot_isinstance (QA (pv 1) (QA (Qb (v:=.ty "tuple") rfl T.z_tuple boot_tuple rfl) QD)))) (QE Y1) QN)
  (QE (QK (Qx Qy (pv 0) (pv 1) (QP _)))))),?_⟩
  rcases hx with ⟨i,rfl⟩ | ⟨z,rfl⟩ | rfl
  ·(try walk_at "rd")
   exact q0
  ·(try walk_at "rd")
   exact q0
  ·(try walk_at "rd")
   exact q0
 refine⟨_,(QB (QS (PW.pt (Ji (QW (QL QZ rfl T.z_isinstance boot_isinstance (QA (pv 0) (QA (Qb (v:=.ty "bool") rfl T.z_bool boot_bool rfl) QD)))) (Wt (QQ zFY (QL QZ rfl T.z_isinstance boot_isinstance (QA (pv 0) (QA (Qb (v:=.ty "tuple") rfl T.z_tuple boot_tuple rfl) QD))) (QL QZ rfl T.z_isinstance boot_isinstance (QA (pv 1) (QA (Qb (v:=.ty "tuple") rfl T.z_tuple boot_tuple rfl) QD))) (QP _))))) (QE (QK Q0)) QN)
 (QB (QS (QW (QL QZ rfl T.z_isinstance boot_isinstance (QA (pv 1) (QA (Qb (v:=.ty "tuple") rfl T.z_tuple boot_tuple rfl) QD)))) (QE (QK (Yr (Qx Qy (QL Qd rfl T.z_len PySem.boot_len (QA (pv 0) QD)) (QL Qd rfl T.z_len PySem.boot_len (QA (pv 1) QD)) (QP _)) (Yp (QL (zBT rfl) rfl T.z_all boot_all (QA (zIx "_law_one" "_law_two" [] [] rfl ⟨rfl,rfl,by decide +kernel,by decide +kernel,by decide +kernel,by decide +kernel,rfl,by decide +kernel⟩ rfl rfl rfl (zGJ true true rfl T.z_zip (QA (pv 0) (QA (pv 1) QD))) (fun C s1 H1 fp=>(QO G_Lsame hr rfl T.m_Lsame T.F_Lsame.kp T.b_Lsame .nil QR (QA (pv 0) (QA (pv 1) QD))))) QD)))))) QN)
 (QE (QK (Qx Qy (pv 0) (pv 1) (QP _)))))),?_⟩
 try walk_at "rd"
 rw[JO ha]
 try walk_at "rd"
 rw[Qt ha,Qt hb]
 try walk_at "rd"
 rw[Qt hb]
 try walk_at "rd"
 rw[zBE ha,zBE hb,hl]
 try walk_at "rd"
 refine⟨⟨_,SqT.of ha⟩,⟨_,SqT.of hb⟩,zBJ (xs:=xs) (ys:=ys) hl (Nat.le_of_lt (Qn (by omega))) (fun i zs H2=>Same H H2/\zs.length<=i/\zs=(List.replicate i true).map V.bl) ⟨Same.refl H,Nat.zero_le _,rfl⟩
  (fun i zs H2 _ h=>⟨SqT.of (h.1 _ _ ha),SqT.of (h.1 _ _ hb),h.2.1⟩) (fun i u v t zs H2 eu ev h ht=>?_) (fun zs H2 h=>?_)⟩
 ·obtain⟨g,hz,rfl⟩:=h
  have g2:=g.trans (QH (o:=HO.tup [u,v]) ht)
  try walk_at "rd"
  refine⟨u,v,rfl,(h5 i u v eu ev).same g2.tups,fun H3 g3=>⟨g2.trans g3,by rw[List.length_append,List.length_singleton];omega,?_⟩⟩
  exact zJC
 ·obtain⟨g,hz,rfl⟩:=h
  intro l hl'
  refine⟨l,_,rfl,SqL.of QF,?_⟩
  rw[zGD]
  exact q _ (g.trans (QH hl'))
theorem zD6 (T:Txt K mg a):∀ d:Nat,FnOk P w K mg base CX0 (d+1) a.f_Lsame a.d_Lsame WL (zHh d)
 | 0=>zGb T
 | d+1=>zHD T (zD6 T d)
end
section
variable {P:Program} {w:World} {K:W.Frag} {mg:Str->Option Value} {base:Heap} {a:Ad} {tb:Bool}
theorem JX {n:Nat} (h:n<=1000):n<=sizeLine:=Nat.le_of_lt (Qn (by omega))
theorem zNK {H1:Hp} {l0:Addr} {n:Int} {Q:VK} (hl1:H1 l0=some (HO.lst [V.str (Str.ofString "ab"),V.str (Str.ofString "bC")])) (qt:∀ x:Str,x.length<=10->Q (.str x) H1) :
  ixC (V.ref l0) (V.int (n % 23 % 2)) H1 fun x H1 =>
  ixC (V.ref l0) (V.int (n % 23 / 2 % 2)) H1 fun y H2 =>
   ∃ i, x = V.str i /\ ∃ x, y = V.str x /\ i.length + x.length <= sizeLine /\
        ixC (V.ref l0) (V.int (n % 23 / 4 % 2)) H2 fun y H2 =>
         ∃ x_1,y=V.str x_1/\(i++x).length+x_1.length<=sizeLine /\
            ixC (V.ref l0) (V.int (n % 23 / 8 % 2)) H2 fun y H2 =>
             ∃ x_2,y=V.str x_2/\(i++x++x_1).length+x_2.length<=sizeLine /\
                zFq (V.str (Str.ofString "~")) (V.int (n % 23 / 16)) H2 fun y H2 =>
                 ∃ x_3,y=V.str x_3/\(i++x++x_1++x_2).length+x_3.length<=sizeLine/\Q (V.str (i++x++x_1++x_2++x_3)) H2:=by
 have pick:∀ i Q',0<=i->i < 2->(∀ s:Str,s.length=2->Q' (V.str s) H1)->ixC (V.ref l0) (V.int i) H1 Q':=fun i Q' a b f=>by
  have hi:i=0\/i=1:=by omega
  rcases hi with rfl | rfl
  ·rw[QV hl1 (v:=V.str (Str.ofString "ab")) rfl];exact f _ rfl
  ·rw[QV hl1 (v:=V.str (Str.ofString "bC")) rfl];exact f _ rfl
 refine pick _ _ (by omega) (by omega) fun s1 e1=>pick _ _ (by omega) (by omega) fun s2 e2=>⟨s1,rfl,s2,rfl,JX (by omega),?_⟩
 have l1:(s1++s2).length=4:=by rw[Str.length_append];omega
 refine pick _ _ (by omega) (by omega) fun s3 e3=>⟨s3,rfl,JX (by omega),?_⟩
 have l2:(s1++s2++s3).length=6:=by rw[Str.length_append];omega
 refine pick _ _ (by omega) (by omega) fun s4 e4=>⟨s4,rfl,JX (by omega),?_⟩
 have l3:(s1++s2++s3++s4).length=8:=by rw[Str.length_append];omega
 refine⟨_,_,rfl,rfl,by omega,by omega,(show 1<=1 by decide),(show 1<=1000 by decide),fun r hr=>?_⟩
 have lr:(r.length:Int)=n % 23 / 16*((1:Nat):Int):=hr
 exact⟨r,rfl,JX (by omega),qt _ (by rw[Str.length_append];omega)⟩
theorem zNe {H H1:Hp} {n:Int} {Q:VK} (g0:Same H H1) (q:∀ (v:V) (k:Kd) (H':Hp),Same H H'->IsK H' k v->k.deep<=3->k.th.ok 3=true->Nk k->Q v H') :
  zFq (V.str (Str.ofString "k")) (V.int (n % 23 / 4 % 3)) H1 fun x H1 =>
  1<=sizeLine/\∀ (p:Addr),H1 p=none->3<=sizeLine/\∀ (p_1:Addr),upd H1 p (HO.tup [V.int (n % 23 / 12)]) p_1=none ->
        CMul (n % 23 / 20) 60 /\
         zFq (V.str (Str.ofString "s")) (V.int (n % 23 / 20*60)) (upd (upd H1 p (HO.tup [V.int (n % 23 / 12)])) p_1 (HO.tup [V.int (n % 23 % 4),x,V.ref p]))
          fun x H1 => 0 <= sizeLine /\ ∀ (p : Addr), H1 p = none -> 6 <= sizeLine /\ ∀ (p_2 : Addr), upd H1 p (HO.tup []) p_2 = none ->
                      Q (V.ref p_2) (upd (upd H1 p (HO.tup [])) p_2 (HO.tup [V.ref p_1,x,V.ref p,V.str (Str.ofString ""),V.int 0,V.int (n % 23 % 2)])):=by
 refine⟨_,_,rfl,rfl,by omega,by omega,(show 1<=1 by decide),(show 1<=1000 by decide),fun r hr=>⟨by decide,fun p hp=>⟨by decide,fun p1 hp1=>⟨.inr ⟨by decide,by decide⟩,?_⟩⟩⟩⟩
 have lr:(r.length:Int)=n % 23 / 4 % 3*((1:Nat):Int):=hr
 have u1:=QH (o:=HO.tup [V.int (n % 23 / 12)]) hp
 have u2:=QH (o:=HO.tup [V.int (n % 23 % 4),V.str r,V.ref p]) hp1
 have d1:=u2 _ _ (QF (H:=H1) (a:=p) (o:=HO.tup [V.int (n % 23 / 12)]))
 have d2:=QF (H:=upd H1 p (HO.tup [V.int (n % 23 / 12)])) (a:=p1) (o:=HO.tup [V.int (n % 23 % 4),V.str r,V.ref p])
 have G:=g0.trans (u1.trans u2)
 generalize upd (upd H1 p (HO.tup [V.int (n % 23 / 12)])) p1 (HO.tup [V.int (n % 23 % 4),V.str r,V.ref p])=H2 at d1 d2 G ⊢
 refine⟨_,_,rfl,rfl,by omega,by omega,(show 1<=1 by decide),(show 1<=1000 by decide),fun r2 hr2=>⟨by decide,fun p3 hp3=>⟨by decide,fun p2 hp2=>?_⟩⟩⟩
 have lr2:(r2.length:Int)=n % 23 / 20*60*((1:Nat):Int):=hr2
 have u3:=QH (o:=HO.tup []) hp3
 have u4:=QH (o:=HO.tup [V.ref p1,V.str r2,V.ref p3,V.str (Str.ofString ""),V.int 0,V.int (n % 23 % 2)]) hp2
 have d3:=u4 _ _ (QF (H:=H2) (a:=p3) (o:=HO.tup []))
 have d4:=QF (H:=upd H2 p3 (HO.tup [])) (a:=p2) (o:=HO.tup [V.ref p1,V.str r2,V.ref p3,V.str (Str.ofString ""),V.int 0,V.int (n % 23 % 2)])
 have U:=u3.trans u4
 have e1:=U _ _ d1
 have e2:=U _ _ d2
 have kn:∀ i:Int,-100 < i->i < 100->∀ m,(Kd.num i).th.ok m=true:=fun i a b m=>zI3 (by omega) (by omega) m
 refine q _ (.tup [.tup [.num (n % 23 % 4),.txt r,.tup [.num (n % 23 / 12)]],.txt r2,.tup [],.txt (Str.ofString ""),.num 0,.num (n % 23 % 2)]) _ (G.trans U) (Yw d4 (show 6<=1000 by decide) ⟨_,_,rfl,Yw e2 (show 3<=1000 by decide) ⟨_,_,rfl,Zl,_,_,rfl,WS,_,_,rfl,Yw e1 (show 1<=1000 by decide) ⟨_,_,rfl,Zl,rfl⟩,rfl⟩,_,_,rfl,WS,_,_,rfl,Yw d3 (Nat.zero_le _) rfl,_,_,rfl,WS,_,_,rfl,Zl,_,_,rfl,Zl,rfl⟩) (by show _<=3;simp[Kd.deep,Kd.deepL]) ?_ True.intro
 refine WF (show 6<=6 by decide) fun k hk=>?_
 simp only[List.mem_cons,List.not_mem_nil,or_false] at hk
 rcases hk with rfl | rfl | rfl | rfl | rfl | rfl
 ·refine WF (show 3<=6 by decide) fun k hk=>?_
  simp only[List.mem_cons,List.not_mem_nil,or_false] at hk
  rcases hk with rfl | rfl | rfl
  ·exact kn _ (by omega) (by omega) _
  ·exact Jv (by omega) _
  ·refine WF (show 1<=6 by decide) fun k hk=>?_
   rw[List.mem_singleton.mp hk]
   exact kn _ (by omega) (by omega) _
 ·exact Jv (by omega) _
 ·exact WF (show 0<=6 by decide) fun k hk=>by cases hk
 ·exact Jv (x:=Str.ofString "") (by decide) _
 ·exact kn _ (by omega) (by omega) _
 ·exact kn _ (by omega) (by omega) _
end
theorem zNX {X:Cx} {s1 s2 s3:Stmt} {YS ss:List Stmt} {t1 t2 t3:TS} {D:Ends} {σ:L2.St} {H:Hp} (R:Ends->TS->Prop) (e:ss=s1::s2::s3::YS) (d1:PS X s1 t1) (d2:PS X s2 t2) (d3:PS X s3 t3) (h:∃ t,PSs X YS t/\R D t) (k:∀ t,R D t->zI5 t1 (zI5 t2 (zI5 t3 t)) D σ H):∃ t,PSs X ss t/\t D σ H:=by
 obtain⟨t,d,r⟩:=h
 subst e
 exact⟨_,QB d1 (QB d2 (QB d3 d)),k t r⟩
section
variable {P:Program} {w:World} {K:W.Frag} {mg:Str->Option Value} {base:Heap} {a:Ad}
theorem zEU (T:Txt K mg a):FnOk P w K mg base CX0 1 a.f_Lkey_by a.d_Lkey_by WM zFK:=by
 refine T.F_Lkey_by.ok sc_Lkey_by (fun vs H Q E h=>?_) (fun cdv A outer s H vs Q E hr h=>?_)
 ·obtain⟨w,n,rfl,_⟩:=h
  rfl
 have nd:=sc_Lkey_by.nd
 obtain⟨w,n,rfl,hb,q⟩:=h
 have qn:∀ (H':Hp) j,Same H H' -> -10 ^ 60 < j->j < 10 ^ 60->Q (.int j) H':=fun H' j g a b=>q _ (.num j) H' g Zl (by unfold Kd.deep;omega) (zI3 a b 3) True.intro
 have qt:∀ (H':Hp) (x:Str),Same H H'->x.length<=10->Q (.str x) H':=fun H' x g h=>q _ (.txt x) H' g WS (by unfold Kd.deep;omega) (Jv (Nat.le_trans h (by decide)) 3) h
 refine zNX (fun D t=>∀ (w:Int) (l0:Addr) (H1:Hp),Same H H1->H1 l0=some (HO.lst [V.str (Str.ofString "ab"),V.str (Str.ofString "bC")])->t D [some (.int w),some (.int n),some (.ref l0),some (.int (n % 23)),none] H1) rfl (QT (i:=2) nd rfl (Or.inl rfl) (YK (QA YL (QA YL QD)))) (QT (i:=3) nd rfl (Or.inl rfl) (QM QY (pv 1) QC))
  (QS (QQ Qy (pv 0) QC (QP _)) (QE (QT (i:=0) nd rfl (Or.inl rfl) (QM QY (QM Qj (pv 1) QC) QC))) QN)
  ⟨_,(QB (QS (PW.pt (Jp (QQ Qy (pv 0) QC (QP _)) (WK (QQ Jc (pv 3) QC (QP _))))) (QE (QK (Qa Qs (YK (QA (YI QD) (QA YL (QA (YI (QA (YI (QA (YI (QA YL QD)) QD)) QD)) QD)))) (QM Y7 (pv 3) QC) (fun _ _=>rfl)))) QN)
 (QB (QS (QQ Qy (pv 0) QC (QP _)) (QE (QK (QM Y7 (pv 3) QC))) QN)
 (QB (QS (QQ Qy (pv 0) QC (QP _)) (QE (QK (QM YF QC (QM Ys QC (QM Y7 (pv 3) QC))))) QN)
 (QB (QS (QQ Qy (pv 0) QC (QP _)) (QE (QK (QM YF QC (QM Ys QC (pv 3))))) QN)
 (QB (QS (QQ Qy (pv 0) QC (QP _)) (QE (QK (QM YF (QM Y7 (QM QY (QM zJ7 (pv 1) (QM Wv QC QC)) (QM Y7 (QM Ys QC (QM Wv QC QC)) QC)) (QM Wv QC QC)) QC))) QN)
 (QB (QS (QQ Qy (pv 0) QC (QP _)) (QB (QT (i:=4) nd rfl (Or.inl rfl) (QM Zm (Qa Qs (pv 2) (QM QY (pv 3) QC) (fun _ _=>rfl)) (Qa Qs (pv 2) (QM QY (QM Qj (pv 3) QC) QC) (fun _ _=>rfl))))
 (QB (QT (i:=4) nd rfl (Or.inl rfl) (QM Zm (QM Zm (pv 4) (Qa Qs (pv 2) (QM QY (QM Qj (pv 3) QC) QC) (fun _ _=>rfl))) (Qa Qs (pv 2) (QM QY (QM Qj (pv 3) QC) QC) (fun _ _=>rfl))))
 (QE (QK (QM Zm (pv 4) (QM zCQ YL (QM Qj (pv 3) QC))))))) QN)
 (QE (QK (YI (QA (YI (QA (QM QY (pv 3) QC) (QA (QM zCQ YL (QM QY (QM Qj (pv 3) QC) QC)) (QA (YI (QA (QM Qj (pv 3) QC) QD)) QD)))) (QA (QM zCQ YL (QM Ys (QM Qj (pv 3) QC) QC)) (QA (YI QD) (QA YL (QA QC (QA (QM QY (pv 3) QC) QD))))))))))))))),fun w l0 H1 g0 hl1=>?_⟩ (fun t ht=>?_)
 ·walk_at "rd"
  refine YZ (fun h0=>YZ (fun hn=>?_) fun hn=>Y5 h0 ?_) fun h0=>YO h0 ?_
  ·refine⟨by decide,fun p0 h0=>⟨by decide,fun p1 h1=>⟨by decide,fun p2 h2=>⟨by decide,fun p3 h3=>⟨by decide,fun p4 h4=>?_⟩⟩⟩⟩⟩
   have u0:=QH (o:=HO.tup []) h0
   have u1:=QH (o:=HO.tup [V.str (Str.ofString "")]) h1
   have u2:=QH (o:=HO.tup [V.ref p1]) h2
   have u3:=QH (o:=HO.tup [V.ref p2]) h3
   have u4:=QH (o:=HO.lst [V.ref p0,V.str (Str.ofString ""),V.ref p3]) h4
   have e0:=u4 _ _ (u3 _ _ (u2 _ _ (u1 _ _ (QF (H:=H1) (a:=p0) (o:=HO.tup [])))))
   have e1:=u4 _ _ (u3 _ _ (u2 _ _ (QF (H:=upd H1 p0 (HO.tup [])) (a:=p1) (o:=HO.tup [V.str (Str.ofString "")]))))
   have e2:=u4 _ _ (u3 _ _ (QF (H:=upd (upd H1 p0 (HO.tup [])) p1 (HO.tup [V.str (Str.ofString "")])) (a:=p2) (o:=HO.tup [V.ref p1])))
   have e3:=u4 _ _ (QF (H:=upd (upd (upd H1 p0 (HO.tup [])) p1 (HO.tup [V.str (Str.ofString "")])) p2 (HO.tup [V.ref p1])) (a:=p3) (o:=HO.tup [V.ref p2]))
   have e4:=QF (H:=upd (upd (upd (upd H1 p0 (HO.tup [])) p1 (HO.tup [V.str (Str.ofString "")])) p2 (HO.tup [V.ref p1])) p3 (HO.tup [V.ref p2])) (a:=p4) (o:=HO.lst [V.ref p0,V.str (Str.ofString ""),V.ref p3])
   have G:=g0.trans (u0.trans (u1.trans (u2.trans (u3.trans u4))))
   generalize upd (upd (upd (upd (upd H1 p0 (HO.tup [])) p1 (HO.tup [V.str (Str.ofString "")])) p2 (HO.tup [V.ref p1])) p3 (HO.tup [V.ref p2])) p4 (HO.lst [V.ref p0,V.str (Str.ofString ""),V.ref p3])=H2 at e0 e1 e2 e3 e4 G ⊢
   have hm:n % 23 - 20=0\/n % 23 - 20=1\/n % 23 - 20=2:=by omega
   rcases hm with hm | hm | hm
   ·rw[hm,QV e4 (v:=V.ref p0) rfl]
    exact q _ (.tup []) H2 G (Yw e0 (by decide) IsKs.nil) (by decide) (WF (by decide) fun k hk=>by cases hk) True.intro
   ·rw[hm,QV e4 (v:=V.str (Str.ofString "")) rfl]
    exact qt _ _ G (by decide)
   ·rw[hm,QV e4 (v:=V.ref p3) rfl]
    refine q _ (.tup [.tup [.tup [.txt (Str.ofString "")]]]) H2 G (Yw e3 (show 1<=1000 by decide) ⟨_,_,rfl,Yw e2 (show 1<=1000 by decide) ⟨_,_,rfl,Yw e1 (show 1<=1000 by decide) ⟨_,_,rfl,WS,rfl⟩,rfl⟩,rfl⟩) (by decide) ?_ True.intro
    refine WF (by decide) fun k hk=>?_
    rw[List.mem_singleton.mp hk]
    refine WF (by decide) fun k hk=>?_
    rw[List.mem_singleton.mp hk]
    refine WF (by decide) fun k hk=>?_
    rw[List.mem_singleton.mp hk]
    exact Jv (by decide) 0
  ·exact qn _ _ g0 (by omega) (by omega)
  refine YZ (fun h1=>?_) fun h1=>?_
  ·exact⟨.inl ⟨by decide,by decide⟩,qn _ _ g0 (by omega) (by omega)⟩
  refine YZ (fun h2=>?_) fun h2=>?_
  ·exact⟨.inl ⟨by decide,by decide⟩,qn _ _ g0 (by omega) (by omega)⟩
  refine YZ (fun h3=>?_) fun h3=>?_
  ·refine⟨⟨by decide,by decide,by decide⟩,⟨hb,by decide +kernel⟩,.inl ⟨by decide,by decide⟩,?_⟩
   generalize n*_=z
   exact qn _ _ g0 (by omega) (by omega)
  refine YZ (fun h4=>?_) fun h4=>?_
  ·exact zNK hl1 fun x h=>qt _ x g0 h
  exact zNe g0 q
 ·walk_at "rd"
  exact⟨by decide,fun l0 hl0=>YZ (fun _=>ht _ l0 _ (QH hl0) QF) (fun _=>ht _ l0 _ (QH hl0) QF)⟩
end
theorem zLp {P:Program} {w:World} {K:W.Frag} {mg:Str->Option Value} {base:Heap} {a:Ad} (T:Txt K mg a):FnOk P w K mg base CX0 18 a.f_law a.d_law zH8 (zED K) :=
 have c:=zDe T
 have pb:=zHO T (zGT T)
 have st:=Jg T 3
 have pap:=zH4 T st pb (zHK T)
 have plo:=zDS T pap
 have ce:=zDZ T (zE5 T (zBh T)) (zF2 T) (zA3 T st pb)
 have ky:=zHH T (Z3 T 3)
 have ch:=zEy T ky
 have chN:=zDx T ky
 have pl:=fun tb=>zGd (tb:=tb) T plo
 have wr:=fun tb=>zGw (tb:=tb) T pap
 have ly:=fun tb=>zEC (tb:=tb) T ce
 have mn:=fun tb=>zIZ (tb:=tb) T
 have en:=fun tb=>zEB (tb:=tb) T
 have mk:=fun tb=>zC2 (tb:=tb) T (mn tb) (zG7 T) (zDW T) (ly tb)
 have co:=fun tb=>zIA (tb:=tb) T (zF2 T) (mk tb) (wr tb)
 have pt:=fun tb=>zJM (tb:=tb) T ch (pl tb) (co tb)
 have ptN:=fun tb=>zIc (tb:=tb) T chN (pl tb) (co tb)
 have su:=fun tb=>zAK (tb:=tb) T ch (pl tb)
 have suN:=fun tb=>zAN (tb:=tb) T chN (pl tb)
 have tk:=fun tb=>zGg (tb:=tb) T (su tb) (wr tb)
 have ah:=fun tb=>zGm (tb:=tb) T (en tb)
 have tlN:=fun tb=>zAz (tb:=tb) T (ah tb) (tk tb)
 have atN:=fun tb=>zJk (tb:=tb) T (suN tb)
 have em:=fun tb=>zDl (tb:=tb) T (mn tb) (zAP T) (ly tb)
 have kb:=zEU T
 have vb:=zDR T
 have ini:=fun tb=>zCb (tb:=tb) T (ly tb)
 have cn:=WV T fun tb=>zEi T (mn tb)
 have nx:=W9 T ah fun tb=>zGY T (en tb)
 have sp:=zDg T (zKD T) (zC5 T cn nx) (zD6 T 4) (zBg T)
 have lp:=zKM T pt
 zNY T c (zIe T (ini false) (zCd T (ini true))) (zJA T kb vb lp (zHw T kb vb lp) (zKG T tk) (zER T em) (zDo T ptN tk tlN atN)) (zJp T (J8 T cn)) sp
theorem zM4 {us:List Value} (h:us.length=0):us=[]:=List.length_eq_zero_iff.mp h
theorem zMm {us:List Value} (h:us.length=1):∃ u0,us=[u0]:=match us,h with | [u0],_=>⟨u0,rfl⟩
theorem zIX {us:List Value} (h:us.length=2):∃ u0 u1,us=[u0,u1]:=match us,h with | [u0,u1],_=>⟨u0,u1,rfl⟩
theorem zMp {us:List Value} (h:us.length=3):∃ u0 u1 u2,us=[u0,u1,u2]:=match us,h with | [u0,u1,u2],_=>⟨u0,u1,u2,rfl⟩
theorem zLE {us:List Value} (h:us.length=4):∃ u0 u1 u2 u3,us=[u0,u1,u2,u3]:=match us,h with | [u0,u1,u2,u3],_=>⟨u0,u1,u2,u3,rfl⟩
theorem zNF {us:List Value} (h:us.length=5):∃ u0 u1 u2 u3 u4,us=[u0,u1,u2,u3,u4]:=match us,h with | [u0,u1,u2,u3,u4],_=>⟨u0,u1,u2,u3,u4,rfl⟩
theorem zM0 {us:List Value} (h:us.length=6):∃ u0 u1 u2 u3 u4 u5,us=[u0,u1,u2,u3,u4,u5]:=match us,h with | [u0,u1,u2,u3,u4,u5],_=>⟨u0,u1,u2,u3,u4,u5,rfl⟩
theorem zNE {us:List Value} (h:us.length=7):∃ u0 u1 u2 u3 u4 u5 u6,us=[u0,u1,u2,u3,u4,u5,u6]:=match us,h with | [u0,u1,u2,u3,u4,u5,u6],_=>⟨u0,u1,u2,u3,u4,u5,u6,rfl⟩
structure FK (K:W.Frag) (f:Addr) (x q:Str) (st:Stmt) (df:Value) where
 {oc kV dc pm cd ct:Value}
 {od an:Option Addr}
 {sl:Array (Option Value)}
 l:K.lookup f=some ⟨oc,od,.func (W.fnOf x q (YE st) (Q5 st) (QJ st) df kV dc pm an cd ct),sl⟩
 c:W.codeIn K cd q=true
 k:W.keepIn K (.ref f)=true
section
variable {K:W.Frag} {f:Addr} {x q:Str} {st:Stmt}
abbrev FK.d {df:Value} (F:FK K f x q st df):FuncData:=W.fnOf x q (YE st) (Q5 st) (QJ st) df F.kV F.dc F.pm F.an F.cd F.ct
theorem FK.fn (F:FK K f x q st .none):Fun K x q st f F.d:=zMA F.l F.c F.k
theorem FK.fnD {T:Addr} {ot:Value} {dt:Option Addr} {nt:Nat} {slt:Array (Option Value)} {ds:List Value} (F:FK K f x q st (.ref T)) (L:K.lookup T=some ⟨ot,dt,.seq ds.toArray nt,slt⟩):FunD K x q st f F.d ds:=zKT F.l F.c F.k L rfl
end
structure FG (K:W.Frag) (f:Addr) (x:Str) (st:Stmt) extends FK K f x x st .none where
 a:W.nsIn K mainGlobals x=some (some (.ref f))
structure FM (K:W.Frag) (f r:Addr) (x q:Str) (st:Stmt) (df:Value) extends FK K f x q st df where
 a:W.findIn K (.ref r) x=some (some (.ref f))
 i:W.isFn K (.ref f)=true
structure FD (K:W.Frag) (f r r':Addr) (x q:Str) (st:Stmt) extends FM K f r x q st .none where
 e:W.findIn K (.ref r') x=some (some (.ref f))
local macro_rules | `(tactic| walk_at "b0") => `(tactic| exact fun _ _ _ _ _ _ us hl => by have e := zM4 hl; subst e; rfl)
local macro_rules | `(tactic| walk_at "b1") => `(tactic| exact fun _ _ _ _ _ _ us hl => by obtain ⟨u0, e⟩ := zMm hl; subst e; rfl)
local macro_rules | `(tactic| walk_at "b2") => `(tactic| exact fun _ _ _ _ _ _ us hl => by obtain ⟨u0, u1, e⟩ := zIX hl; subst e; rfl)
local macro_rules | `(tactic| walk_at "b3") => `(tactic| exact fun _ _ _ _ _ _ us hl => by obtain ⟨u0, u1, u2, e⟩ := zMp hl; subst e; rfl)
local macro_rules | `(tactic| walk_at "b4") => `(tactic| exact fun _ _ _ _ _ _ us hl => by obtain ⟨u0, u1, u2, u3, e⟩ := zLE hl; subst e; rfl)
local macro_rules | `(tactic| walk_at "b5") => `(tactic| exact fun _ _ _ _ _ _ us hl => by obtain ⟨u0, u1, u2, u3, u4, e⟩ := zNF hl; subst e; rfl)
local macro_rules | `(tactic| walk_at "b6") => `(tactic| exact fun _ _ _ _ _ _ us hl => by obtain ⟨u0, u1, u2, u3, u4, u5, e⟩ := zM0 hl; subst e; rfl)
local macro_rules | `(tactic| walk_at "b7") => `(tactic| exact fun _ _ _ _ _ _ us hl => by obtain ⟨u0, u1, u2, u3, u4, u5, u6, e⟩ := zNE hl; subst e; rfl)
theorem zLc {K:W.Frag} {h:Heap} {mg:Str->Option Value} (X:K.In h) (G:h.Ns mainGlobals mg)
  {r_Walk:Addr} (aC_Walk:W.nsIn K mainGlobals "Walk" = some (some (.ref r_Walk)))
  {r_Shelf:Addr} (aC_Shelf:W.nsIn K mainGlobals "Shelf" = some (some (.ref r_Shelf)))
  {r_Table:Addr} (aC_Table:W.nsIn K mainGlobals "Table" = some (some (.ref r_Table)))
  {f0 f1 f2 f3 f4 f5 f6 f7 f8 f9 f10 f11 f12 f13 f14 f15 f16 f17 f18 f19 f20 f21 f22 f23 f24 f25 f26 f27 f28 f29 f30 f31 f32 f33 f34 f35 f36 f37 f38 f39 f40 f41 f42 f43 f44 f45 f46 f47 f48 f49 f50 f51 f52 f53 f54 f55 f56 f57 f58 f59:Addr}
  (F0:FG K f0 "is_key" zAx)
  (F1:FG K f1 "checked" J7)
  (F2:FG K f2 "is_part" Jo)
  (F3:FG K f3 "are_parts" WH)
  (F4:FG K f4 "is_number" WC)
  (F5:FG K f5 "is_size" J4)
  (F6:FG K f6 "room" zEr)
  (F7:FG K f7 "size_for" W3)
  (F8:FG K f8 "stride" zBH)
  (F9:FG K f9 "probe" zCj)
  (F10:FG K f10 "stamp" zCr)
  (F11:FG K f11 "text_stamp" ZV)
  (F12:FG K f12 "tuple_stamp" ZK)
  (F13:FG K f13 "cells_of" Ws)
  (F14:FG K f14 "first_empty" ZG)
  (F15:FG K f15 "paper" zCn)
  (F16:FG K f16 "is_end" zA9)
  (F17:FG K f17 "place_of" Wi)
  (F18:FG K f18 "packed" zA2)
  {T19:Addr} {oT19:Value} {dT19:Option Addr} {nT19:Nat} {sT19:Array (Option Value)}
  {u_H__init___0:Tok}
  (rd19:PySem.W.readsIn K r_Shelf (.type "type")=true) (sg19:PySem.W.specialIn K (.ref r_Shelf) "__getattribute__" = some (some (.builtin "type.__getattribute__"))) (fc19:PySem.W.findCls K (.ref r_Shelf) (.type "type") "__init__" = some (.val (.ref f19)))
  (F19:FM K f19 r_Shelf "__init__" "Shelf.__init__" WE (.ref T19))
  (L19:K.lookup T19=some ⟨oT19,dT19,.seq #[.int 8 u_H__init___0] nT19,sT19⟩)
  (F20:FD K f20 r_Shelf r_Table "lay_out" "Shelf.lay_out" Wp)
  (F21:FD K f21 r_Shelf r_Table "put" "Shelf.put" zEo)
  (F22:FD K f22 r_Shelf r_Table "at" "Shelf.at" zHy)
  (F23:FD K f23 r_Shelf r_Table "take" "Shelf.take" zCX)
  (F24:FD K f24 r_Shelf r_Table "take_last" "Shelf.take_last" ZY)
  (F25:FD K f25 r_Shelf r_Table "emptied" "Shelf.emptied" W5)
  (F26:FD K f26 r_Shelf r_Table "many" "Shelf.many" zDG)
  (F27:FD K f27 r_Shelf r_Table "ahead" "Shelf.ahead" zBP)
  (F28:FD K f28 r_Shelf r_Table "after" "Shelf.after" zA0)
  (F29:FD K f29 r_Shelf r_Table "counts" "Shelf.counts" Ju)
  (F30:FD K f30 r_Shelf r_Table "entries" "Shelf.entries" Wm)
  (F31:FD K f31 r_Shelf r_Table "place" "Shelf.place" zAv)
  (F32:FD K f32 r_Shelf r_Table "sure_place" "Shelf.sure_place" ZF)
  (F33:FD K f33 r_Shelf r_Table "come" "Shelf.come" zCR)
  (F34:FD K f34 r_Shelf r_Table "write" "Shelf.write" zAu)
  (F35:FM K f35 r_Shelf "size_emptied" "Shelf.size_emptied" Yt .none)
  (F36:FM K f36 r_Shelf "make_room" "Shelf.make_room" Zq .none)
  (F37:FM K f37 r_Table "__init__" "Table.__init__" Z6 .none)
  (F38:FM K f38 r_Table "size_emptied" "Table.size_emptied" Yq .none)
  (F39:FM K f39 r_Table "make_room" "Table.make_room" ZW .none)
  {T40:Addr} {oT40:Value} {dT40:Option Addr} {nT40:Nat} {sT40:Array (Option Value)}
  (F40:FM K f40 r_Walk "__init__" "Walk.__init__" Yn (.ref T40))
  (L40:K.lookup T40=some ⟨oT40,dT40,.seq #[.bool false,.bool false] nT40,sT40⟩)
  (F41:FM K f41 r_Walk "step" "Walk.step" Z4 .none)
  (F42:FM K f42 r_Walk "next_entry" "Walk.next_entry" Yb .none)
  (F43:FM K f43 r_Walk "changes_now" "Walk.changes_now" YV .none)
  (F44:FG K f44 "_law_cell_at" Wn)
  (F45:FG K f45 "_law_same" zCw)
  (F46:FG K f46 "_law_key_by" Jm)
  (F47:FG K f47 "_law_value_by" Z7)
  (F48:FG K f48 "_law_book" zCp)
  (F49:FG K f49 "_law_put" zEm)
  (F50:FG K f50 "_law_out" zFI)
  (F51:FG K f51 "_law_refused" Wg)
  (F52:FG K f52 "_law_emptied" W6)
  (F53:FG K f53 "_law_puts" zDA)
  (F54:FG K f54 "_law_deed" zC8)
  (F55:FG K f55 "_law_due" zFS)
  (F56:FG K f56 "_law_is_broken" ZU)
  (F57:FG K f57 "_law_stepped" Wl)
  (F58:FG K f58 "_law_new" zEX)
  (F59:FG K f59 "law" JT)
  (y_paper_slots:W.nsIn K mainGlobals "paper_slots" = some (some (.ref f15)))
  (pg_Walk:W.plainGet K r_Walk Str.empty=true) (hd_Walk:PySem.W.hasDictIn K r_Walk=true) (po_Walk:PySem.W.plainOver K r_Walk=true) (sa_Walk:W.findIn K (.ref r_Walk) "__setattr__" = some (some (.builtin "object.__setattr__"))) (mk_Walk:PySem.W.makesIn K r_Walk=true) (kc_Walk:W.keepIn K (.ref r_Walk)=true)
  (n_Walk_back:W.findIn K (.ref r_Walk) "back" = some none)
  (n_Walk_book:W.findIn K (.ref r_Walk) "book" = some none)
  (n_Walk_changes:W.findIn K (.ref r_Walk) "changes" = some none)
  (n_Walk_last:W.findIn K (.ref r_Walk) "last" = some none)
  (n_Walk_over:W.findIn K (.ref r_Walk) "over" = some none)
  (n_Walk_strict:W.findIn K (.ref r_Walk) "strict" = some none)
  (pg_Shelf:W.plainGet K r_Shelf Str.empty=true) (hd_Shelf:PySem.W.hasDictIn K r_Shelf=true) (po_Shelf:PySem.W.plainOver K r_Shelf=true) (sa_Shelf:W.findIn K (.ref r_Shelf) "__setattr__" = some (some (.builtin "object.__setattr__"))) (mk_Shelf:PySem.W.makesIn K r_Shelf=true) (kc_Shelf:W.keepIn K (.ref r_Shelf)=true)
  (n_Hcame:W.findIn K (.ref r_Shelf) "came" = some none)
  (n_Hcells:W.findIn K (.ref r_Shelf) "cells" = some none)
  (n_Hcomings:W.findIn K (.ref r_Shelf) "comings" = some none)
  (n_Hheld:W.findIn K (.ref r_Shelf) "held" = some none)
  (n_Hmoved:W.findIn K (.ref r_Shelf) "moved" = some none)
  (n_Hrow:W.findIn K (.ref r_Shelf) "row" = some none)
  (n_Hsize:W.findIn K (.ref r_Shelf) "size" = some none)
  (n_Htidyings:W.findIn K (.ref r_Shelf) "tidyings" = some none)
  (n_Hwent:W.findIn K (.ref r_Shelf) "went" = some none)
  (pg_Table:W.plainGet K r_Table Str.empty=true) (hd_Table:PySem.W.hasDictIn K r_Table=true) (po_Table:PySem.W.plainOver K r_Table=true) (sa_Table:W.findIn K (.ref r_Table) "__setattr__" = some (some (.builtin "object.__setattr__"))) (mk_Table:PySem.W.makesIn K r_Table=true) (kc_Table:W.keepIn K (.ref r_Table)=true)
  (n_Tcame:W.findIn K (.ref r_Table) "came" = some none)
  (n_Tcells:W.findIn K (.ref r_Table) "cells" = some none)
  (n_Tcomings:W.findIn K (.ref r_Table) "comings" = some none)
  (n_Theld:W.findIn K (.ref r_Table) "held" = some none)
  (n_Tmoved:W.findIn K (.ref r_Table) "moved" = some none)
  (n_Trow:W.findIn K (.ref r_Table) "row" = some none)
  (n_Tsize:W.findIn K (.ref r_Table) "size" = some none)
  (n_Ttidyings:W.findIn K (.ref r_Table) "tidyings" = some none)
  (n_Twent:W.findIn K (.ref r_Table) "went" = some none)
  (z_ValueError:W.nsIn K mainGlobals "ValueError" = some none)
  (z_all:W.nsIn K mainGlobals "all" = some none)
  (z_bool:W.nsIn K mainGlobals "bool" = some none)
  (z_enumerate:W.nsIn K mainGlobals "enumerate" = some none)
  (z_int:W.nsIn K mainGlobals "int" = some none)
  (z_isinstance:W.nsIn K mainGlobals "isinstance" = some none)
  (z_len:W.nsIn K mainGlobals "len" = some none)
  (z_list:W.nsIn K mainGlobals "list" = some none)
  (z_ord:W.nsIn K mainGlobals "ord" = some none)
  (z_range:W.nsIn K mainGlobals "range" = some none)
  (z_reversed:W.nsIn K mainGlobals "reversed" = some none)
  (z_str:W.nsIn K mainGlobals "str" = some none)
  (z_tuple:W.nsIn K mainGlobals "tuple" = some none)
  (z_zip:W.nsIn K mainGlobals "zip" = some none)
  {t_DEEPEST:Tok} (v_DEEPEST:W.nsIn K mainGlobals "DEEPEST" = some (some (.int 3 t_DEEPEST)))
  {t_EMPTY:Tok} (v_EMPTY:W.nsIn K mainGlobals "EMPTY" = some (some (.int (-1) t_EMPTY)))
  {t_GONE:Tok} (v_GONE:W.nsIn K mainGlobals "GONE" = some (some (.int (-2) t_GONE)))
  {t_GREATEST:Tok} (v_GREATEST:W.nsIn K mainGlobals "GREATEST" = some (some (.int 4096 t_GREATEST)))
  {t_LEAST:Tok} (v_LEAST:W.nsIn K mainGlobals "LEAST" = some (some (.int 8 t_LEAST)))
  {t_MOST_PARTS:Tok} (v_MOST_PARTS:W.nsIn K mainGlobals "MOST_PARTS" = some (some (.int 6 t_MOST_PARTS)))
  {t_MOST_SIGNS:Tok} (v_MOST_SIGNS:W.nsIn K mainGlobals "MOST_SIGNS" = some (some (.int 60 t_MOST_SIGNS)))
  {t_TURN:Tok} (v_TURN:W.nsIn K mainGlobals "TURN" = some (some (.int 2147483647 t_TURN)))
  {r_BookError N_BookError:Addr} {nm_BookError q_BookError:Str} {bs_BookError bm_BookError:List Value} {hd_BookError:Bool} {sn_BookError:List Str} {sub_BookError:List Value} {ab_BookError:Bool} {col_BookError:Option Bool} {dd_BookError:Option Addr} {k0_BookError k1_BookError k2_BookError k3_BookError k5_BookError:Option Value} {id_BookError:String}
  (g_BookError:W.nsIn K mainGlobals "BookError" = some (some (.ref r_BookError))) (o_BookError:K.lookup r_BookError=some (excClassObj nm_BookError q_BookError r_BookError N_BookError bs_BookError bm_BookError hd_BookError sn_BookError sub_BookError ab_BookError col_BookError dd_BookError k0_BookError k1_BookError k2_BookError k3_BookError k5_BookError id_BookError))
  (e_BookError:PySem.W.excIn K r_BookError VE "ValueError.__new__" = true)
  (y_BookError:PySem.W.typeIn K (.ref r_BookError)=some (.type "type")) (mo_BookError:W.mroIn K r_BookError (.type "object")=some true)
  {r_NoKey N_NoKey:Addr} {nm_NoKey q_NoKey:Str} {bs_NoKey bm_NoKey:List Value} {hd_NoKey:Bool} {sn_NoKey:List Str} {sub_NoKey:List Value} {ab_NoKey:Bool} {col_NoKey:Option Bool} {dd_NoKey:Option Addr} {k0_NoKey k1_NoKey k2_NoKey k3_NoKey k5_NoKey:Option Value} {id_NoKey:String}
  (g_NoKey:W.nsIn K mainGlobals "NoKey" = some (some (.ref r_NoKey))) (o_NoKey:K.lookup r_NoKey=some (excClassObj nm_NoKey q_NoKey r_NoKey N_NoKey bs_NoKey bm_NoKey hd_NoKey sn_NoKey sub_NoKey ab_NoKey col_NoKey dd_NoKey k0_NoKey k1_NoKey k2_NoKey k3_NoKey k5_NoKey id_NoKey))
  (e_NoKey:PySem.W.excIn K r_NoKey VE "ValueError.__new__" = true)
  (y_NoKey:PySem.W.typeIn K (.ref r_NoKey)=some (.type "type")) (mo_NoKey:W.mroIn K r_NoKey (.type "object")=some true)
  {r_NoSize:Addr} (g_NoSize:W.nsIn K mainGlobals "NoSize" = some (some (.ref r_NoSize)))
  (y_NoSize:PySem.W.typeIn K (.ref r_NoSize)=some (.type "type")) (mo_NoSize:W.mroIn K r_NoSize (.type "object")=some true)
  {r_Full N_Full:Addr} {nm_Full q_Full:Str} {bs_Full bm_Full:List Value} {hd_Full:Bool} {sn_Full:List Str} {sub_Full:List Value} {ab_Full:Bool} {col_Full:Option Bool} {dd_Full:Option Addr} {k0_Full k1_Full k2_Full k3_Full k5_Full:Option Value} {id_Full:String}
  (g_Full:W.nsIn K mainGlobals "Full" = some (some (.ref r_Full))) (o_Full:K.lookup r_Full=some (excClassObj nm_Full q_Full r_Full N_Full bs_Full bm_Full hd_Full sn_Full sub_Full ab_Full col_Full dd_Full k0_Full k1_Full k2_Full k3_Full k5_Full id_Full))
  (e_Full:PySem.W.excIn K r_Full VE "ValueError.__new__" = true)
  (y_Full:PySem.W.typeIn K (.ref r_Full)=some (.type "type")) (mo_Full:W.mroIn K r_Full (.type "object")=some true)
  {r_Lacking N_Lacking:Addr} {nm_Lacking q_Lacking:Str} {bs_Lacking bm_Lacking:List Value} {hd_Lacking:Bool} {sn_Lacking:List Str} {sub_Lacking:List Value} {ab_Lacking:Bool} {col_Lacking:Option Bool} {dd_Lacking:Option Addr} {k0_Lacking k1_Lacking k2_Lacking k3_Lacking k5_Lacking:Option Value} {id_Lacking:String}
  (g_Lacking:W.nsIn K mainGlobals "Lacking" = some (some (.ref r_Lacking))) (o_Lacking:K.lookup r_Lacking=some (excClassObj nm_Lacking q_Lacking r_Lacking N_Lacking bs_Lacking bm_Lacking hd_Lacking sn_Lacking sub_Lacking ab_Lacking col_Lacking dd_Lacking k0_Lacking k1_Lacking k2_Lacking k3_Lacking k5_Lacking id_Lacking))
  (e_Lacking:PySem.W.excIn K r_Lacking VE "ValueError.__new__" = true)
  (y_Lacking:PySem.W.typeIn K (.ref r_Lacking)=some (.type "type")) (mo_Lacking:W.mroIn K r_Lacking (.type "object")=some true)
  {r_Broken N_Broken:Addr} {nm_Broken q_Broken:Str} {bs_Broken bm_Broken:List Value} {hd_Broken:Bool} {sn_Broken:List Str} {sub_Broken:List Value} {ab_Broken:Bool} {col_Broken:Option Bool} {dd_Broken:Option Addr} {k0_Broken k1_Broken k2_Broken k3_Broken k5_Broken:Option Value} {id_Broken:String}
  (g_Broken:W.nsIn K mainGlobals "Broken" = some (some (.ref r_Broken))) (o_Broken:K.lookup r_Broken=some (excClassObj nm_Broken q_Broken r_Broken N_Broken bs_Broken bm_Broken hd_Broken sn_Broken sub_Broken ab_Broken col_Broken dd_Broken k0_Broken k1_Broken k2_Broken k3_Broken k5_Broken id_Broken))
  (e_Broken:PySem.W.excIn K r_Broken VE "ValueError.__new__" = true)
  (y_Broken:PySem.W.typeIn K (.ref r_Broken)=some (.type "type")) (mo_Broken:W.mroIn K r_Broken (.type "object")=some true)
  {r_NoText:Addr} (g_NoText:W.nsIn K mainGlobals "NoText" = some (some (.ref r_NoText)))
  (y_NoText:PySem.W.typeIn K (.ref r_NoText)=some (.type "type")) (mo_NoText:W.mroIn K r_NoText (.type "object")=some true)
  {r_NoDeed:Addr} (g_NoDeed:W.nsIn K mainGlobals "NoDeed" = some (some (.ref r_NoDeed)))
  (y_NoDeed:PySem.W.typeIn K (.ref r_NoDeed)=some (.type "type")) (mo_NoDeed:W.mroIn K r_NoDeed (.type "object")=some true)
  {r_NoName:Addr} (g_NoName:W.nsIn K mainGlobals "NoName" = some (some (.ref r_NoName)))
  (y_NoName:PySem.W.typeIn K (.ref r_NoName)=some (.type "type")) (mo_NoName:W.mroIn K r_NoName (.type "object")=some true)
  {r_Twice:Addr} (g_Twice:W.nsIn K mainGlobals "Twice" = some (some (.ref r_Twice)))
  (y_Twice:PySem.W.typeIn K (.ref r_Twice)=some (.type "type")) (mo_Twice:W.mroIn K r_Twice (.type "object")=some true)
  (su_NoKey_BookError:W.mroIn K r_NoKey (.ref r_BookError)=some true)
  (su_Full_Full:W.mroIn K r_Full (.ref r_Full)=some true)
  (su_Lacking_BookError:W.mroIn K r_Lacking (.ref r_BookError)=some true)
  (ga_Broken:W.findIn K (.ref r_Broken) "__getattribute__" = some (some (.builtin "BaseException.__getattribute__"))) (gh_Broken:W.findIn K (.ref r_Broken) "__getattr__" = some none) (fc_Broken:W.findIn K (.ref r_Broken) "__class__" = some (some (.builtin "object.__class__")))
  (sg_Broken:PySem.W.specialIn K (.builtin "object.__class__") "__get__" = some (some (.builtin "getset_descriptor.__get__"))) (tk_Broken:PySem.W.takesIn K (.builtin "object.__class__")=some true) (mb_Broken:W.mroIn K r_Broken (.type "BaseException")=some true) (vt_Broken:W.mroIn K r_Broken (.type "ValueError")=some true)
  (su_Broken_BookError:W.mroIn K r_Broken (.ref r_BookError)=some true)
  (su_Broken_NoKey:W.mroIn K r_Broken (.ref r_NoKey)=some false)
  (su_Broken_NoSize:W.mroIn K r_Broken (.ref r_NoSize)=some false)
  (su_Broken_Full:W.mroIn K r_Broken (.ref r_Full)=some false)
  (su_Broken_Lacking:W.mroIn K r_Broken (.ref r_Lacking)=some false)
  (su_Broken_Broken:W.mroIn K r_Broken (.ref r_Broken)=some true)
  (su_Broken_NoText:W.mroIn K r_Broken (.ref r_NoText)=some false)
  (su_Broken_NoDeed:W.mroIn K r_Broken (.ref r_NoDeed)=some false)
  (su_Broken_NoName:W.mroIn K r_Broken (.ref r_NoName)=some false)
  (su_Broken_Twice:W.mroIn K r_Broken (.ref r_Twice)=some false)
  : ∃ a:Ad,Txt K mg a/\a.f_law=f59/\a.d_law=W.fnOf "law" "law" (YE JT) (Q5 JT) (QJ JT) .none F59.kV F59.dc F59.pm F59.an F59.cd F59.ct:=by
 have m {n:Str} {v:Value} (e:W.nsIn K mainGlobals n=some (some v)):=PySem.W.mg_of X G e
 have z {n:Str} (e:W.nsIn K mainGlobals n=some none):=PySem.W.mg_none_of X G e
 exact⟨⟨f0,F0.d,f1,F1.d,f2,F2.d,f3,F3.d,f4,F4.d,f5,F5.d,f6,F6.d,f7,F7.d,f8,F8.d,f9,F9.d,f10,F10.d,f11,F11.d,f12,F12.d,f13,F13.d,f14,F14.d,f15,F15.d,f16,F16.d,f17,F17.d,f18,F18.d,f19,F19.d,f20,F20.d,f21,F21.d,f22,F22.d,f23,F23.d,f24,F24.d,f25,F25.d,f26,F26.d,f27,F27.d,f28,F28.d,f29,F29.d,f30,F30.d,f31,F31.d,f32,F32.d,f33,F33.d,f34,F34.d,f35,F35.d,f36,F36.d,f37,F37.d,f38,F38.d,f39,F39.d,f40,F40.d,f41,F41.d,f42,F42.d,f43,F43.d,f44,F44.d,f45,F45.d,f46,F46.d,f47,F47.d,f48,F48.d,f49,F49.d,f50,F50.d,f51,F51.d,f52,F52.d,f53,F53.d,f54,F54.d,f55,F55.d,f56,F56.d,f57,F57.d,f58,F58.d,f59,F59.d,t_DEEPEST,t_EMPTY,t_GONE,t_GREATEST,t_LEAST,t_MOST_PARTS,t_MOST_SIGNS,t_TURN,r_BookError,r_NoKey,r_NoSize,r_Full,r_Lacking,r_Broken,r_NoText,r_NoDeed,r_NoName,r_Twice,r_Walk,r_Shelf,r_Table,u_H__init___0⟩,⟨F0.fn,
  F0.fn.binds (by walk_at "b1"),
  m F0.a,
  F1.fn,
  F1.fn.binds (by walk_at "b1"),
  m F1.a,
  F2.fn,
  F2.fn.binds (by walk_at "b2"),
  m F2.a,
  F3.fn,
  F3.fn.binds (by walk_at "b2"),
  m F3.a,
  F4.fn,
  F4.fn.binds (by walk_at "b1"),
  m F4.a,
  F5.fn,
  F5.fn.binds (by walk_at "b1"),
  m F5.a,
  F6.fn,
  F6.fn.binds (by walk_at "b1"),
  m F6.a,
  F7.fn,
  F7.fn.binds (by walk_at "b1"),
  m F7.a,
  F8.fn,
  F8.fn.binds (by walk_at "b1"),
  m F8.a,
  F9.fn,
  F9.fn.binds (by walk_at "b3"),
  m F9.a,
  F10.fn,
  F10.fn.binds (by walk_at "b1"),
  m F10.a,
  F11.fn,
  F11.fn.binds (by walk_at "b1"),
  m F11.a,
  F12.fn,
  F12.fn.binds (by walk_at "b1"),
  m F12.a,
  F13.fn,
  F13.fn.binds (by walk_at "b2"),
  m F13.a,
  F14.fn,
  F14.fn.binds (by walk_at "b2"),
  m F14.a,
  F15.fn,
  F15.fn.binds (by walk_at "b3"),
  m F15.a,
  F16.fn,
  F16.fn.binds (by walk_at "b3"),
  m F16.a,
  F17.fn,
  F17.fn.binds (by walk_at "b3"),
  m F17.a,
  F18.fn,
  F18.fn.binds (by walk_at "b2"),
  m F18.a,
  F19.fnD L19,
  FunD.bindsN (ps:=Yl) [] 2 rfl (F19.fnD L19) fun _ _ _ _ _ _ _ us hl=>by obtain⟨u0,u1,rfl⟩:=zIX hl;exact⟨_,rfl,rfl⟩,
  ⟨rd19,sg19,fc19,F19.k⟩,
  F20.fn,
  F20.fn.binds (by walk_at "b5"),
  bt ⟨F20.a,F20.i,F20.k⟩ ⟨F20.e,F20.i,F20.k⟩,
  F21.fn,
  F21.fn.binds (by walk_at "b3"),
  bt ⟨F21.a,F21.i,F21.k⟩ ⟨F21.e,F21.i,F21.k⟩,
  F22.fn,
  F22.fn.binds (by walk_at "b2"),
  bt ⟨F22.a,F22.i,F22.k⟩ ⟨F22.e,F22.i,F22.k⟩,
  F23.fn,
  F23.fn.binds (by walk_at "b2"),
  bt ⟨F23.a,F23.i,F23.k⟩ ⟨F23.e,F23.i,F23.k⟩,
  F24.fn,
  F24.fn.binds (by walk_at "b1"),
  bt ⟨F24.a,F24.i,F24.k⟩ ⟨F24.e,F24.i,F24.k⟩,
  F25.fn,
  F25.fn.binds (by walk_at "b1"),
  bt ⟨F25.a,F25.i,F25.k⟩ ⟨F25.e,F25.i,F25.k⟩,
  F26.fn,
  F26.fn.binds (by walk_at "b1"),
  bt ⟨F26.a,F26.i,F26.k⟩ ⟨F26.e,F26.i,F26.k⟩,
  F27.fn,
  F27.fn.binds (by walk_at "b2"),
  bt ⟨F27.a,F27.i,F27.k⟩ ⟨F27.e,F27.i,F27.k⟩,
  F28.fn,
  F28.fn.binds (by walk_at "b2"),
  bt ⟨F28.a,F28.i,F28.k⟩ ⟨F28.e,F28.i,F28.k⟩,
  F29.fn,
  F29.fn.binds (by walk_at "b1"),
  bt ⟨F29.a,F29.i,F29.k⟩ ⟨F29.e,F29.i,F29.k⟩,
  F30.fn,
  F30.fn.binds (by walk_at "b1"),
  bt ⟨F30.a,F30.i,F30.k⟩ ⟨F30.e,F30.i,F30.k⟩,
  F31.fn,
  F31.fn.binds (by walk_at "b2"),
  bt ⟨F31.a,F31.i,F31.k⟩ ⟨F31.e,F31.i,F31.k⟩,
  F32.fn,
  F32.fn.binds (by walk_at "b2"),
  bt ⟨F32.a,F32.i,F32.k⟩ ⟨F32.e,F32.i,F32.k⟩,
  F33.fn,
  F33.fn.binds (by walk_at "b3"),
  bt ⟨F33.a,F33.i,F33.k⟩ ⟨F33.e,F33.i,F33.k⟩,
  F34.fn,
  F34.fn.binds (by walk_at "b3"),
  bt ⟨F34.a,F34.i,F34.k⟩ ⟨F34.e,F34.i,F34.k⟩,
  F35.fn,
  F35.fn.binds (by walk_at "b1"),
  bt ⟨F35.a,F35.i,F35.k⟩ ⟨F38.a,F38.i,F38.k⟩,
  bt (F35.fn.binds (by walk_at "b1")) (F38.fn.binds (by walk_at "b1")),
  F36.fn,
  F36.fn.binds (by walk_at "b1"),
  bt ⟨F36.a,F36.i,F36.k⟩ ⟨F39.a,F39.i,F39.k⟩,
  bt (F36.fn.binds (by walk_at "b1")) (F39.fn.binds (by walk_at "b1")),
  F37.fn,
  F37.fn.binds (by walk_at "b1"),
  F38.fn,
  F38.fn.binds (by walk_at "b1"),
  F39.fn,
  F39.fn.binds (by walk_at "b1"),
  F40.fnD L40,
  FunD.bindsN (ps:=YB) [] 4 rfl (F40.fnD L40) fun _ _ _ _ _ _ _ us hl=>by obtain⟨u0,u1,u2,u3,rfl⟩:=zLE hl;exact⟨_,rfl,rfl⟩,
  FunD.bindsK (ps:=YB) (kw := "strict") [.bool false] 2 rfl (F40.fnD L40) fun _ _ _ _ _ _ _ us v hl=>by obtain⟨u0,u1,rfl⟩:=zIX hl;exact⟨_,rfl,rfl⟩,
  ⟨F40.a,F40.i,F40.k⟩,
  F41.fn,
  F41.fn.binds (by walk_at "b1"),
  ⟨F41.a,F41.i,F41.k⟩,
  F42.fn,
  F42.fn.binds (by walk_at "b1"),
  ⟨F42.a,F42.i,F42.k⟩,
  F43.fn,
  F43.fn.binds (by walk_at "b1"),
  ⟨F43.a,F43.i,F43.k⟩,
  F44.fn,
  F44.fn.binds (by walk_at "b2"),
  m F44.a,
  F45.fn,
  F45.fn.binds (by walk_at "b2"),
  m F45.a,
  F46.fn,
  F46.fn.binds (by walk_at "b2"),
  m F46.a,
  F47.fn,
  F47.fn.binds (by walk_at "b1"),
  m F47.a,
  F48.fn,
  F48.fn.binds (by walk_at "b1"),
  m F48.a,
  F49.fn,
  F49.fn.binds (by walk_at "b5"),
  m F49.a,
  F50.fn,
  F50.fn.binds (by walk_at "b4"),
  m F50.a,
  F51.fn,
  F51.fn.binds (by walk_at "b3"),
  m F51.a,
  F52.fn,
  F52.fn.binds (by walk_at "b3"),
  m F52.a,
  F53.fn,
  F53.fn.binds (by walk_at "b5"),
  m F53.a,
  F54.fn,
  F54.fn.binds (by walk_at "b5"),
  m F54.a,
  F55.fn,
  F55.fn.binds (by walk_at "b3"),
  m F55.a,
  F56.fn,
  F56.fn.binds (by walk_at "b1"),
  m F56.a,
  F57.fn,
  F57.fn.binds (by walk_at "b3"),
  m F57.a,
  F58.fn,
  F58.fn.binds (by walk_at "b3"),
  m F58.a,
  F59.fn,
  F59.fn.binds (by walk_at "b1"),
  m F59.a,
  m y_paper_slots,
  ⟨pg_Walk,hd_Walk,po_Walk,sa_Walk⟩,
  ⟨mk_Walk,F40.a,F40.i,kc_Walk⟩,
  m aC_Walk,
  n_Walk_back,
  n_Walk_book,
  n_Walk_changes,
  n_Walk_last,
  n_Walk_over,
  n_Walk_strict,
  ⟨mk_Shelf,F19.a,F19.i,kc_Shelf⟩,
  m aC_Shelf,
  bt ⟨pg_Shelf,hd_Shelf,po_Shelf,sa_Shelf⟩ ⟨pg_Table,hd_Table,po_Table,sa_Table⟩,
  bt n_Hcame n_Tcame,
  bt n_Hcells n_Tcells,
  bt n_Hcomings n_Tcomings,
  bt n_Hheld n_Theld,
  bt n_Hmoved n_Tmoved,
  bt n_Hrow n_Trow,
  bt n_Hsize n_Tsize,
  bt n_Htidyings n_Ttidyings,
  bt n_Hwent n_Twent,
  ⟨mk_Table,F37.a,F37.i,kc_Table⟩,
  m aC_Table,
  z z_ValueError,
  z z_all,
  z z_bool,
  z z_enumerate,
  z z_int,
  z z_isinstance,
  z z_len,
  z z_list,
  z z_ord,
  z z_range,
  z z_reversed,
  z z_str,
  z z_tuple,
  z z_zip,
  m v_DEEPEST,
  m v_EMPTY,
  m v_GONE,
  m v_GREATEST,
  m v_LEAST,
  m v_MOST_PARTS,
  m v_MOST_SIGNS,
  m v_TURN,
  m g_BookError,
  ⟨bm_BookError,e_BookError,_,_,_,_,_,_,_,_,_,_,_,_,_,_,_,_,o_BookError⟩,
  m g_NoKey,
  ⟨bm_NoKey,e_NoKey,_,_,_,_,_,_,_,_,_,_,_,_,_,_,_,_,o_NoKey⟩,
  m g_NoSize,
  m g_Full,
  ⟨bm_Full,e_Full,_,_,_,_,_,_,_,_,_,_,_,_,_,_,_,_,o_Full⟩,
  m g_Lacking,
  ⟨bm_Lacking,e_Lacking,_,_,_,_,_,_,_,_,_,_,_,_,_,_,_,_,o_Lacking⟩,
  m g_Broken,
  ⟨bm_Broken,e_Broken,_,_,_,_,_,_,_,_,_,_,_,_,_,_,_,_,o_Broken⟩,
  m g_NoText,
  m g_NoDeed,
  m g_NoName,
  m g_Twice,
  su_NoKey_BookError,
  su_Full_Full,
  su_Lacking_BookError,
  ⟨ga_Broken,gh_Broken,fc_Broken,sg_Broken,tk_Broken,mo_Broken,mb_Broken⟩,
  zLj (by decide +kernel) vt_Broken,
  Yj y_BookError mo_BookError su_Broken_BookError su_Broken_Broken,
  su_Broken_BookError,
  Yj y_NoKey mo_NoKey su_Broken_NoKey su_Broken_Broken,
  Yj y_NoSize mo_NoSize su_Broken_NoSize su_Broken_Broken,
  Yj y_Full mo_Full su_Broken_Full su_Broken_Broken,
  Yj y_Lacking mo_Lacking su_Broken_Lacking su_Broken_Broken,
  Yj y_Broken mo_Broken su_Broken_Broken su_Broken_Broken,
  Yj y_NoText mo_NoText su_Broken_NoText su_Broken_Broken,
  Yj y_NoDeed mo_NoDeed su_Broken_NoDeed su_Broken_Broken,
  Yj y_NoName mo_NoName su_Broken_NoName su_Broken_Broken,
  Yj y_Twice mo_Twice su_Broken_Twice su_Broken_Broken⟩,rfl,rfl⟩
theorem zLS {l:PySem.W.OpenLaw} {w:World} {K:W.Frag} {h:Heap} {mg:Str->Option Value} {fa f_law:Addr} (X:K.In h) (G:h.Ns mainGlobals mg) (hfa:mg "law" = some (.ref fa)) {kV dc pm cd ct:Value} {an:Option Addr}
  (T:∃ a:Ad,Txt K mg a/\a.f_law=f_law/\a.d_law=W.fnOf "law" "law" (YE JT) (Q5 JT) (QJ JT) .none kV dc pm an cd ct) :
  ∃ fd:FuncData,(∀ (s:Shared) (v:Value),BindsTo s fd ⟨[v],[]⟩ [("_law_script",v)])/\∀ base:Heap,K.In base->base.Ns mainGlobals mg->FnOk l.prog w K mg base CX0 18 fa fd ["_law_script"] (zED K):=by
 obtain⟨a,T,e1,e2⟩:=T
 have e:=hfa.symm.trans T.m_law
 cases e
 refine⟨a.d_law,?_,fun base _ _=>zLp T⟩
 rw[e2]
 exact fun s v=>.of_eq rfl
theorem zNL {l:PySem.W.OpenLaw} {q:Program} {loose:List Str} {XP:(Str->Option Value)->Heap->Prop} {YP:World->Heap->Prop} {d:DefRec} {K:Params->W.Frag} (hn:l.most=some 63) (hdf:d.params.defaults=[])
  (hY:∀ (w:World) (h:Heap),YP w h->(K w.params).In h)
  (F:∀ (w:World) (mg:Str->Option Value) (fa:Addr) (h:Heap),(K w.params).In h->h.Ns mainGlobals mg->mg d.name=some (.ref fa) ->
   ∃ fd:FuncData,(∀ (s:Shared) (u:Value),BindsTo s fd ⟨[u],[]⟩ [("_law_script",u)])/\∀ base:Heap,(K w.params).In base->base.Ns mainGlobals mg->FnOk l.prog w (K w.params) mg base CX0 18 fa fd ["_law_script"] (zED (K w.params))) :
  PySem.W.WalkO q loose XP YP l.row.toRowW d [] (fun f vs=>PySem.call f vs) :=
 L2.zIJ (n:=63) (k:=18) (x := "_law_script") (CX:=fun _=>CX0) (sp:=fun w=>zED (K w.params)) hn (by decide) hdf ⟨rfl,by decide,by decide⟩ hY F (fun _ _ a ns hl hb _ hS=>⟨a,ns,rfl,hS,hl,hb,fun _=>rfl⟩) fun _ _ _ _ _ z=>z
end My
-- names taken ahead, so that the head makes no second copy of these large constants (their proofs would take most of the compiled file; its limit is 64 MiB)
namespace PySem.W.Fast
def tw13234236885265198982:=()
def tw3918789632912495234:=()
def tw16836648351144746607:=()
def tw5388477064381879136:=()
def tw10611993833515469932:=()
def tw10998414979473760875:=()
def tw8390453842876909238:=()
def tw2786314550291963882:=()
def tw7966074665591942632:=()
def tw4535208512266101211:=()
def tw11028566536749312781:=()
def tw528986722563800041:=()
def tw14726389542759156495:=()
def tw13449632190669583425:=()
def tw17351791219444825139:=()
def tw16041499679214874395:=()
def tw12228725156711319332:=()
def tw10217251218393478625:=()
def tw17255544314078539334:=()
def tw10232295476095662558:=()
def tw7893189742756655459:=()
def tw6545359118270980473:=()
def tw15867552125103422021:=()
def tw14969770535489298798:=()
def tw7096761177973730714:=()
def tw4927583101719736219:=()
def tw1656252581328861934:=()
def tw10372338261012445165:=()
def tw14406760143368988006:=()
def tw16200499340621556447:=()
def tw574012250372749968:=()
def tw13506414970661237088:=()
def tw14368895059264709338:=()
def tw1003933741450934320:=()
def tw6008265801681103284:=()
def tw9500431746888484038:=()
def tw4639282803510134102:=()
def tw1556680503098859697:=()
def tw2751397101212132945:=()
def tw5240686132929158231:=()
def tw13114985911479413288:=()
def tw1493041585940442805:=()
def tw10989326899946702209:=()
def tw4443029104675845073:=()
def tw9877985776729960253:=()
def tw1279405980237484787:=()
def tw5059654872497096797:=()
def tw11292348704202258087:=()
def tw871088555936267720:=()
def tw7646330901061121463:=()
def tw17496909273102547022:=()
def tw1149917120263473410:=()
def tw7171531135823514699:=()
def tw16068694306960000521:=()
def tw2469816022390297945:=()
def tw2714566595026247196:=()
def tw15406510452174264874:=()
def tw728325916508265306:=()
def tw16315354006157128823:=()
def tw18400645010685393906:=()
def tw9939056923449393054:=()
def tw12308847807771925163:=()
def tw5156614862852446687:=()
def tw15102184527777436246:=()
def tw16453691577240283610:=()
def tw2836699636664235246:=()
def tw8874414426833358603:=()
def tw12237824527715261559:=()
def tw6458356594231572735:=()
def tw13505730552099157291:=()
def tw9106672227607350176:=()
def tw373688101403917773:=()
def tw11263254041936965014:=()
def tw6271871789403555414:=()
def tw3396001281470687452:=()
def tw8010940236450023800:=()
def tw10747466898527230287:=()
def tw10361960237711311272:=()
def tw6662116469904690818:=()
def tw264410114435251920:=()
def tw15355488783627581146:=()
def tw5878473480947097513:=()
def tw16349752907299031586:=()
def tw15484593959125424628:=()
def tw4180366494560130883:=()
def tw7486861461712027393:=()
def tw5213051841928924765:=()
def tw1348077612847190288:=()
def tw17280481622421664209:=()
def tw8423259908909501645:=()
def tw4308849304041691000:=()
def tw1242199196004677672:=()
def tw2194680765687068186:=()
def tw3482531505171886280:=()
def tw15748036992194424579:=()
def tw8191148391773678370:=()
def tw17627910056257831658:=()
def tw4440649627566841759:=()
def tw967003365613036667:=()
def tw5674169724604465652:=()
def tw6774231477440015441:=()
def tw4895205629553945232:=()
def tw8440771754776329173:=()
def tw5218519559235411709:=()
def tw8076752734754128527:=()
def tw2795930219809922928:=()
def tw15443281491590733615:=()
def tw13666013374378295213:=()
def tw11365995809644557786:=()
def tw12932395924447777009:=()
def tw2843187862635253098:=()
def tw3324740401318057582:=()
def tw8077691870004267771:=()
def tw8176345751570839651:=()
def tw1507781572610668029:=()
def tw4304042823041110023:=()
def tw12885924806592962283:=()
def tw14946040746988013514:=()
def tw6513465682026612717:=()
def tw14659158592929293708:=()
def tw12676250758252199788:=()
def tw16086158840372277747:=()
def tw5882253844141467944:=()
def tw10378831540483743821:=()
def tw7303919156215506830:=()
def tw8884792655469671312:=()
def tw16696467932142679957:=()
def tw17120026819360437420:=()
def tw8179352068687521798:=()
def tw14225660222193466147:=()
def tw6693259959285275788:=()
def tw13931792423789199257:=()
def tw11604219853519582770:=()
def tw5431344244259199619:=()
def tw1704013367815617001:=()
def tw14889004420616969625:=()
def tw13719865787465152009:=()
def tw12407455927974101373:=()
def tw1157021301473823920:=()
def tw9887582789009756301:=()
def tw10330111738731344697:=()
def tw11981246100902497104:=()
def tw13854888977267877339:=()
def tw9775760473626806459:=()
def tw7556250752911664361:=()
def tw17992401267720469055:=()
def tw18254720186433659100:=()
def tw1491392486957669729:=()
def tw5509952461824052658:=()
def tw9191922596051340329:=()
def tw839805242257949015:=()
def tw2395904193891076239:=()
def tw18269845062741859451:=()
def tw391001422926502744:=()
def tw4470214382645087751:=()
def tw9941301661787821788:=()
def tw17882954878860117462:=()
def tw7718520252828416327:=()
def tw9135321321551383970:=()
def tw5052075150464482516:=()
def tw9146649528839241379:=()
def tw347102770524544575:=()
def tw8950623819497555457:=()
def tw9966854261068425754:=()
def tw11904083481526564088:=()
def tw14840651851615847634:=()
def tw12228419413120677578:=()
def tw6007724841770245103:=()
def tw10126846732640008007:=()
def tw1269172005574984682:=()
def tw11024483946816890319:=()
def tw5315348474727311913:=()
def tw627073095970990254:=()
def tw4739388923564005592:=()
def tw13483687331681919041:=()
def tw11458922881042269734:=()
def tw854208021958801276:=()
def tw14218510652636567320:=()
def tw8283621769148172724:=()
def tw4761676029445652669:=()
def tw6772347087283591673:=()
def tw6492088046498013047:=()
def tw15285404449859727154:=()
def tw182201722386575029:=()
def tw7431673536833684366:=()
def tw7673869928467841042:=()
def tw5326418545964035531:=()
def tw3437624346381776590:=()
def tw6553010309063222561:=()
def tw5817939167935894830:=()
def tw8447053505396666018:=()
def tw1083551602222904655:=()
def tw3573221754234073851:=()
def tw3316110066871045470:=()
def tw13062852450955970098:=()
def tw2434053359535338542:=()
def tw12884882252235131483:=()
def tw9926247557978118700:=()
def tw4402003590778088330:=()
def tw12191018958395881924:=()
def tw5821351455903551403:=()
def tw13550195894289122282:=()
def tw4657012885445724382:=()
def tw14417443982706677818:=()
def tw4984133588786118954:=()
def tw5545132206328012644:=()
def tw7544272795169894394:=()
def tw7108577244349896193:=()
def tw4743175027347299231:=()
def tw4241840038852454541:=()
def tw13186538866106104143:=()
def tw9903044840156097811:=()
def tw1812695119483336762:=()
def tw16778954382293083458:=()
def tw12825808706595719148:=()
def tw12524345175373468275:=()
def tw1656853884957349399:=()
def tw17030695110886099186:=()
def tw3091947979887442158:=()
def tw1776759985016400590:=()
def tw18226144737039796324:=()
def tw34672471819003094:=()
def tw16755540960755955521:=()
def tw11720399162481676652:=()
def tw2273928498809432952:=()
def tw2735462105069746236:=()
def tw16475487501846773468:=()
def tw15243864295048722064:=()
def tw17107133248019983241:=()
def tw7998879577126743579:=()
def tw13527272921985115219:=()
def tw6514715460787879233:=()
def tw6311153616396837079:=()
def tw3934873097058296156:=()
def tw14183900890019732149:=()
def tw16088463909681897741:=()
def tw5230074684669905562:=()
def tw13814524855927044200:=()
def tw18162554238484930048:=()
def tw4868744216334029795:=()
def tw17080210357729605833:=()
def tw7122899976174993325:=()
def tw14702027846967335115:=()
def tw12109174760858107740:=()
def tw2755124323248763113:=()
def tw9177106423458099920:=()
def tw7981583247627495267:=()
def tw1998076412730098764:=()
def tw10514459383129611971:=()
def tw15055246523183513507:=()
def tw8367068602541578268:=()
def tw14349449573572048521:=()
def tw435590603352546842:=()
def tw12411950804477124722:=()
def tw14138531761721017690:=()
def tw17719529744604356936:=()
def tw3394585738754623142:=()
def tw9713853972632667488:=()
def tw7891388979583346727:=()
def tw12994379737400638447:=()
def tw18394246058998716169:=()
def tw16428221644485692723:=()
def tw18127277276963870929:=()
def tw3248977882982472406:=()
def tw5246010444124104626:=()
def tw11767655609940783360:=()
def tw4055649874451413961:=()
def tw5145926744977580643:=()
def tw6644759279210851231:=()
def tw7125786760666728183:=()
def tw17708512698426999773:=()
def tw11426672416044621269:=()
def tw6245086912021451789:=()
def tw16108310466480802872:=()
def tw8278768240959750976:=()
def tw1251535785024167177:=()
def tw3357551687294134835:=()
def tw4873520506061835221:=()
def tw12266220290530139615:=()
def tw2754475104180013174:=()
def tw16920583761494162246:=()
def tw11050925842595549662:=()
def tw13147917066539991428:=()
def tw14082655032617424451:=()
def tw15800433132437380679:=()
def tw7835542881697880266:=()
def tw4980559818653052655:=()
def tw10420454020722632090:=()
def tw6720554879810808943:=()
def tw13010859718284832565:=()
def tw10664157145382691554:=()
def tw11694898170201036746:=()
def tw8442297132381768457:=()
def tw14738280645770928328:=()
def tw14401053800243518146:=()
def tw11600010606950655798:=()
def tw11571520355955101052:=()
def tw8879989298626727920:=()
def tw948868528008233703:=()
def tw17600906437353464050:=()
def tw17715626163733364927:=()
def tw10409335944511568196:=()
def tw11189380654653554309:=()
def tw10733486879729266381:=()
def tw12645311742580039267:=()
def tw17583331315407803785:=()
def tw8782633463246843699:=()
def tw5508643677524123654:=()
def tw2908196514881081834:=()
def tw9818483250686406239:=()
def tw1272012493000186860:=()
def tw6234969738401315171:=()
def tw5578011830871418516:=()
def tw503118061928989619:=()
def tw16934348762697025296:=()
def tw16571435871820145753:=()
def tw17448299607410357160:=()
def tw7108541634496459354:=()
def tw6519955159729014664:=()
def tw7296281442779224774:=()
def tw12854576183396072476:=()
def tw8527834091976113333:=()
def tw3881841366227010309:=()
def tw10409397816927250004:=()
def tw11390408572905353128:=()
def tw6033130131517729340:=()
def tw2704849634350213972:=()
def tw14696965081049055993:=()
def tw7857385503669830339:=()
def tw17217685137511526578:=()
def tw15634221360410740026:=()
def tw9808636239151748954:=()
def tw4697138279240461947:=()
def tw2315832884323865079:=()
def tw9871889432228426071:=()
def tw13445475411901607941:=()
def tw15508661160714408595:=()
def tw3206946083154412074:=()
def tw13938561067964558449:=()
def tw12569882643828897635:=()
def tw8178921128192825320:=()
def tw11540231059299181088:=()
def tw16804551026061523779:=()
def tw3574236295257035829:=()
def tw1287976398521751266:=()
def tw13479988015644015180:=()
def tw5070085368280295597:=()
def tw9084104617086282692:=()
def tw12204713528080489448:=()
def tw13558388172846006285:=()
def tw1341154358651660861:=()
def tw2932032685122605058:=()
def tw4280306707487553965:=()
def tw16981570945209707656:=()
def tw10344054252736424763:=()
def tw9951908913732888370:=()
def tw662062719043743269:=()
def tw11932648888257420158:=()
def tw7550927750308657012:=()
def tw493779852366433966:=()
def tw10357082010882589920:=()
def tw11778866198310625847:=()
def tw1630435833004196763:=()
def tw10819670949503843000:=()
def tw332993523794988529:=()
def tw14837241336580849096:=()
def tw18251093994788425466:=()
def tw8319953260642372616:=()
def tw6815441737473720245:=()
def tw6510816322939197451:=()
def tw10140034125486133975:=()
def tw17119266171092178143:=()
def tw2028747626092904431:=()
def tw17136585155972429260:=()
def tw6513984803349600433:=()
def tw7331710170401367374:=()
def tw6845002922033551317:=()
def tw7847599553995037032:=()
def tw1445557234909417930:=()
def tw8841498549752170119:=()
def tw4653734043953911228:=()
def tw12374191125049398803:=()
def tw12503375444772498171:=()
def tw15762309306152393850:=()
def tw5390244372801010836:=()
def tw17702940181419708038:=()
def tw5680033895933723679:=()
def tw13475349683341123689:=()
def tw5308344834702978706:=()
def tw12076429544840806854:=()
def tw16217283334356878397:=()
def tw8953006480188109544:=()
def tw14506096935091985755:=()
def tw7539463481710563877:=()
def tw17777630041284178879:=()
def tw12925206707861961554:=()
def tw11159454789528677478:=()
def tw3903052977702230491:=()
def tw6823345478419500322:=()
def tw13118043456493015931:=()
def tw7351909452033113076:=()
def tw3129797069614055092:=()
def tw7207038421386462233:=()
def tw2657444123559118333:=()
def tw13025739051643300263:=()
def tw12245504898198965419:=()
def tw13051822703259309518:=()
def tw11272264681726328282:=()
def tw12085609210482935262:=()
def tw17047610592861145025:=()
def tw16464501352030192164:=()
def tw3363170222746337670:=()
def tw16764478797486296181:=()
def tw6085524694353633703:=()
def tw8817994197322157402:=()
def tw5842419998449513408:=()
def tw14132326396427145277:=()
def tw13239697352566606362:=()
def tw9044005855395322128:=()
def tw7281568569248020944:=()
def tw15210691471860334463:=()
def tw15863513033697269871:=()
def tw4828668350833116389:=()
def tw10189722612558616988:=()
def tw6996266250452732935:=()
def tw10831700540254355651:=()
def tw5036466907034127377:=()
def tw11508512095644218329:=()
def tw725003927475948506:=()
def tw37216344244520607:=()
def tw16759232554533368572:=()
def tw16784203485097207034:=()
def tw17622557422386529549:=()
def tw13902789911841834454:=()
def tw16550278279994120942:=()
def tw14288301341707516509:=()
def tw16973635320437169581:=()
def tw5027471352780021007:=()
def tw11130778693672023088:=()
def tw11379144746725977365:=()
def tw13829829385155527309:=()
def tw12649144417658202367:=()
def tw12746019666430477299:=()
def tw11046646967971274323:=()
def tw4729930294468581699:=()
def tw9430066746712643233:=()
def tw13458790060725470963:=()
def tw1513498554414716799:=()
def tw14446394798163824378:=()
def tw14936820396418636404:=()
def tw3369247721422947901:=()
def tw14064380748258255668:=()
def tw13385521104426395883:=()
def tw11921515587008946370:=()
def tw5937113522726163511:=()
def tw9627487154100568604:=()
def tw9510917200008560038:=()
def tw2867398885289492544:=()
def tw2658756038680751531:=()
def tw6020371364166723925:=()
end PySem.W.Fast
open PySem PySem.W PyProof.Rows
set_option maxRecDepth 100000 in
set_option maxHeartbeats 0 in
theorem PySem.Challenge.cw_slotbook_k64_whole_strict_walks_holds : PySem.Challenge.rw_slotbook_k64_whole_strict_walks.Holds := by
 w_on;o_law;k_head;(case hw=>w_witness2)
 k_fill
 refine My.zNL (l:=PySem.Challenge.rw_slotbook_k64_whole_strict_walks) rfl rfl (fun w h Y=>PySem.W.kIn_of Y) ?F
 case F =>
  intro w mg fa h KX G hmg
  refine' My.zLS KX G hmg (My.zLc KX G ?aC_Walk ?aC_Shelf ?aC_Table (.mk (.mk ?l0 ?c0 ?k0) ?a0) (.mk (.mk ?l1 ?c1 ?k1) ?a1) (.mk (.mk ?l2 ?c2 ?k2) ?a2) (.mk (.mk ?l3 ?c3 ?k3) ?a3) (.mk (.mk ?l4 ?c4 ?k4) ?a4) (.mk (.mk ?l5 ?c5 ?k5) ?a5) (.mk (.mk ?l6 ?c6 ?k6) ?a6) (.mk (.mk ?l7 ?c7 ?k7) ?a7) (.mk (.mk ?l8 ?c8 ?k8) ?a8) (.mk (.mk ?l9 ?c9 ?k9) ?a9) (.mk (.mk ?l10 ?c10 ?k10) ?a10) (.mk (.mk ?l11 ?c11 ?k11) ?a11) (.mk (.mk ?l12 ?c12 ?k12) ?a12) (.mk (.mk ?l13 ?c13 ?k13) ?a13) (.mk (.mk ?l14 ?c14 ?k14) ?a14) (.mk (.mk ?l15 ?c15 ?k15) ?a15) (.mk (.mk ?l16 ?c16 ?k16) ?a16) (.mk (.mk ?l17 ?c17 ?k17) ?a17) (.mk (.mk ?l18 ?c18 ?k18) ?a18) ?rd19 ?sg19 ?fc19 (.mk (.mk ?l19 ?c19 ?k19) ?a19 ?i19) ?L19 (.mk (.mk (.mk ?l20 ?c20 ?k20) ?a20 ?i20) ?e20) (.mk (.mk (.mk ?l21 ?c21 ?k21) ?a21 ?i21) ?e21) (.mk (.mk (.mk ?l22 ?c22 ?k22) ?a22 ?i22) ?e22) (.mk (.mk (.mk ?l23 ?c23 ?k23) ?a23 ?i23) ?e23) (.mk (.mk (.mk ?l24 ?c24 ?k24) ?a24 ?i24) ?e24) (.mk (.mk (.mk ?l25 ?c25 ?k25) ?a25 ?i25) ?e25) (.mk (.mk (.mk ?l26 ?c26 ?k26) ?a26 ?i26) ?e26) (.mk (.mk (.mk ?l27 ?c27 ?k27) ?a27 ?i27) ?e27) (.mk (.mk (.mk ?l28 ?c28 ?k28) ?a28 ?i28) ?e28) (.mk (.mk (.mk ?l29 ?c29 ?k29) ?a29 ?i29) ?e29) (.mk (.mk (.mk ?l30 ?c30 ?k30) ?a30 ?i30) ?e30) (.mk (.mk (.mk ?l31 ?c31 ?k31) ?a31 ?i31) ?e31) (.mk (.mk (.mk ?l32 ?c32 ?k32) ?a32 ?i32) ?e32) (.mk (.mk (.mk ?l33 ?c33 ?k33) ?a33 ?i33) ?e33) (.mk (.mk (.mk ?l34 ?c34 ?k34) ?a34 ?i34) ?e34) (.mk (.mk ?l35 ?c35 ?k35) ?a35 ?i35) (.mk (.mk ?l36 ?c36 ?k36) ?a36 ?i36) (.mk (.mk ?l37 ?c37 ?k37) ?a37 ?i37) (.mk (.mk ?l38 ?c38 ?k38) ?a38 ?i38) (.mk (.mk ?l39 ?c39 ?k39) ?a39 ?i39) (.mk (.mk ?l40 ?c40 ?k40) ?a40 ?i40) ?L40 (.mk (.mk ?l41 ?c41 ?k41) ?a41 ?i41) (.mk (.mk ?l42 ?c42 ?k42) ?a42 ?i42) (.mk (.mk ?l43 ?c43 ?k43) ?a43 ?i43) (.mk (.mk ?l44 ?c44 ?k44) ?a44) (.mk (.mk ?l45 ?c45 ?k45) ?a45) (.mk (.mk ?l46 ?c46 ?k46) ?a46) (.mk (.mk ?l47 ?c47 ?k47) ?a47) (.mk (.mk ?l48 ?c48 ?k48) ?a48) (.mk (.mk ?l49 ?c49 ?k49) ?a49) (.mk (.mk ?l50 ?c50 ?k50) ?a50) (.mk (.mk ?l51 ?c51 ?k51) ?a51) (.mk (.mk ?l52 ?c52 ?k52) ?a52) (.mk (.mk ?l53 ?c53 ?k53) ?a53) (.mk (.mk ?l54 ?c54 ?k54) ?a54) (.mk (.mk ?l55 ?c55 ?k55) ?a55) (.mk (.mk ?l56 ?c56 ?k56) ?a56) (.mk (.mk ?l57 ?c57 ?k57) ?a57) (.mk (.mk ?l58 ?c58 ?k58) ?a58) (.mk (.mk ?l59 ?c59 ?k59) ?a59) ?y_paper_slots ?pg_Walk ?hd_Walk ?po_Walk ?sa_Walk ?mk_Walk ?kc_Walk ?n_Walk_back ?n_Walk_book ?n_Walk_changes ?n_Walk_last ?n_Walk_over ?n_Walk_strict ?pg_Shelf ?hd_Shelf ?po_Shelf ?sa_Shelf ?mk_Shelf ?kc_Shelf ?n_Hcame ?n_Hcells ?n_Hcomings ?n_Hheld ?n_Hmoved ?n_Hrow ?n_Hsize ?n_Htidyings ?n_Hwent ?pg_Table ?hd_Table ?po_Table ?sa_Table ?mk_Table ?kc_Table ?n_Tcame ?n_Tcells ?n_Tcomings ?n_Theld ?n_Tmoved ?n_Trow ?n_Tsize ?n_Ttidyings ?n_Twent ?z_ValueError ?z_all ?z_bool ?z_enumerate ?z_int ?z_isinstance ?z_len ?z_list ?z_ord ?z_range ?z_reversed ?z_str ?z_tuple ?z_zip ?v_DEEPEST ?v_EMPTY ?v_GONE ?v_GREATEST ?v_LEAST ?v_MOST_PARTS ?v_MOST_SIGNS ?v_TURN ?g_BookError ?o_BookError ?e_BookError ?y_BookError ?mo_BookError ?g_NoKey ?o_NoKey ?e_NoKey ?y_NoKey ?mo_NoKey ?g_NoSize ?y_NoSize ?mo_NoSize ?g_Full ?o_Full ?e_Full ?y_Full ?mo_Full ?g_Lacking ?o_Lacking ?e_Lacking ?y_Lacking ?mo_Lacking ?g_Broken ?o_Broken ?e_Broken ?y_Broken ?mo_Broken ?g_NoText ?y_NoText ?mo_NoText ?g_NoDeed ?y_NoDeed ?mo_NoDeed ?g_NoName ?y_NoName ?mo_NoName ?g_Twice ?y_Twice ?mo_Twice ?su_NoKey_BookError ?su_Full_Full ?su_Lacking_BookError ?ga_Broken ?gh_Broken ?fc_Broken ?sg_Broken ?tk_Broken ?mb_Broken ?vt_Broken ?su_Broken_BookError ?su_Broken_NoKey ?su_Broken_NoSize ?su_Broken_Full ?su_Broken_Lacking ?su_Broken_Broken ?su_Broken_NoText ?su_Broken_NoDeed ?su_Broken_NoName ?su_Broken_Twice)
  case aC_Walk | aC_Shelf | aC_Table | a0 | a1 | a2 | a3 | a4 | a5 | a6 | a7 | a8 | a9 | a10 | a11 | a12 | a13 | a14 | a15 | a16 | a17 | a18 | a19 | a20 | a21 | a22 | a23 | a24 | a25 | a26 | a27 | a28 | a29 | a30 | a31 | a32 | a33 | a34 | a35 | a36 | a37 | a38 | a39 | a40 | a41 | a42 | a43 | a44 | a45 | a46 | a47 | a48 | a49 | a50 | a51 | a52 | a53 | a54 | a55 | a56 | a57 | a58 | a59 | l0 | c0 | k0 | l1 | c1 | k1 | l2 | c2 | k2 | l3 | c3 | k3 | l4 | c4 | k4 | l5 | c5 | k5 | l6 | c6 | k6 | l7 | c7 | k7 | l8 | c8 | k8 | l9 | c9 | k9 | l10 | c10 | k10 | l11 | c11 | k11 | l12 | c12 | k12 | l13 | c13 | k13 | l14 | c14 | k14 | l15 | c15 | k15 | l16 | c16 | k16 | l17 | c17 | k17 | l18 | c18 | k18 | rd19 | sg19 | fc19 | i19 | l19 | c19 | k19 | L19 | i20 | e20 | l20 | c20 | k20 | i21 | e21 | l21 | c21 | k21 | i22 | e22 | l22 | c22 | k22 | i23 | e23 | l23 | c23 | k23 | i24 | e24 | l24 | c24 | k24 | i25 | e25 | l25 | c25 | k25 | i26 | e26 | l26 | c26 | k26 | i27 | e27 | l27 | c27 | k27 | i28 | e28 | l28 | c28 | k28 | i29 | e29 | l29 | c29 | k29 | i30 | e30 | l30 | c30 | k30 | i31 | e31 | l31 | c31 | k31 | i32 | e32 | l32 | c32 | k32 | i33 | e33 | l33 | c33 | k33 | i34 | e34 | l34 | c34 | k34 | i35 | l35 | c35 | k35 | i36 | l36 | c36 | k36 | i37 | l37 | c37 | k37 | i38 | l38 | c38 | k38 | i39 | l39 | c39 | k39 | i40 | l40 | c40 | k40 | L40 | i41 | l41 | c41 | k41 | i42 | l42 | c42 | k42 | i43 | l43 | c43 | k43 | l44 | c44 | k44 | l45 | c45 | k45 | l46 | c46 | k46 | l47 | c47 | k47 | l48 | c48 | k48 | l49 | c49 | k49 | l50 | c50 | k50 | l51 | c51 | k51 | l52 | c52 | k52 | l53 | c53 | k53 | l54 | c54 | k54 | l55 | c55 | k55 | l56 | c56 | k56 | l57 | c57 | k57 | l58 | c58 | k58 | l59 | c59 | k59 | y_paper_slots | pg_Walk | hd_Walk | po_Walk | sa_Walk | mk_Walk | kc_Walk | n_Walk_back | n_Walk_book | n_Walk_changes | n_Walk_last | n_Walk_over | n_Walk_strict | pg_Shelf | hd_Shelf | po_Shelf | sa_Shelf | mk_Shelf | kc_Shelf | n_Hcame | n_Hcells | n_Hcomings | n_Hheld | n_Hmoved | n_Hrow | n_Hsize | n_Htidyings | n_Hwent | pg_Table | hd_Table | po_Table | sa_Table | mk_Table | kc_Table | n_Tcame | n_Tcells | n_Tcomings | n_Theld | n_Tmoved | n_Trow | n_Tsize | n_Ttidyings | n_Twent | z_ValueError | z_all | z_bool | z_enumerate | z_int | z_isinstance | z_len | z_list | z_ord | z_range | z_reversed | z_str | z_tuple | z_zip | v_DEEPEST | v_EMPTY | v_GONE | v_GREATEST | v_LEAST | v_MOST_PARTS | v_MOST_SIGNS | v_TURN | g_BookError | o_BookError=>k_is
  case e_BookError=>k_exc
  case y_BookError | mo_BookError | g_NoKey | o_NoKey=>k_is
  case e_NoKey=>k_exc
  case y_NoKey | mo_NoKey | g_NoSize | y_NoSize | mo_NoSize | g_Full | o_Full=>k_is
  case e_Full=>k_exc
  case y_Full | mo_Full | g_Lacking | o_Lacking=>k_is
  case e_Lacking=>k_exc
  case y_Lacking | mo_Lacking | g_Broken | o_Broken=>k_is
  case e_Broken=>k_exc
  case y_Broken | mo_Broken | g_NoText | y_NoText | mo_NoText | g_NoDeed | y_NoDeed | mo_NoDeed | g_NoName | y_NoName | mo_NoName | g_Twice | y_Twice | mo_Twice | su_NoKey_BookError | su_Full_Full | su_Lacking_BookError | ga_Broken | gh_Broken | fc_Broken | sg_Broken | tk_Broken | mb_Broken | vt_Broken | su_Broken_BookError | su_Broken_NoKey | su_Broken_NoSize | su_Broken_Full | su_Broken_Lacking | su_Broken_Broken | su_Broken_NoText | su_Broken_NoDeed | su_Broken_NoName | su_Broken_Twice=>k_is
