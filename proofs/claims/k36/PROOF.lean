import PyProof.Rows.All
import Wide.All
import OpenK.AllK
import Wide.FinOn
import Lean
import PyProof.EqAt
import PyProof.EqKinds
import PyProof.TupleCall
import KE.IntBitsLaws
import OpenK.ZGo
import PySem.SetOps
import PyProof.ZipIter
import PyProof.Rows.SortShell
import KE.KSortedM
import PySem.Challenge.RW_slotbook_k36_whole_form_is_enough
set_option linter.all false
set_option Elab.async false
set_option maxRecDepth 100000
set_option maxHeartbeats 4000000
namespace PySem
theorem Runs.toks {M:Model} {Γ:Ctx} {p:Pos} {t:Sem Fin} {fs:List Frame} {s:Shared} {e:End} {s':Shared} (h:Runs M Γ p t fs s e s'):s.toks<=s'.toks:=by
 induction h <;> first
  | exact Nat.le_refl _
  | assumption
  | (rename_i ih;exact Nat.le_of_succ_le ih)
  | (rename_i ih1 ih2;exact Nat.le_trans ih1 ih2)
theorem Wakes.toks {M:Model} {Γ:Ctx} {p:Pos} {g:Nat} {r:Resume} {s:Shared} {res:GenResult} {s':Shared} (h:Wakes M Γ p g r s res s'):s.toks<=s'.toks:=by
 unfold Wakes at h
 split at h
 ·exact h.elim
 ·split at h
  ·obtain⟨e₁,s₁,hr,_,_,rfl⟩:=h
   exact hr.toks
  ·obtain⟨_,rfl⟩:=h
   exact Nat.le_refl _
  ·obtain⟨_,rfl⟩:=h
   exact Nat.le_refl _
 ·obtain⟨e₁,s₁,hr,_,_,rfl⟩:=h
  exact hr.toks
 ·obtain⟨_,rfl⟩:=h
  exact Nat.le_refl _
 ·obtain⟨_,rfl⟩:=h
  exact Nat.le_refl _
theorem zFR {α:Type} {M:Model} {Γ:Ctx} (n:Nat) (t:Sem α) {Q:α->Pos->Shared->Prop} {E:Value->Pos->Shared->Prop}:∀ {p:Pos} {s:Shared},n<=s.toks->Sem.wp M Γ t (fun a p s=>n<=s.toks->Q a p s) (fun e p s=>n<=s.toks->E e p s) p s->Sem.wp M Γ t Q E p s:=by
 induction t with
 | pure a=>intro p s hn h;exact h hn
 | raise e=>intro p s hn h;exact h hn
 | unsupported w=>intro p s hn h;exact h
 | finish e=>intro p s hn h;exact h
 | rule t k ih=>intro p s hn h;exact ih () hn h
 | «at» q k ih=>intro p s hn h;exact ih () hn h
 | load a pt k ih=>intro p s hn h;obtain⟨o,ho,h⟩:=h;exact⟨o,ho,ih o hn h⟩
 | update a pt f k ih=>intro p s hn h;exact⟨h.1,ih () (s:={ s with heap:=s.heap.update a f }) hn h.2⟩
 | alloc o k ih=>intro p s hn h;exact ih _ (s:={ s with heap:=s.heap.push o }) hn h
 | loadIfAlive a k ih=>intro p s hn h;exact ih _ hn h
 | point l k ih=>intro p s hn h;exact ih () hn h
 | register a k ih=>intro p s hn h;exact h
 | fresh k ih=>intro p s hn h;exact ih _ (s:={ s with toks:=s.toks+1 }) (Nat.le_succ_of_le hn) h
 | ask k ih=>intro p s hn h;exact ih _ hn h
 | choose src m k ih=>intro p s hn h;exact⟨h.1,ih _ (s:={ s with drawn:=s.drawn.bump src }) hn h.2⟩
 | os q l k ih=>intro p s hn h;exact ih _ (s:={ s with os:=(Os.step s.os q).1 }) hn h
 | call c hd g l k ih=>intro p s hn h;obtain⟨r,s',hr,h⟩:=h;exact⟨r,s',hr,ih r (Nat.le_trans hn hr.toks) h⟩
 | handled o k ih=>intro p s hn h;exact ih _ hn h
 | newGen c k ih=>intro p s hn h;exact ih _ (s:={ s with gens:=s.gens.push (.fresh c) }) hn h
 | genState g k ih=>intro p s hn h;obtain⟨st,hst,h⟩:=h;exact⟨st,hst,ih _ hn h⟩
 | resume g r l k ih=>intro p s hn h;obtain⟨res,s',hw,h⟩:=h;exact⟨res,s',hw,ih _ (Nat.le_trans hn hw.toks) h⟩
 | yield v g l k ih=>intro p s hn h;exact h
 | stack k ih=>intro p s hn h;exact ih _ hn h
 | fork c k ih=>intro p s hn h;exact h
 | thread k ih=>intro p s hn h;exact ih _ hn h
 | await a tk d l k ih=>intro p s hn h;exact h
theorem zCM {α:Type} {M:Model} {A:Around} {t:Sem α} {Q:α->Shared->Prop} {E:Value->Shared->Prop} {s:Shared} (h:wpAny M A t (fun a s'=>s.toks<=s'.toks->Q a s') (fun e s'=>s.toks<=s'.toks->E e s') s):wpAny M A t Q E s :=
 fun Γ p hΓ=>zFR s.toks t (Nat.le_refl _) (h Γ p hΓ)
end PySem
namespace L2
open PySem PySem.Spec PyProof.Rows
abbrev Key:=Sum Int Str
def zGO:Key->Value->Bool
 | .inl k,v=>Value.isInt k v
 | .inr x,v=>Value.isStrOf x v
def zIG (w:World):Key->Int
 | .inl k=>hashInt k
 | .inr x=>hashStr w x
theorem Qk:∀ {k:Key} {v:Value},zGO k v=true->(∃ i t,k=Sum.inl i/\v=Value.int i t)\/(∃ x t,k=Sum.inr x/\v=Value.str x t)
 | .inl i,v,h=>by
  obtain⟨t,e⟩:=Value.isInt_shape (k:=i) (v:=v) h
  exact .inl ⟨i,t,rfl,e⟩
 | .inr x,v,h=>by
  obtain⟨t,e⟩:=Value.isStrOf_shape (x:=x) (v:=v) h
  exact .inr ⟨x,t,rfl,e⟩
theorem zGr (a b:Int):decide ((Sum.inl a:Key)=Sum.inl b)=(a == b):=by
 by_cases e:a=b
 ·subst e;simp
 ·have h:¬ (Sum.inl a:Key)=Sum.inl b:=fun q=>e (Sum.inl.inj q)
  rw[decide_eq_false h]
  exact (beq_eq_false_iff_ne.mpr e).symm
theorem zG9 (a b:Str):decide ((Sum.inr a:Key)=Sum.inr b)=decide (a=b):=by
 by_cases e:a=b
 ·subst e;simp
 ·have h:¬ (Sum.inr a:Key)=Sum.inr b:=fun q=>e (Sum.inr.inj q)
  rw[decide_eq_false h,decide_eq_false e]
theorem zGk (a:Int) (b:Str):decide ((Sum.inl a:Key)=Sum.inr b)=false:=decide_eq_false (fun q=>nomatch q)
theorem zGa (a:Str) (b:Int):decide ((Sum.inr a:Key)=Sum.inl b)=false:=decide_eq_false (fun q=>nomatch q)
def zC0 (prog:Program) (w:World):PySem.KeyKind prog w Key where
 is:=zGO
 hash:=zIG w
 inj:=fun v a b ha hb=>by
  rcases Qk ha with ⟨i,t,rfl,rfl⟩ | ⟨x,t,rfl,rfl⟩
  ·rcases Qk hb with ⟨j,u,rfl,e⟩ | ⟨y,u,rfl,e⟩
   ·injection e with e1 _;rw[e1]
   ·exact nomatch e
  ·rcases Qk hb with ⟨j,u,rfl,e⟩ | ⟨y,u,rfl,e⟩
   ·exact nomatch e
   ·injection e with e1 _;rw[e1]
 byValue:=fun k v h=>by
  rcases Qk h with ⟨i,t,rfl,rfl⟩ | ⟨x,t,rfl,rfl⟩ <;> rfl
 pyHash:=fun hv h=>by
  rcases Qk hv with ⟨i,t,rfl,rfl⟩ | ⟨x,t,rfl,rfl⟩
  ·exact wpAny_pyHash_int h
  ·exact wpAny_pyHash_str h
 eqBool:=fun hu hv h=>by
  rcases Qk hu with ⟨i,t,rfl,rfl⟩ | ⟨x,t,rfl,rfl⟩
  ·rcases Qk hv with ⟨j,u,rfl,rfl⟩ | ⟨y,u,rfl,rfl⟩
   ·rw[zGr] at h;exact wpAny_eqBool_int h
   ·rw[zGk] at h;exact SeqAt.EqAt.int_str i t y u _ _ _ _ h
  ·rcases Qk hv with ⟨j,u,rfl,rfl⟩ | ⟨y,u,rfl,rfl⟩
   ·rw[zGa] at h;exact SeqAt.EqAt.str_int x t j u _ _ _ _ h
   ·rw[zG9] at h;exact wpAny_eqBool_str h
 «strs»:=fun k x t v h=>by
  rcases Qk h with ⟨i,u,rfl,e⟩ | ⟨y,u,rfl,e⟩
  ·exact nomatch e
  ·injection e with e1 _
   subst e1
   cases v <;> rfl
end L2
namespace L2
open PySem PySem.Spec PyProof.Rows
inductive V where
 | non | bl (b:Bool) | int (i:Int) | str (x:Str) | byt (b:Array UInt8) | flt (b:UInt64) | ref (a:Addr) | ty (n:String)
 deriving DecidableEq
def RelV:V->Value->Prop
 | .non,u=>u=Value.none
 | .bl b,u=>u=Value.bool b
 | .int i,u=>∃ t,u=Value.int i (t+1)
 | .str x,u=>∃ t,u=Value.str x (t+1)
 | .byt b,u=>∃ t,u=Value.bytes b t
 | .flt b,u=>∃ t,u=Value.float b t
 | .ref a,u=>u=Value.ref a
 | .ty n,u=>u=Value.type n
abbrev Vals:List V->List Value->Prop:=Paired RelV
theorem Vals.length {xs:List V} {us:List Value} (r:Vals xs us):xs.length=us.length:=Paired.length r
theorem Vals.get:∀ {xs:List V} {us:List Value} {i:Nat} {x:V},Vals xs us->xs[i]? = some x->∃ u,us[i]? = some u/\RelV x u
 | _,_,_,_,.nil,e=>by simp at e
 | _,_,0,_,.cons r _,e=>by simp at e;subst e;exact⟨_,rfl,r⟩
 | _,_,i+1,x,.cons _ t,e=>by
  obtain⟨u,h1,h2⟩:=Vals.get (i:=i) (x:=x) t (by simpa using e)
  exact⟨u,by simpa using h1,h2⟩
theorem Vals.set {x:V} {u:Value} (r:RelV x u):∀ {xs:List V} {us:List Value} (i:Nat),Vals xs us->Vals (xs.set i x) (us.set i u)
 | _,_,_,.nil=>.nil
 | _,_,0,.cons _ t=>.cons r t
 | _,_,i+1,.cons q t=>.cons q (Vals.set r i t)
theorem Vals.append:∀ {xs ys:List V} {us ws:List Value},Vals xs us->Vals ys ws->Vals (xs++ys) (us++ws)
 | _,_,_,_,.nil,s=>s
 | _,_,_,_,.cons r t,s=>.cons r (Vals.append t s)
theorem Vals.take:∀ {xs:List V} {us:List Value} (n:Nat),Vals xs us->Vals (xs.take n) (us.take n)
 | _,_,0,_=>.nil
 | _,_,_+1,.nil=>.nil
 | _,_,n+1,.cons r t=>.cons r (Vals.take n t)
theorem Vals.drop:∀ {xs:List V} {us:List Value} (n:Nat),Vals xs us->Vals (xs.drop n) (us.drop n)
 | _,_,0,r=>r
 | _,_,_+1,.nil=>.nil
 | _,_,n+1,.cons _ t=>Vals.drop n t
def zG1:Option V->Option Value->Prop
 | some v,some u=>RelV v u
 | none,none=>True
 | _,_=>False
def KV {κ:Type}:List (κ × V)->List (κ × Value)->Prop:=Paired fun (p:κ × V) (q:κ × Value)=>p.1=q.1/\RelV p.2 q.2
def kV:Key->V
 | .inl i=>.int i
 | .inr x=>.str x
inductive HO where
 | lst (xs:List V)
 | tup (xs:List V)
 | dK (kvs:List (Key × V)) | dT (kvs:List (List Key × V))
 | set (S:Int->Bool) (n:Nat)
 | ins (C dx:Addr) (fs:List (Str × V))
 | own (x:Addr)
 | xd (fs:List (Str × V))
 | met (f x:Addr)
 | rng (lo hi:Int)
 | frz (o:Obj) (u:HO)
 | tbl (ps:Array Value)
 | ext (φ:Heap->Prop)
abbrev Hp:=Addr->Option HO
def upd (H:Hp) (a:Addr) (o:HO):Hp:=fun b=>if b=a then some o else H b
theorem QH {H:Hp} {a:Addr} {o:HO}:upd H a o a=some o:=by unfold upd;rw[if_pos rfl]
theorem QQ {H:Hp} {a b:Addr} {o:HO} (h:b ≠ a):upd H a o b=H b:=by unfold upd;rw[if_neg h]
theorem zCv {H:Hp} {a:Addr} {o u:HO}:upd (upd H a o) a u=upd H a u:=by
 funext b;unfold upd;split <;> rfl
theorem zHa {H:Hp} {a b:Addr} {o u:HO} (h:H a=some o) (h':H b=some u) (d:o ≠ u):a ≠ b:=by
 intro e;subst e;rw[h] at h';exact d (Option.some.inj h')
theorem QO {H:Hp} {a b:Addr} {o:HO} (h:H a=some o) (h':H b=none):a ≠ b:=by
 intro e;subst e;rw[h] at h';cases h'
section
variable (P:Program) (w:World)
def ObjOk (H:Hp) (h:Heap) (a:Addr):HO->Prop
 | .lst xs=>xs.length<=sizeLine/\∃ (its:List Value) (n:Nat),Vals xs its/\h.get? a=some { cls:=.type "list",data:=.seq its.toArray n }
 | .tup xs=>xs.length<=sizeLine/\∃ its:List Value,Vals xs its/\IsTup h a its.toArray
 | .dK kvs=>kvs.length<=sizeLine/\(a == sysModules)=false/\∃ vs,KV kvs vs/\h.DictOf (zC0 P w) a vs
 | .dT kvs => kvs.length <= sizeLine /\ (a == sysModules) = false /\ ∃ xs : List (List Key × Addr × Value),
   Paired (fun (p:List Key × V) (q:List Key × Addr × Value)=>p.1=q.1/\H q.2.1=some (.tup (p.1.map kV))/\RelV p.2 q.2.2) kvs xs /\
   ∃ o es ep,h.get? a=some o/\o.ExactDict/\o.data=.dict es ep/\es.toList=xs.map (entryOfKey (tupleKind (zC0 P w)))/\(xs.map (·.1)).Nodup
 | .set S n=>h.SetOf (intKind P w) a S n
 | .ins C dx fs => H dx = some (.own a) /\ fs.length <= 1000 /\ dx ≠ a /\ h.get? a = some (W.instObj C dx) /\
   ∃ mA,h.Ns1 dx mA/\(∀ f,zG1 (fs.lookup f) (mA f))/\PySem.Within mA (fs.map (·.1))
 | .own _=>∃ o,h.get? a=some o
 | .xd fs=>∃ mA,h.Ns1 a mA/\∀ f,zG1 (fs.lookup f) (mA f)
 | .rng lo hi=>∃ t u v,h.get? a=some { cls:=.type "range",data:=.fields #[.int lo t,.int hi u,.int 1 v] }
 | .frz o u=>h.get? a=some o/\ObjOk H h a u
 | .tbl ps=>h.get? a=some { cls:=.none,data:=.fields ps }
 | .met f x=>h.get? a=some (PySem.W.methodObj (.ref f) (.ref x))
 | .ext φ=>φ h/\(∃ o,h.get? a=some o)/\∀ h1 h2:Heap,φ h1->(∀ o,h1.get? a=some o->h2.get? a=some o)->φ h2
def HOk (H:Hp) (h:Heap):Prop:=∀ a o,H a=some o->ObjOk P w H h a o
end
section
variable {P:Program} {w:World} {H H':Hp} {h h':Heap} {a:Addr} {o:HO}
theorem ObjOk.lt (x:ObjOk P w H h a o):a < h.objs.size:=by
 cases o with
 | lst xs=>obtain⟨_,_,_,_,e⟩:=x;exact Heap.lt_size e
 | tup xs=>obtain⟨_,_,_,p⟩:=x;exact p.lt
 | dK kvs=>obtain⟨_,_,_,_,o,_,_,e,_⟩:=x;exact Heap.lt_size e
 | dT kvs=>obtain⟨_,_,_,_,o,_,_,e,_⟩:=x;exact Heap.lt_size e
 | set S n=>obtain⟨o,_,_,_,e,_⟩:=x;exact Heap.lt_size e
 | ins C dx fs=>obtain⟨_,_,_,e,_⟩:=x;exact Heap.lt_size e
 | own y=>obtain⟨_,e⟩:=x;exact Heap.lt_size e
 | xd fs=>obtain⟨_,⟨_,_,_,e,_⟩,_⟩:=x;exact Heap.lt_size e
 | rng lo hi=>obtain⟨_,_,_,e⟩:=x;exact Heap.lt_size e
 | frz ob u=>obtain⟨e,_⟩:=x;exact Heap.lt_size e
 | tbl ps=>exact Heap.lt_size (show h.get? a=some _ from x)
 | met f y=>exact Heap.lt_size (show h.get? a=some _ from x)
 | ext φ=>obtain⟨_,⟨_,e⟩,_⟩:=x;exact Heap.lt_size e
theorem Paired.mapP {α β:Type} {F G:α->β->Prop}:∀ {l₁:List α} {l₂:List β},Paired F l₁ l₂->(∀ a b,F a b->G a b)->Paired G l₁ l₂
 | _,_,.nil,_=>.nil
 | _,_,.cons r t,f=>.cons (f _ _ r) (Paired.mapP t f)
theorem ObjOk.stay (x:ObjOk P w H h a o) (k:∀ b u,(b=a\/H b=some (.own a))->h.get? b=some u->h'.get? b=some u)
  (ho:∀ b,H b=some (.own a)->H' b=some (.own a)) (ht:∀ b xs,H b=some (.tup xs)->H' b=some (.tup xs)):ObjOk P w H' h' a o:=by
 induction o with
 | lst xs=>obtain⟨z,its,n,r,e⟩:=x;exact⟨z,its,n,r,k _ _ (.inl rfl) e⟩
 | tup xs=>obtain⟨z,its,r,ob,e,c⟩:=x;exact⟨z,its,r,ob,k _ _ (.inl rfl) e,c⟩
 | dK kvs=>obtain⟨z,y,vs,r,ob,es,ep,e,c⟩:=x;exact⟨z,y,vs,r,ob,es,ep,k _ _ (.inl rfl) e,c⟩
 | dT kvs =>
  obtain⟨z,y,xs,r,ob,es,ep,e,c⟩:=x
  exact⟨z,y,xs,Paired.mapP r fun p q z=>⟨z.1,ht _ _ z.2.1,z.2.2⟩,ob,es,ep,k _ _ (.inl rfl) e,c⟩
 | set S n=>obtain⟨ob,es,ep,t,e,c⟩:=x;exact⟨ob,es,ep,t,k _ _ (.inl rfl) e,c⟩
 | ins C dx fs =>
  obtain⟨d,z,ne,e,mA,⟨od,es,ep,e2,c⟩,r⟩:=x
  exact⟨ho _ d,z,ne,k _ _ (.inl rfl) e,mA,⟨od,es,ep,k _ _ (.inr d) e2,c⟩,r⟩
 | own y=>obtain⟨ob,e⟩:=x;exact⟨ob,k _ _ (.inl rfl) e⟩
 | xd fs=>obtain⟨mA,⟨od,es,ep,e,c⟩,r⟩:=x;exact⟨mA,⟨od,es,ep,k _ _ (.inl rfl) e,c⟩,r⟩
 | rng lo hi=>obtain⟨t,u,v,e⟩:=x;exact⟨t,u,v,k _ _ (.inl rfl) e⟩
 | frz ob u ih=>obtain⟨e,q⟩:=x;exact⟨k _ _ (.inl rfl) e,ih q⟩
 | tbl ps =>
  have e:h.get? a=some { cls:=.none,data:=.fields ps }:=x
  show h'.get? a=some { cls:=.none,data:=.fields ps }
  exact k a _ (.inl rfl) e
 | met f y =>
  have e:h.get? a=some (PySem.W.methodObj (.ref f) (.ref y)):=x
  show h'.get? a=some (PySem.W.methodObj (.ref f) (.ref y))
  exact k a _ (.inl rfl) e
 | ext φ=>obtain⟨p,⟨o,e⟩,st⟩:=x;exact⟨st _ _ p fun o q=>k _ _ (.inl rfl) q,⟨o,k _ _ (.inl rfl) e⟩,st⟩
theorem HOk.lt (x:HOk P w H h) (e:H a=some o):a < h.objs.size:=(x a o e).lt
theorem HOk.fresh (x:HOk P w H h) (e:h.objs.size<=a):H a=none:=by
 cases q:H a with
 | none=>rfl
 | some u=>exact absurd (Nat.lt_of_lt_of_le (x.lt q) e) (Nat.lt_irrefl _)
theorem HOk.kept (x:HOk P w H h) (k:∀ b u,h.get? b=some u->h'.get? b=some u):HOk P w H h':=fun a o e =>
 (x a o e).stay (fun b u _ q=>k b u q) (fun _ q=>q) fun _ _ q=>q
theorem HOk.laid (x:HOk P w H h) (k:∀ b u,h.get? b=some u->h'.get? b=some u) (hp:h.objs.size<=a) (new:ObjOk P w (upd H a o) h' a o):HOk P w (upd H a o) h':=fun b u e=>by
 have hn:=x.fresh hp
 by_cases hb:b=a
 ·subst hb;rw[QH] at e;cases e;exact new
 ·rw[QQ hb] at e
  exact (x b u e).stay (fun c v _ q=>k c v q) (fun c q=>by rw[QQ (QO q hn)];exact q) fun c xs q=>by rw[QQ (QO q hn)];exact q
end
def Rd (H:Hp) (a:Addr) (u:HO):Prop:=H a=some u\/∃ o,H a=some (.frz o u)
theorem Rd.ok {P:Program} {w:World} {H:Hp} {h:Heap} {a:Addr} {u:HO} (r:Rd H a u) (x:HOk P w H h):ObjOk P w H h a u:=by
 rcases r with r | ⟨o,r⟩
 ·exact x a u r
 ·obtain⟨_,q⟩:=x a _ r
  exact q
def Mut:Option HO->Prop
 | some (.lst _)=>True
 | some (.dK _)=>True
 | some (.dT _)=>True
 | some (.set _ _)=>True
 | some (.ins _ _ _)=>True
 | some (.ext _)=>True
 | _=>False
section
variable {P:Program} {w:World} {H:Hp} {h h':Heap} {x e:Addr} {o':HO}
theorem HOk.write (ok:HOk P w H h) (mu:Mut (H x)) (he:e=x\/H e=some (.own x)) (k:∀ b u,b ≠ e->h.get? b=some u->h'.get? b=some u) (heo:∃ u,h'.get? e=some u)
  (new:ObjOk P w (upd H x o') h' x o'):HOk P w (upd H x o') h':=fun b u q=>by
 have nown:∀ c y,H c=some (.own y)->c ≠ x:=fun c y r z=>by subst z;rw[r] at mu;exact mu
 have ntup:∀ c xs,H c=some (.tup xs)->c ≠ x:=fun c xs r z=>by subst z;rw[r] at mu;exact mu
 by_cases hb:b=x
 ·subst hb;rw[QH] at q;cases q;exact new
 ·rw[QQ hb] at q
  by_cases hbe:b=e
  ·have q':H b=some (.own x):=by
    rcases he with z | z
    ·exact absurd (hbe.trans z) hb
    ·rw[hbe];exact z
   rw[q] at q';cases q'
   obtain⟨v,hv⟩:=heo
   exact⟨v,by rw[hbe];exact hv⟩
  ·refine (ok b u q).stay (fun c v hc r=>k c v ?_ r) (fun c r=>by rw[QQ (nown c b r)];exact r) fun c xs r=>by rw[QQ (ntup c xs r)];exact r
   rcases hc with rfl | hc
   ·exact hbe
   ·rintro rfl
    rcases he with z | z
    ·exact nown c b hc z
    ·rw[hc] at z;cases z;exact hb rfl
end
structure Un (fs ex:List Addr) (H H':Hp) (h h':Heap):Prop where
 keep:∀ b o,h.get? b=some o->H b=none->b ∉ fs->b ∉ ex->h'.get? b=some o
 slot:∀ b o,h.get? b=some o->H b=none->b∈fs->b ∉ ex->∃ sl,h'.get? b=some { o with slots:=sl }
 free:∀ b o,h.get? b=some o->H b=none->b ∉ ex->H' b=none
 there:∀ b o,h.get? b=some o->b ∉ ex->∃ o',h'.get? b=some o'
 tups:∀ b xs,H b=some (.tup xs)->H' b=some (.tup xs)
 frzs:∀ b o u,H b=some (.frz o u)->H' b=some (.frz o u)
 tbls:∀ b ps,H b=some (.tbl ps)->∃ more,H' b=some (.tbl (ps++more))
section
variable {fs fs' ex ex':List Addr} {H H1 H2:Hp} {h h1 h2 h':Heap} {a x e:Addr} {o:HO}
theorem Un.any (u:Un fs ex H H1 h h1) {b:Addr} {ob:Obj} (q:h.get? b=some ob) (n:H b=none) (hx:b ∉ ex):∃ sl,h1.get? b=some { ob with slots:=sl }:=by
 by_cases hb:b∈fs
 ·exact u.slot b ob q n hb hx
 ·exact⟨ob.slots,u.keep b ob q n hb hx⟩
theorem Un.kept (k:∀ b u,h.get? b=some u->h'.get? b=some u):Un fs ex H H h h' :=
 ⟨fun b ob q _ _ _=>k b ob q,fun b ob q _ _ _=>⟨ob.slots,k b ob q⟩,fun _ _ _ n _=>n,fun b ob q _=>⟨ob,k b ob q⟩,fun _ _ q=>q,fun _ _ _ q=>q,fun _ ps q=>⟨#[],by rw[q];simp⟩⟩
theorem Un.refl:Un fs ex H H h h:=Un.kept fun _ _ q=>q
theorem Un.laid (k:∀ b u,h.get? b=some u->h'.get? b=some u) (hp:h.objs.size<=a) (hn:H a=none):Un fs ex H (upd H a o) h h' where
 keep:=fun b u q _ _ _=>k b u q
 slot:=fun b u q _ _ _=>⟨u.slots,k b u q⟩
 free:=fun b u q n _=>by rw[QQ (Nat.ne_of_lt (Nat.lt_of_lt_of_le (Heap.lt_size q) hp))];exact n
 there:=fun b u q _=>⟨u,k b u q⟩
 tups:=fun b xs q=>by rw[QQ (QO q hn)];exact q
 frzs:=fun b u xs q=>by rw[QQ (QO q hn)];exact q
 tbls:=fun b ps q=>⟨#[],by rw[QQ (QO q hn),q];simp⟩
theorem Un.write (mu:Mut (H x)) (he:e=x\/H e=some (.own x)) (k:∀ b u,b ≠ e->h.get? b=some u->h'.get? b=some u) (heo:∃ u,h'.get? e=some u):Un fs ex H (upd H x o) h h':=by
 have hx:∀ b,H b=none->b ≠ x:=fun b n z=>by subst z;rw[n] at mu;exact mu
 have hb:∀ b,H b=none->b ≠ e:=fun b n z=>by
  subst z
  rcases he with r | r
  ·exact hx b n r
  ·rw[n] at r;cases r
 have hm:∀ b u,H b=some u->¬ Mut (some u)->b ≠ x:=fun b u q nm z=>by subst z;rw[q] at mu;exact nm mu
 refine⟨fun b u q n _ _=>k b u (hb b n) q,fun b u q n _ _=>⟨u.slots,k b u (hb b n) q⟩,fun b u q n _=>by rw[QQ (hx b n)];exact n,fun b u q _=>?_,
  fun b xs q=>by rw[QQ (hm b _ q fun z=>z)];exact q,fun b u xs q=>by rw[QQ (hm b _ q fun z=>z)];exact q,fun b ps q=>⟨#[],by rw[QQ (hm b _ q fun z=>z),q];simp⟩⟩
 by_cases hbe:b=e
 ·subst hbe;exact heo
 ·exact⟨u,k b u hbe q⟩
end
def trk (h:Heap) (H:Hp):List Addr:=(List.range h.objs.size).filter fun a=>(H a).isSome
def zAM (h:Heap) (H:Hp):Heap:=W.hideAll h (trk h H)
theorem zDI (h:Heap) (H:Hp):(zAM h H).objs.size=h.objs.size:=PySem.W.hideAll_size _ _
theorem zEn {h:Heap} {H:Hp} {b:Addr} {o:Obj} (e:h.get? b=some o) (n:H b=none):(zAM h H).get? b=some o :=
 PySem.W.hideAll_get _ e fun hm=>by
  have q:(H b).isSome=true:=(List.mem_filter.mp hm).2
  rw[n] at q;simp at q
theorem zFU {h:Heap} {H:Hp} {b:Addr} {o:Obj} (e:(zAM h H).get? b=some o):h.get? b=some o/\H b=none:=by
 have e':h.get? b=some o:=PySem.W.of_hideAll (trk h H) e
 refine⟨e',?_⟩
 cases q:H b with
 | none=>rfl
 | some x =>
  have hm:b∈trk h H:=List.mem_filter.mpr ⟨List.mem_range.mpr (Heap.lt_size e'),by simp[q]⟩
  have z:(zAM h H).get? b=none:=PySem.W.hideAll_none (trk h H) hm
  rw[z] at e;cases e
def zFv (g h:Heap) (L:Addr):List (Addr × Obj):=(List.range h.objs.size).filterMap fun a=>if a=L\/(g.get? a).isSome=true then none else (h.get? a).map fun o=>(a,o)
def Qq (g h:Heap) (L d:Addr):List (Addr × Obj):=(zFv g h L).filter fun p=>decide (p.1 ≠ d)
end L2
namespace L2
open PySem PySem.Spec PyProof.Rows
structure Mod (K:W.Frag) (mg:Str->Option Value) (base:Heap):Prop where
 kin:K.In base
 glob:base.Ns mainGlobals mg
 blt:∃ mb,base.Ns builtinsNs mb/\∀ x:Str,x ≠ "__name__" -> mb x=bootBuiltins x
 nolimit:base.NoLimit
structure Cx where
 prog:Program
 w:World
 K:W.Frag
 mg:Str->Option Value
 base:Heap
 A:Around
 N:List Str
 s₀:Shared
 H₀:Hp
 env:Env
 outer:List Env
 stack:List Env
 ex:List Addr
 fn:Str->Bool
 calm:Bool
 pn:List (Addr × Obj)
 xe:Value->Shared->Prop
def frs (l:List Env):List Addr:=l.filterMap (·.frame)
abbrev Cx.fs (X:Cx):List Addr:=frs X.outer
def Vis (sc:Scope) (x:Str):Prop:=sc.names.lookup x=some .local\/sc.names.lookup x=some .cell\/sc.names.lookup x=some .free
def Loc (sc:Scope) (x:Str):Prop:=sc.names.lookup x=some .local\/sc.names.lookup x=some .cell
def zIA (env:Env) (h:Heap) (m:Str->Option Value) (x:Str) (u:Value):Prop :=
 (env.kindOf x=some .local/\m x=some u)\/((env.kindOf x=some .cell\/env.kindOf x=some .free)/\∃ c,env.cells.lookup x=some c/\h.IsCell c (some u))
structure Cx.Ok (X:Cx):Prop where
 mod:Mod X.K X.mg X.base
 kind:X.env.scope.kind=.function
 glob:X.env.globals=mainGlobals
 blt:X.env.builtins=builtinsNs
 above:X.s₀.heap.objs.size<=X.env.locals
 inj:∀ x y c,X.env.cells.lookup x=some c->X.env.cells.lookup y=some c->x=y
 has:∀ x,(X.env.kindOf x=some .cell\/X.env.kindOf x=some .free)->∃ c,X.env.cells.lookup x=some c
 cab:∀ x c,X.fn x=true->X.env.cells.lookup x=some c->X.s₀.heap.objs.size<=c
 hd:X.calm=true->X.A.handled=none
 frames:X.A.frames=some X.stack
 stk:X.stack=X.outer\/(X.stack=X.env::X.outer/\X.env.frame=some X.env.locals)
 exf:∀ b∈X.ex,b ≠ X.env.locals/\∀ x c,X.env.cells.lookup x=some c->c ≠ b
 bs:∀ b o,X.base.get? b=some o->X.s₀.heap.get? b=some o/\X.H₀ b=none
 bsz:X.base.objs.size<=X.s₀.heap.objs.size
 noex:∀ b o,X.base.get? b=some o->b ∉ X.ex
 exfs:∀ b∈X.ex,b ∉ X.fs
 funs:X.s₀.heap.FunFrames X.base X.outer
 frf:∀ b∈X.fs,X.H₀ b=none
structure Inv (X:Cx) (pins:List (Addr × Obj)) (σ:List (Option V)) (H:Hp) (s:Shared):Prop where
 ok:X.Ok
 os:s.os=X.s₀.os
 bare:AllBare s.gens
 base:Un X.fs X.ex X.H₀ H X.s₀.heap s.heap
 loc:∃ m,s.heap.Ns X.env.locals m/\∀ (i:Nat) (x:Str) (v:V),X.N[i]? = some x->σ[i]? = some (some v)->Vis X.env.scope x->∃ u,RelV v u/\zIA X.env s.heap m x u
 cell:∀ x c,X.env.cells.lookup x=some c->∃ v,s.heap.IsCell c v
 free:H X.env.locals=none
 freeC:∀ x c,X.env.cells.lookup x=some c->H c=none
 pin:∀ p∈X.pn++pins,s.heap.get? p.1=some p.2/\H p.1=none/\p.1 ≠ X.env.locals/\p.1 ∉ X.fs/\∀ v,p.2.data ≠ .cell v
 hok:HOk X.prog X.w H s.heap
 len:σ.length=X.N.length
 tk:1<=s.toks
section
variable {X:Cx} {pins:List (Addr × Obj)} {σ:List (Option V)} {H H':Hp} {s:Shared} {h':Heap}
theorem Cx.Ok.nofr (ok:X.Ok) {b:Addr} {o:Obj} (e:X.base.get? b=some o):b ∉ X.fs:=fun hb=>by
 have:=(ok.funs.mem hb).1
 rw[e] at this;cases this
theorem Inv.bs (I:Inv X pins σ H s):∀ b o,X.base.get? b=some o->s.heap.get? b=some o/\H b=none:=fun b o e =>
 ⟨I.base.keep b o (I.ok.bs b o e).1 (I.ok.bs b o e).2 (I.ok.nofr e) (I.ok.noex b o e),I.base.free b o (I.ok.bs b o e).1 (I.ok.bs b o e).2 (I.ok.noex b o e)⟩
theorem Inv.bk (I:Inv X pins σ H s):∀ b o,X.base.get? b=some o->s.heap.get? b=some o:=fun b o e=>(I.bs b o e).1
theorem Inv.mod (I:Inv X pins σ H s):Mod X.K X.mg X.base:=I.ok.mod
theorem Inv.kIn (I:Inv X pins σ H s):X.K.In s.heap:=I.ok.mod.kin.keeps I.bk
theorem Inv.lt (I:Inv X pins σ H s):X.env.locals < s.heap.objs.size:=let ⟨_,hn,_⟩:=I.loc;hn.lt
theorem Inv.sz (I:Inv X pins σ H s):X.s₀.heap.objs.size<=s.heap.objs.size:=Nat.le_trans I.ok.above (Nat.le_of_lt I.lt)
theorem Inv.nofs (I:Inv X pins σ H s) {a:Addr} (h:s.heap.objs.size<=a):a ∉ X.fs:=fun hb=>by
 obtain⟨_,o,ho,_⟩:=I.ok.funs.mem hb
 exact absurd (Nat.lt_of_lt_of_le (Heap.lt_size ho) (Nat.le_trans I.sz h)) (Nat.lt_irrefl _)
theorem Inv.cne (I:Inv X pins σ H s):∀ x c,X.env.cells.lookup x=some c->c ≠ X.env.locals:=fun x c e z=>by
 obtain⟨v,o,ho,hd⟩:=I.cell x c e
 obtain⟨m,⟨o',es,ep,ho',hd',_⟩,_⟩:=I.loc
 rw[z,ho'] at ho;cases ho;rw[hd'] at hd;cases hd
theorem Inv.funs (I:Inv X pins σ H s):s.heap.FunFrames X.base X.outer:=by
 have all:∀ (l:List Env),(∀ b∈frs l,b∈X.fs)->X.s₀.heap.FunFrames X.base l->s.heap.FunFrames X.base l:=by
  intro l
  induction l with
  | nil=>intro _ _;trivial
  | cons env r ih =>
   intro hs hl
   obtain⟨hk,⟨L,o,hf,hn,ho,hd⟩,hr⟩:=hl
   have hL:L∈X.fs:=hs L (by unfold frs;rw[List.filterMap_cons,hf];exact List.mem_cons_self)
   obtain⟨sl,e⟩:=I.base.slot L o ho (I.ok.frf L hL) hL fun z=>I.ok.exfs L z hL
   exact⟨hk,⟨L,_,hf,hn,e,hd⟩,ih (fun b hb=>hs b (by unfold frs;rw[List.filterMap_cons,hf];exact List.mem_cons_of_mem _ hb)) hr⟩
 exact all X.outer (fun _ hb=>hb) I.ok.funs
theorem Inv.stack (I:Inv X pins σ H s):s.heap.FunFrames X.base X.stack:=by
 rcases I.ok.stk with e | ⟨e,hf⟩
 ·rw[e];exact I.funs
 ·rw[e]
  obtain⟨m,hn,_⟩:=I.loc
  refine .cons (by rw[I.ok.kind];decide) hf hn ?_ I.funs
  exact Heap.get?_none_of_le (Nat.le_trans I.ok.bsz I.ok.above)
theorem Inv.stkSub (I:Inv X pins σ H s):∀ b∈frs X.stack,b∈X.env.locals::X.fs:=fun b hb=>by
 rcases I.ok.stk with e | ⟨e,hf⟩
 ·rw[e] at hb;exact List.mem_cons_of_mem _ hb
 ·rw[e] at hb
  unfold frs at hb
  rw[List.filterMap_cons,hf] at hb
  exact hb
theorem Inv.stkFree (I:Inv X pins σ H s):∀ b∈frs X.stack,H b=none:=fun b hb=>by
 rcases List.mem_cons.mp (I.stkSub b hb) with e | hb
 ·rw[e];exact I.free
 ·obtain⟨_,o,ho,_⟩:=I.ok.funs.mem hb
  exact I.base.free b o ho (I.ok.frf b hb) fun z=>I.ok.exfs b z hb
theorem Inv.step {g':Array GenState} {t':Nat} {d':Drawn} {ch:List Addr} (I:Inv X pins σ H s)
  (hch:∀ b∈ch,(b∈X.ex\/X.s₀.heap.objs.size<=b)/\b ≠ X.env.locals/\(∀ x c,X.env.cells.lookup x=some c->c ≠ b)/\∀ p∈X.pn++pins,p.1 ≠ b)
  (keep:∀ b o,b ≠ X.env.locals->b ∉ X.fs->b ∉ ch->s.heap.get? b=some o->H b=none->h'.get? b=some o)
  (slot:∀ b o,b ≠ X.env.locals->b∈X.fs->b ∉ ch->s.heap.get? b=some o->H b=none->∃ sl,h'.get? b=some { o with slots:=sl }) (free:∀ b o,b ∉ ch->s.heap.get? b=some o->H b=none->H' b=none)
  (there:∀ b o,b ∉ ch->s.heap.get? b=some o->∃ o',h'.get? b=some o')
  (tups:∀ b xs,H b=some (.tup xs)->H' b=some (.tup xs)) (frzs:∀ b o u,H b=some (.frz o u)->H' b=some (.frz o u)) (tbls:∀ b ps,H b=some (.tbl ps)->∃ more,H' b=some (.tbl (ps++more)))
  (ns:∀ m,s.heap.Ns X.env.locals m->h'.Ns X.env.locals m) (hok:HOk X.prog X.w H' h') (hg:AllBare g') (ht:1<=t') :
  Inv X pins σ H' { s with heap:=h',gens:=g',drawn:=d',toks:=t' }:=by
 have neL:∀ b o,X.s₀.heap.get? b=some o->b ≠ X.env.locals:=fun b o e=>Nat.ne_of_lt (Nat.lt_of_lt_of_le (Heap.lt_size e) I.ok.above)
 have neC:∀ b o,X.s₀.heap.get? b=some o->b ∉ X.ex->b ∉ ch:=fun b o e hx hb=>by
  rcases (hch b hb).1 with z | z
  ·exact hx z
  ·exact absurd (Nat.lt_of_lt_of_le (Heap.lt_size e) z) (Nat.lt_irrefl _)
 have cellK:∀ x c,X.env.cells.lookup x=some c->∀ v,s.heap.IsCell c v->h'.IsCell c v:=fun x c e v ⟨o,ho,hd⟩=>by
  have nch:c ∉ ch:=fun z=>(hch c z).2.2.1 x c e rfl
  by_cases hc:c∈X.fs
  ·obtain⟨sl,q⟩:=slot c o (I.cne x c e) hc nch ho (I.freeC x c e)
   exact⟨_,q,hd⟩
  ·exact⟨o,keep c o (I.cne x c e) hc nch ho (I.freeC x c e),hd⟩
 refine⟨I.ok,I.os,hg,⟨fun b o e n hb hx=>?_,fun b o e n hb hx=>?_,fun b o e n hx=>?_,fun b o e hx=>?_,fun b xs e=>tups b xs (I.base.tups b xs e),fun b o xs e=>frzs b o xs (I.base.frzs b o xs e),fun b ps e=>?_⟩,?_,fun x c e=>?_,?_,fun x c e=>?_,fun p hp=>?_,hok,I.len,ht⟩
 ·exact keep b o (neL b o e) hb (neC b o e hx) (I.base.keep b o e n hb hx) (I.base.free b o e n hx)
 ·obtain⟨sl,e1⟩:=I.base.slot b o e n hb hx
  obtain⟨sl',e2⟩:=slot b _ (neL b o e) hb (neC b o e hx) e1 (I.base.free b o e n hx)
  exact⟨sl',e2⟩
 ·obtain⟨o',e1⟩:=I.base.there b o e hx
  exact free b o' (neC b o e hx) e1 (I.base.free b o e n hx)
 ·obtain⟨o',e1⟩:=I.base.there b o e hx
  exact there b o' (neC b o e hx) e1
 ·obtain⟨m1,e1⟩:=I.base.tbls b ps e
  obtain⟨m2,e2⟩:=tbls b _ e1
  exact⟨m1++m2,by rw[e2,Array.append_assoc]⟩
 ·obtain⟨m,hn,hl⟩:=I.loc
  refine⟨m,ns m hn,fun i x v e1 e2 e3=>?_⟩
  obtain⟨u,r,l⟩:=hl i x v e1 e2 e3
  refine⟨u,r,?_⟩
  rcases l with l | ⟨k,c,e,z⟩
  ·exact .inl l
  ·exact .inr ⟨k,c,e,cellK x c e _ z⟩
 ·obtain⟨v,z⟩:=I.cell x c e
  exact⟨v,cellK x c e v z⟩
 ·obtain⟨m,⟨o,_,_,ho,_⟩,_⟩:=I.loc
  exact free _ o (fun z=>(hch _ z).2.1 rfl) ho I.free
 ·obtain⟨v,o,ho,hd⟩:=I.cell x c e
  exact free c o (fun z=>(hch c z).2.2.1 x c e rfl) ho (I.freeC x c e)
 ·obtain⟨e,n,ne,nf,d⟩:=I.pin p hp
  have nch:p.1 ∉ ch:=fun z=>(hch p.1 z).2.2.2 p hp rfl
  exact⟨keep p.1 p.2 ne nf nch e n,free p.1 p.2 nch e n,ne,nf,d⟩
theorem Inv.un {t':Nat} (I:Inv X pins σ H s) (u:Un X.fs [] H H' s.heap h') (hok:HOk X.prog X.w H' h') (ht:1<=t':=by first | exact Nat.le_add_left _ _ | exact Inv.tk (by assumption) | assumption | omega):Inv X pins σ H' { s with heap:=h',toks:=t' }:=by
 obtain⟨m,⟨o,es,ep,ho,r⟩,_⟩:=id I.loc
 obtain⟨sl,hL⟩:=u.any ho I.free (by simp)
 exact I.step (g':=s.gens) (d':=s.drawn) (ch:=[]) (fun _ z=>nomatch z) (fun b o _ hb _ e n=>u.keep b o e n hb (by simp)) (fun b o _ hb _ e n=>u.slot b o e n hb (by simp)) (fun b o _ e n=>u.free b o e n (by simp)) (fun b o _ e=>u.there b o e (by simp)) u.tups u.frzs u.tbls (fun m' hm=>by
  obtain⟨o',es',ep',ho',r'⟩:=hm
  rw[ho] at ho';cases ho'
  exact⟨_,es',ep',hL,r'⟩) hok I.bare ht
theorem Inv.call {g':Array GenState} {t':Nat} {d':Drawn} {ch:List Addr} (I:Inv X pins σ H s) (u:Un (frs X.stack) ch H H' s.heap h') (hok:HOk X.prog X.w H' h') (hg:AllBare g') (ht:1<=t')
  (hch:∀ b∈ch,(b∈X.ex\/X.s₀.heap.objs.size<=b)/\b ≠ X.env.locals/\(∀ x c,X.env.cells.lookup x=some c->c ≠ b)/\∀ p∈X.pn++pins,p.1 ≠ b) :
  Inv X pins σ H' { s with heap:=h',gens:=g',drawn:=d',toks:=t' }:=by
 obtain⟨m,⟨o,es,ep,ho,r⟩,_⟩:=id I.loc
 obtain⟨sl,hL⟩:=u.any ho I.free fun z=>(hch _ z).2.1 rfl
 exact I.step (ch:=ch) hch (fun b o hL hb hc e n=>u.keep b o e n (fun z=>(List.mem_cons.mp (I.stkSub b z)).elim hL hb) hc) (fun b o _ _ hc e n=>u.any e n hc) (fun b o hc e n=>u.free b o e n hc) (fun b o hc e=>u.there b o e hc) u.tups u.frzs u.tbls (fun m' hm=>by
  obtain⟨o',es',ep',ho',r'⟩:=hm
  rw[ho] at ho';cases ho'
  exact⟨_,es',ep',hL,r'⟩) hok hg ht
theorem Inv.turned {t':Nat} {it:Addr} (I:Inv X pins σ H s) (k:∀ b o,b ≠ it->s.heap.get? b=some o->h'.get? b=some o) (hn:H it=none) (hL:it ≠ X.env.locals)
  (h1:it∈X.ex\/X.s₀.heap.objs.size<=it) (h2:∀ x c,X.env.cells.lookup x=some c->c ≠ it) (h3:∀ p∈X.pn++pins,p.1 ≠ it) (ht:1<=t':=by first | exact Nat.le_add_left _ _ | exact Inv.tk (by assumption) | assumption | omega):Inv X pins σ H { s with heap:=h',toks:=t' }:=by
 have nit:∀ b u,H b=some u->b ≠ it:=fun b u e z=>by rw[z,hn] at e;cases e
 refine I.step (g':=s.gens) (d':=s.drawn) (ch:=[it]) (fun b hb=>?_) (fun b o _ _ hc e _=>k b o (fun z=>hc (by simp[z])) e) (fun b o _ _ hc e _=>⟨o.slots,k b o (fun z=>hc (by simp[z])) e⟩) (fun _ _ _ _ n=>n)
  (fun b o hc e=>⟨o,k b o (fun z=>hc (by simp[z])) e⟩) (fun _ _ e=>e) (fun _ _ _ e=>e) (fun b ps e=>⟨#[],by rw[e];simp⟩) (fun m hm=>?_) (fun b u e=>?_) I.bare ht
 ·have e:b=it:=by simpa using hb
  subst e
  exact⟨h1,hL,h2,h3⟩
 ·obtain⟨o,es,ep,ho,r⟩:=hm
  exact⟨o,es,ep,k _ o (Ne.symm hL) ho,r⟩
 ·refine (I.hok b u e).stay (fun c v hc q=>k c v ?_ q) (fun _ q=>q) fun _ _ q=>q
  rcases hc with z | z
  ·rw[z];exact nit b u e
  ·exact nit c _ z
theorem Inv.tok (I:Inv X pins σ H s) (t':Nat) (ht:1<=t':=by first | exact Nat.le_add_left _ _ | exact Inv.tk (by assumption) | assumption | omega):Inv X pins σ H { s with toks:=t' }:=I.un (h':=s.heap) (t':=t') Un.refl I.hok ht
theorem Inv.kept {t':Nat} (I:Inv X pins σ H s) (k:∀ b u,s.heap.get? b=some u->h'.get? b=some u) (ht:1<=t':=by first | exact Nat.le_add_left _ _ | exact Inv.tk (by assumption) | assumption | omega):Inv X pins σ H { s with heap:=h',toks:=t' }:=I.un (Un.kept k) (I.hok.kept k) ht
theorem Inv.laid {a:Addr} {o:HO} {t':Nat} (I:Inv X pins σ H s) (k:∀ b u,s.heap.get? b=some u->h'.get? b=some u) (hp:s.heap.objs.size<=a) (new:ObjOk X.prog X.w (upd H a o) h' a o) (ht:1<=t':=by first | exact Nat.le_add_left _ _ | exact Inv.tk (by assumption) | assumption | omega) :
  Inv X pins σ (upd H a o) { s with heap:=h',toks:=t' }:=I.un (Un.laid k hp (I.hok.fresh hp)) (I.hok.laid k hp new) ht
theorem Inv.write {x e:Addr} {o:HO} {t':Nat} (I:Inv X pins σ H s) (mu:Mut (H x)) (he:e=x\/H e=some (.own x)) (k:∀ b u,b ≠ e->s.heap.get? b=some u->h'.get? b=some u) (heo:∃ u,h'.get? e=some u)
  (new:ObjOk X.prog X.w (upd H x o) h' x o) (ht:1<=t':=by first | exact Nat.le_add_left _ _ | exact Inv.tk (by assumption) | assumption | omega):Inv X pins σ (upd H x o) { s with heap:=h',toks:=t' }:=I.un (Un.write mu he k heo) (I.hok.write mu he k heo new) ht
theorem Inv.pins_of {pins':List (Addr × Obj)} (I:Inv X pins σ H s) (h:∀ p∈pins',s.heap.get? p.1=some p.2/\H p.1=none/\p.1 ≠ X.env.locals/\p.1 ∉ X.fs/\∀ v,p.2.data ≠ .cell v):Inv X pins' σ H s :=
 ⟨I.ok,I.os,I.bare,I.base,I.loc,I.cell,I.free,I.freeC,fun p hp=>(List.mem_append.mp hp).elim (fun z=>I.pin p (List.mem_append_left _ z)) (h p),I.hok,I.len,I.tk⟩
theorem Inv.rI (I:Inv X pins σ H s) {i:Int}:RelV (.int i) (.int i s.toks):=⟨s.toks - 1,by rw[Nat.sub_add_cancel I.tk]⟩
theorem Inv.rS (I:Inv X pins σ H s) {x:Str}:RelV (.str x) (.str x s.toks):=⟨s.toks - 1,by rw[Nat.sub_add_cancel I.tk]⟩
theorem zBK {N:List Str} (hN:N.Nodup) {i j:Nat} {x:Str} (a:N[i]? = some x) (b:N[j]? = some x):i=j:=by
 obtain⟨h1,e1⟩:=List.getElem?_eq_some_iff.mp a
 obtain⟨h2,e2⟩:=List.getElem?_eq_some_iff.mp b
 exact (List.getElem_inj hN).mp (e1.trans e2.symm)
theorem WM {M:Model} {A:Around} {E:Value->Shared->Prop} {i:Nat} {x:Str} {v:V} {u:Value} {Q:Unit->Shared->Prop} (I:Inv X pins σ H s) (hN:X.N.Nodup) (hi:X.N[i]? = some x) (hx:Loc X.env.scope x) (r:RelV v u)
  (h:∀ s',Inv X pins (σ.set i (some v)) H s'->(∃ a,Heap.SameBut a s.heap s'.heap/\(a=X.env.locals\/X.env.cells.lookup x=some a))->Q () s') (hf:X.fn x=true\/X.env.scope.names.lookup x=some .local:=by first | exact .inl rfl | exact .inr rfl | assumption):wpAny M A (storeName X.env x u) Q E s:=by
 obtain⟨m,hn,hl⟩:=id I.loc
 have hcls:(X.env.scope.kind == .class || (X.env.scope.kind == .module && X.env.locals != X.env.globals))=false:=by rw[I.ok.kind];rfl
 have hiσ:i < σ.length:=by rw[I.len];exact (List.getElem?_eq_some_iff.mp hi).1
 have cne:=I.cne
 have tracked:∀ {a:Addr} {h':Heap},(∃ o,s.heap.get? a=some o/\H a=none)->Heap.SameBut a s.heap h'->HOk X.prog X.w H h':=fun {a h'} ha hs b ob e=>by
  obtain⟨_,_,hfree⟩:=ha
  refine (I.hok b ob e).stay (fun c w' hc q=>(hs.2 c ?_).trans q) (fun _ q=>q) fun _ _ q=>q
  rintro rfl
  rcases hc with rfl | hc
  ·rw[hfree] at e;cases e
  ·rw[hfree] at hc;cases hc
 rcases hx with hk | hk
 ·refine wpAny_storeName_local hk hn (fun h' hn' hs=>?_) hcls
  obtain⟨oL,_,_,hoL,_⟩:=id hn
  refine h _ ⟨I.ok,I.os,I.bare,⟨fun b o e n hb hx=>?_,fun b o e n hb hx=>?_,I.base.free,fun b o e hx=>?_,I.base.tups,I.base.frzs,I.base.tbls⟩,⟨_,hn',fun j y v' e1 e2 e3=>?_⟩,fun y c e=>?_,I.free,I.freeC,fun p hp=>?_,tracked ⟨oL,hoL,I.free⟩ hs,by simpa using I.len,(by first | exact Nat.le_add_left _ _ | exact I.tk)⟩ ⟨_,hs,.inl rfl⟩
  ·exact (hs.2 b (Nat.ne_of_lt (Nat.lt_of_lt_of_le (Heap.lt_size e) I.ok.above))).trans (I.base.keep b o e n hb hx)
  ·obtain⟨sl,e1⟩:=I.base.slot b o e n hb hx
   exact⟨sl,(hs.2 b (Nat.ne_of_lt (Nat.lt_of_lt_of_le (Heap.lt_size e) I.ok.above))).trans e1⟩
  ·obtain⟨o',e1⟩:=I.base.there b o e hx
   exact⟨o',(hs.2 b (Nat.ne_of_lt (Nat.lt_of_lt_of_le (Heap.lt_size e) I.ok.above))).trans e1⟩
  ·by_cases hj:j=i
   ·subst hj
    rw[hi] at e1;cases e1
    rw[List.getElem?_set_self hiσ] at e2
    cases e2
    exact⟨u,r,.inl ⟨hk,by simp⟩⟩
   ·rw[List.getElem?_set_ne (Ne.symm hj)] at e2
    obtain⟨u',r',q⟩:=hl j y v' e1 e2 e3
    refine⟨u',r',?_⟩
    rcases q with ⟨k,e⟩ | ⟨k,c,e,z⟩
    ·refine .inl ⟨k,?_⟩
     have:y ≠ x:=fun e=>hj (zBK hN e1 (e ▸ hi))
     simp[this,e]
    ·exact .inr ⟨k,c,e,z.sameBut hs (cne y c e)⟩
  ·obtain⟨w',z⟩:=I.cell y c e
   exact⟨w',z.sameBut hs (cne y c e)⟩
  ·obtain⟨e,n,ne,nf,d⟩:=I.pin p hp
   exact⟨(hs.2 p.1 ne).trans e,n,ne,nf,d⟩
 ·have hfn:X.fn x=true:=by
   rcases hf with z | z
   ·exact z
   ·rw[z] at hk;cases hk
  obtain⟨c,hc⟩:=I.ok.has x (.inl hk)
  obtain⟨w',z⟩:=I.cell x c hc
  refine wpAny_storeName_cell I.ok.kind hk hc z (fun h' hc' hs=>?_)
  obtain⟨oc,hoc,hocd⟩:=id z
  refine h { s with heap:=h' } ⟨I.ok,I.os,I.bare,⟨fun b o e n hb hx=>?_,fun b o e n hb hx=>?_,I.base.free,fun b o e hx=>?_,I.base.tups,I.base.frzs,I.base.tbls⟩,⟨m,hn.sameBut hs (Ne.symm (cne x c hc)),fun j y v' e1 e2 e3=>?_⟩,fun y c' e=>?_,I.free,I.freeC,fun p hp=>?_,tracked ⟨oc,hoc,I.freeC x c hc⟩ hs,by simpa using I.len,I.tk⟩ ⟨c,hs,.inr hc⟩
  ·exact (hs.2 b (Nat.ne_of_lt (Nat.lt_of_lt_of_le (Heap.lt_size e) (I.ok.cab x c hfn hc)))).trans (I.base.keep b o e n hb hx)
  ·obtain⟨sl,e1⟩:=I.base.slot b o e n hb hx
   exact⟨sl,(hs.2 b (Nat.ne_of_lt (Nat.lt_of_lt_of_le (Heap.lt_size e) (I.ok.cab x c hfn hc)))).trans e1⟩
  ·obtain⟨o',e1⟩:=I.base.there b o e hx
   exact⟨o',(hs.2 b (Nat.ne_of_lt (Nat.lt_of_lt_of_le (Heap.lt_size e) (I.ok.cab x c hfn hc)))).trans e1⟩
  ·by_cases hj:j=i
   ·subst hj
    rw[hi] at e1;cases e1
    rw[List.getElem?_set_self hiσ] at e2
    cases e2
    exact⟨u,r,.inr ⟨.inl hk,c,hc,hc'⟩⟩
   ·rw[List.getElem?_set_ne (Ne.symm hj)] at e2
    obtain⟨u',r',q⟩:=hl j y v' e1 e2 e3
    refine⟨u',r',?_⟩
    rcases q with q | ⟨k,c',e,z'⟩
    ·exact .inl q
    ·refine .inr ⟨k,c',e,z'.sameBut hs ?_⟩
     rintro rfl
     exact hj (zBK hN e1 (I.ok.inj _ _ _ e hc ▸ hi))
  ·by_cases hcc:c'=c
   ·subst hcc;exact⟨_,hc'⟩
   ·obtain⟨w2,z2⟩:=I.cell y c' e
    exact⟨w2,z2.sameBut hs hcc⟩
  ·obtain⟨e,n,ne,nf,d⟩:=I.pin p hp
   refine⟨(hs.2 p.1 ?_).trans e,n,ne,nf,d⟩
   intro q
   rw[q,hoc] at e
   have q':oc=p.2:=Option.some.inj e
   exact d w' (by rw[← q'];exact hocd)
theorem JM {M:Model} {A:Around} {E:Value->Shared->Prop} {i:Nat} {x:Str} {v:V} {u:Value} {Q:Unit->Shared->Prop} (I:Inv X pins σ H s) (hN:X.N.Nodup) (hi:X.N[i]? = some x) (hx:Loc X.env.scope x) (r:RelV v u)
  (h:∀ s',Inv X pins (σ.set i (some v)) H s'->Q () s') (hf:X.fn x=true\/X.env.scope.names.lookup x=some .local:=by first | exact .inl rfl | exact .inr rfl | assumption):wpAny M A (storeName X.env x u) Q E s :=
 WM I hN hi hx r (fun s' I' _=>h s' I') hf
theorem Inv.call' {s':Shared} {ch:List Addr} (I:Inv X pins σ H s) (ho:s'.os=s.os) (u:Un (frs X.stack) ch H H' s.heap s'.heap) (hok:HOk X.prog X.w H' s'.heap) (hg:AllBare s'.gens) (ht:1<=s'.toks)
  (hch:∀ b∈ch,(b∈X.ex\/X.s₀.heap.objs.size<=b)/\b ≠ X.env.locals/\(∀ x c,X.env.cells.lookup x=some c->c ≠ b)/\∀ p∈X.pn++pins,p.1 ≠ b):Inv X pins σ H' s':=by
 obtain⟨h',g',d',t',o'⟩:=s'
 have e:o'=s.os:=ho
 subst e
 exact I.call (g':=g') (t':=t') (d':=d') u hok hg ht hch
end
abbrev XK:=Value->Option Addr->Hp->Prop
abbrev St:=List (Option V)
abbrev VK:=V->Hp->Prop
abbrev TE:=St->Hp->VK->Prop
abbrev TT:=St->Hp->(Bool->Hp->Prop)->Prop
abbrev TA:=St->Hp->(List V->Hp->Prop)->Prop
structure Ends where
 nx:St->Hp->Prop
 rt:VK
 bk:St->Hp->Prop:=fun _ _=>False
 ct:St->Hp->Prop:=fun _ _=>False
abbrev TS:=Ends->St->Hp->Prop
def EP (X:Cx) (pins:List (Addr × Obj)) (σ:St) (Q:VK) (u:Value) (s':Shared):Prop:=∃ v H',Inv X pins σ H' s'/\RelV v u/\Q v H'
def TP (X:Cx) (pins:List (Addr × Obj)) (σ:St) (Q:Bool->Hp->Prop) (b:Bool) (s':Shared):Prop:=∃ H',Inv X pins σ H' s'/\Q b H'
def AP (X:Cx) (pins:List (Addr × Obj)) (σ:St) (Q:List V->Hp->Prop) (us:List Value) (s':Shared):Prop:=∃ vs H',Inv X pins σ H' s'/\Vals vs us/\Q vs H'
def SP (X:Cx) (pins:List (Addr × Obj)) (D:Ends) (f:Flow) (s':Shared):Prop :=
 match f with
 | .next=>∃ σ' H',Inv X pins σ' H' s'/\D.nx σ' H'
 | .brk=>∃ σ' H',Inv X pins σ' H' s'/\D.bk σ' H'
 | .cont=>∃ σ' H',Inv X pins σ' H' s'/\D.ct σ' H'
 | .ret u=>∃ v σ' H',Inv X pins σ' H' s'/\RelV v u/\D.rt v H'
def PE (X:Cx) (e:Expr) (t:TE):Prop :=
 ∀ (pins:List (Addr × Obj)) (s:Shared) (σ:St) (H:Hp) (Q:VK),Inv X pins σ H s->t σ H Q->wpAny (model X.prog X.w) X.A (eval e X.env) (EP X pins σ Q) X.xe s
def PT (X:Cx) (e:Expr) (t:TT):Prop :=
 ∀ (pins:List (Addr × Obj)) (s:Shared) (σ:St) (H:Hp) (Q:Bool->Hp->Prop),Inv X pins σ H s->t σ H Q->wpAny (model X.prog X.w) X.A (isTrue e X.env (eval e X.env)) (TP X pins σ Q) X.xe s
def PW (X:Cx) (e:Expr) (t:TT):Prop :=
 ∀ (W7:Sem Value) (pins:List (Addr × Obj)) (s:Shared) (σ:St) (H:Hp) (Q:Bool->Hp->Prop),Inv X pins σ H s->t σ H Q->wpAny (model X.prog X.w) X.A (isTrue e X.env W7) (TP X pins σ Q) X.xe s
theorem PW.pt {X:Cx} {e:Expr} {t:TT} (h:PW X e t):PT X e t:=h _
def PA (X:Cx) (es:List Expr) (t:TA):Prop :=
 ∀ (pos:Pos) (pins:List (Addr × Obj)) (s:Shared) (σ:St) (H:Hp) (Q:List V->Hp->Prop),Inv X pins σ H s->t σ H Q->wpAny (model X.prog X.w) X.A (spliced (backTo pos (starEach es X.env))) (AP X pins σ Q) X.xe s
def PS (X:Cx) (st:Stmt) (t:TS):Prop :=
 ∀ (pins:List (Addr × Obj)) (s:Shared) (σ:St) (H:Hp) (D:Ends),Inv X pins σ H s->t D σ H->wpAny (model X.prog X.w) X.A (exec st X.env) (SP X pins D) X.xe s
def PSs (X:Cx) (st:List Stmt) (t:TS):Prop :=
 ∀ (pins:List (Addr × Obj)) (s:Shared) (σ:St) (H:Hp) (D:Ends),Inv X pins σ H s->t D σ H->wpAny (model X.prog X.w) X.A (execs st X.env) (SP X pins D) X.xe s
theorem thn {α:Type} {t:Sem α} {Q Q':α->Shared->Prop} {M:Model} {A:Around} {E:Value->Shared->Prop} {s:Shared} (h:wpAny M A t Q E s) (hQ:∀ a s,Q a s->Q' a s):wpAny M A t Q' E s:=wpAny_mono h hQ fun _ _ x=>x
end L2
namespace L2
open PySem PySem.Spec PyProof.Rows
section
variable {X:Cx}
def Q1 (i:Nat):TE:=fun σ H Q=>∃ v,σ[i]? = some (some v)/\Q v H
def tC (v:V):TE:=fun _ H Q=>Q v H
theorem zGt {i:Nat} {x:Str} {pos:Pos} (hN:X.N[i]? = some x) (hv:Vis X.env.scope x) (hd:(x == ("__debug__" : Str))=false:=by decide) (hcd:(x == ("__classdict__" : Str))=false:=by decide):PE X (.Name x pos) (Q1 i):=by
 intro pins s σ H Q I h
 obtain⟨v,e,h⟩:=h
 obtain⟨m,hn,hl⟩:=I.loc
 obtain⟨u,r,l⟩:=hl i x v hN e hv
 have fin:EP X pins σ Q u s:=⟨v,H,I,r,h⟩
 rcases l with ⟨hk,hm⟩ | ⟨hk,c,hc,hcell⟩
 ·exact wpAny_Name (wpAny_loadName_local I.ok.kind hk hn hm fin) hd
 ·rcases hk with hk | hk
  ·exact wpAny_Name (wpAny_loadName_cell I.ok.kind hk hc hcell fin) hd
  ·exact wpAny_Name (wpAny_loadName_free I.ok.kind hk hc hcell fin hcd) hd
theorem QB {i j pos}:PE X (.Constant (.int i) j pos) (tC (.int i)):=fun _ _ _ H _ I h=>wpAny_Constant_int ⟨.int i,H,I.tok _,I.rI,h⟩
theorem WP {b j pos}:PE X (.Constant (.bool b) j pos) (tC (.bl b)):=fun _ _ _ H _ I h=>Constant_bool ⟨.bl b,H,I,rfl,h⟩
theorem Q7 {j pos}:PE X (.Constant .none j pos) (tC .non):=fun _ _ _ H _ I h=>Constant_none ⟨.non,H,I,rfl,h⟩
theorem zBn {x j pos}:PE X (.Constant (.str x) j pos) (tC (.str x)):=fun _ _ _ H _ I h=>Calls.Constant_str ⟨.str x,H,I.tok _,I.rS,h⟩
def Gl (X:Cx) (x:Str):Prop:=X.env.kindOf x=some .globalImplicit
theorem zC2 {E:Value->Shared->Prop} {pins:List (Addr × Obj)} {s:Shared} {σ:St} {H:Hp} {x:Str} {u:Value} {pos:Pos} {Q:Value->Shared->Prop} (I:Inv X pins σ H s) (hg:Gl X x) (hm:X.mg x=some u) (h:Q u s)
  (hd:(x == ("__debug__" : Str))=false:=by decide):wpAny (model X.prog X.w) X.A (eval (.Name x pos) X.env) Q E s :=
 Calls.Name_function_global I.ok.kind hg (Calls.loadGlobal_global (by rw[I.ok.glob];exact I.mod.glob.keeps I.bk) hm h) hd
theorem JG {E:Value->Shared->Prop} {pins:List (Addr × Obj)} {s:Shared} {σ:St} {H:Hp} {x:Str} {u:Value} {pos:Pos} {Q:Value->Shared->Prop} (I:Inv X pins σ H s) (hg:Gl X x) (hm:X.mg x=none) (hv:bootBuiltins x=some u) (h:Q u s)
  (hn:x ≠ "__name__" := by decide) (hd:(x == ("__debug__" : Str))=false:=by decide):wpAny (model X.prog X.w) X.A (eval (.Name x pos) X.env) Q E s:=by
 obtain⟨mb,h1,h2⟩:=I.mod.blt
 exact Calls.Name_function_global I.ok.kind hg (Calls.loadGlobal_builtin (by rw[I.ok.glob];exact I.mod.glob.keeps I.bk) hm (by rw[I.ok.blt];exact h1.keeps I.bk) ((h2 x hn).trans hv) h) hd
theorem YI {x:Str} {v:V} {u:Value} {pos:Pos} (hg:Gl X x) (hm:X.mg x=some u) (r:RelV v u) (hd:(x == ("__debug__" : Str))=false:=by decide):PE X (.Name x pos) (tC v) :=
 fun _ _ _ H _ I h=>zC2 I hg hm ⟨v,H,I,r,h⟩ hd
theorem Qm {x:Str} {v:V} {u:Value} {pos:Pos} (hg:Gl X x) (hm:X.mg x=none) (hv:bootBuiltins x=some u) (r:RelV v u) (hn:x ≠ "__name__" := by decide) (hd:(x == ("__debug__" : Str))=false:=by decide):PE X (.Name x pos) (tC v) :=
 fun _ _ _ H _ I h=>JG I hg hm hv ⟨v,H,I,r,h⟩ hn hd
variable {a b:Expr} {ta tb:TE} {pos:Pos}
def tB (t:TE):TT:=fun σ H Q=>t σ H fun x H1=>∃ c,x=.bl c/\Q c H1
theorem Qy {e:Expr} {t:TE} (h:PE X e t) (he:∀ W7,isTrue e X.env W7=(do let v ← W7;standAt e.pos;holding [v] (truthy v)):=by intro _;rfl):PT X e (tB t):=by
 intro pins s σ H Q I hw
 refine isTrue_plain (thn (h pins s σ H _ I hw) fun v s1 ⟨x,H1,I1,r1,q1⟩=>?_) (he _)
 obtain⟨d,rfl,q⟩:=q1
 cases r1
 exact wpAny_truthy_bool ⟨H1,I1,q⟩
variable {tA tB':TT} {Qq:List Expr}
def zHh (t u:TT):TT:=fun σ H Q=>t σ H fun c H1=>if c=true then u σ H1 Q else Q false H1
def tOr (t u:TT):TT:=fun σ H Q=>t σ H fun c H1=>if c=true then Q true H1 else u σ H1 Q
def zFq (t:TT):TT:=fun σ H Q=>t σ H fun c H1=>Q (!c) H1
theorem Wh (ha:PT X a tA):PW X (.BoolOp .And [a] pos) tA:=by
 intro wh pins s σ H Q I h
 refine isTrue_and (thn (ha pins s σ H Q I h) fun c s1 e=>?_)
 cases c with
 | true=>exact isTrue_and_nil e
 | false=>exact e
theorem zCH (ha:PT X a tA):PW X (.BoolOp .Or [a] pos) tA:=by
 intro wh pins s σ H Q I h
 refine isTrue_or (thn (ha pins s σ H Q I h) fun c s1 e=>?_)
 cases c with
 | false=>exact isTrue_or_nil e
 | true=>exact e
theorem zAo (ha:PT X a tA) (hb:PW X (.BoolOp .And (b::Qq) pos) tB'):PW X (.BoolOp .And (a::b::Qq) pos) (zHh tA tB'):=by
 intro wh pins s σ H Q I h
 refine isTrue_and (thn (ha pins s σ H _ I h) fun c s1 ⟨H1,I1,q1⟩=>?_)
 cases c with
 | true=>exact hb wh pins s1 σ H1 Q I1 q1
 | false=>exact⟨H1,I1,q1⟩
theorem zEU (ha:PT X a tA) (hb:PW X (.BoolOp .Or (b::Qq) pos) tB'):PW X (.BoolOp .Or (a::b::Qq) pos) (tOr tA tB'):=by
 intro wh pins s σ H Q I h
 refine isTrue_or (thn (ha pins s σ H _ I h) fun c s1 ⟨H1,I1,q1⟩=>?_)
 cases c with
 | true=>exact⟨H1,I1,q1⟩
 | false=>exact hb wh pins s1 σ H1 Q I1 q1
theorem Ws (ha:PT X a tA):PT X (.UnaryOp .Not a pos) (zFq tA):=by
 intro pins s σ H Q I h
 exact isTrue_not (ha pins s σ H (fun c H1=>Q (!c) H1) I h)
def zGG (ta tb:TE):TE:=fun σ H Q=>ta σ H fun x H1=>∃ c,x=.bl c/\if c=true then tb σ H1 Q else Q (.bl false) H1
def zHn (ta tb:TE):TE:=fun σ H Q=>ta σ H fun x H1=>∃ c,x=.bl c/\if c=true then Q (.bl true) H1 else tb σ H1 Q
def zGQ (ta:TE):TE:=fun σ H Q=>ta σ H fun x H1=>∃ c,x=.bl c/\Q (.bl (!c)) H1
theorem YY {op} {t:TE} (h:PE X a t):PE X (.BoolOp op [a] pos) t:=fun pins s σ H Q I hw=>BoolOp_one (h pins s σ H Q I hw)
theorem YC (ha:PE X a ta) (hb:PE X (.BoolOp .And (b::Qq) pos) tb):PE X (.BoolOp .And (a::b::Qq) pos) (zGG ta tb):=by
 intro pins s σ H Q I h
 refine BoolOp_and (thn (ha pins s σ H _ I h) fun v s1 ⟨x,H1,I1,r1,q1⟩=>?_)
 obtain⟨c,rfl,q1⟩:=q1
 cases r1
 refine wpAny_truthy_bool ?_
 cases c with
 | true=>exact hb pins s1 σ H1 Q I1 q1
 | false=>exact⟨.bl false,H1,I1,rfl,q1⟩
theorem zHc (ha:PE X a ta) (hb:PE X (.BoolOp .Or (b::Qq) pos) tb):PE X (.BoolOp .Or (a::b::Qq) pos) (zHn ta tb):=by
 intro pins s σ H Q I h
 refine BoolOp_or (thn (ha pins s σ H _ I h) fun v s1 ⟨x,H1,I1,r1,q1⟩=>?_)
 obtain⟨c,rfl,q1⟩:=q1
 cases r1
 refine wpAny_truthy_bool ?_
 cases c with
 | false=>exact hb pins s1 σ H1 Q I1 q1
 | true=>exact⟨.bl true,H1,I1,rfl,q1⟩
theorem zDm (ha:PE X a ta):PE X (.UnaryOp .Not a pos) (zGQ ta):=by
 intro pins s σ H Q I h
 refine UnaryOp_ (thn (ha pins s σ H _ I h) fun v s1 ⟨x,H1,I1,r1,q1⟩=>?_)
 obtain⟨c,rfl,q1⟩:=q1
 cases r1
 exact not_of (wpAny_truthy_bool ⟨.bl (!c),H1,I1,rfl,q1⟩)
def tIf (t:TT) (ta tb:TE):TE:=fun σ H Q=>t σ H fun c H1=>if c=true then ta σ H1 Q else tb σ H1 Q
theorem zEP {c:Expr} (hc:PT X c tA) (ha:PE X a ta) (hb:PE X b tb):PE X (.IfExp c a b pos) (tIf tA ta tb):=by
 intro pins s σ H Q I h
 refine wpAny_IfExp (thn (hc pins s σ H _ I h) fun d s1 ⟨H1,I1,q1⟩=>?_)
 cases d with
 | true=>exact ha pins s1 σ H1 Q I1 q1
 | false=>exact hb pins s1 σ H1 Q I1 q1
end
end L2
namespace L2
open PySem PySem.Spec PyProof.Rows
def SqL (K:W.Frag) (H:Hp) (a:Addr) (xs:List V):Prop :=
 Rd H a (.lst xs) \/
  ∃ (o:Obj) (its:Array Value) (n:Nat),K.lookup a=some o/\o.cls=.type "list" /\ o.dict=none/\o.data=.seq its n/\its.size<=sizeLine/\Vals xs its.toList
def SqT (K:W.Frag) (H:Hp) (a:Addr) (xs:List V):Prop :=
 Rd H a (.tup xs) \/
  ∃ (o:Obj) (its:Array Value) (n:Nat),K.lookup a=some o/\o.cls=.type "tuple" /\ o.data=.seq its n/\its.size<=sizeLine/\Vals xs its.toList
def zH6:Value->Option V
 | .none=>some .non
 | .bool b=>some (.bl b)
 | .int i _=>some (.int i)
 | .str x _=>some (.str x)
 | .bytes b _=>some (.byt b)
 | .float b _=>some (.flt b)
 | .ref a=>some (.ref a)
 | .type n=>some (.ty n)
 | _=>none
theorem RelV.abs {x:V} {u:Value} (r:RelV x u):zH6 u=some x:=by
 cases x with
 | non=>cases r;rfl
 | bl _=>cases r;rfl
 | int _=>obtain⟨t,rfl⟩:=r;rfl
 | str _=>obtain⟨t,rfl⟩:=r;rfl
 | byt _=>obtain⟨t,rfl⟩:=r;rfl
 | flt _=>obtain⟨t,rfl⟩:=r;rfl
 | ref _=>cases r;rfl
 | ty _=>cases r;rfl
theorem RelV.inj {x y:V} {u:Value} (r:RelV x u) (q:RelV y u):x=y:=Option.some.inj (r.abs.symm.trans q.abs)
theorem Vals.inj:∀ {xs ys:List V} {us:List Value},Vals xs us->Vals ys us->xs=ys
 | _,_,_,.nil,.nil=>rfl
 | _,_,_,.cons r t,.cons r' t'=>by rw[r.inj r',Vals.inj t t']
section
variable {X:Cx} {pins:List (Addr × Obj)} {σ:St} {H:Hp} {s:Shared} {a:Addr} {xs ys:List V}
theorem SqL.of {K:W.Frag} (h:H a=some (.lst xs)):SqL K H a xs:=.inl (.inl h)
theorem SqT.of {K:W.Frag} (h:H a=some (.tup xs)):SqT K H a xs:=.inl (.inl h)
theorem Inv.list (I:Inv X pins σ H s) (h:SqL X.K H a xs):∃ its:List Value,Vals xs its/\PlainL s.heap a its.toArray/\xs.length<=sizeLine:=by
 rcases h with h | ⟨o,its,n,hk,hc,hd,hs,hz,r⟩
 ·obtain⟨z,its,n,r,e⟩:=h.ok I.hok
  exact⟨its,r,⟨_,n,e,rfl,rfl,rfl⟩,z⟩
 ·refine⟨its.toList,r,⟨o,n,I.kIn a o hk,hc,hd,by simpa using hs⟩,?_⟩
  have e:=r.length
  simp only[Array.length_toList] at e
  omega
theorem Inv.tuple (I:Inv X pins σ H s) (h:SqT X.K H a xs):∃ its:List Value,Vals xs its/\IsTup s.heap a its.toArray/\xs.length<=sizeLine:=by
 rcases h with h | ⟨o,its,n,hk,hc,hs,hz,r⟩
 ·obtain⟨z,its,r,p⟩:=h.ok I.hok
  exact⟨its,r,p,z⟩
 ·refine⟨its.toList,r,⟨o,I.kIn a o hk,hc,n,by simpa using hs⟩,?_⟩
  have e:=r.length
  simp only[Array.length_toList] at e
  omega
theorem Inv.list_inj (I:Inv X pins σ H s) (h:SqL X.K H a xs) (h':SqL X.K H a ys):xs=ys:=by
 obtain⟨its,r,⟨o,n,e,_,_,d⟩,_⟩:=I.list h
 obtain⟨its',r',⟨o',n',e',_,_,d'⟩,_⟩:=I.list h'
 rw[e] at e';cases e'
 rw[d] at d'
 injection d' with d1 _
 have:its=its':=by simpa using congrArg Array.toList d1
 subst this
 exact r.inj r'
theorem Inv.tuple_inj (I:Inv X pins σ H s) (h:SqT X.K H a xs) (h':SqT X.K H a ys):xs=ys:=by
 obtain⟨its,r,⟨o,e,_,n,d⟩,_⟩:=I.tuple h
 obtain⟨its',r',⟨o',e',_,n',d'⟩,_⟩:=I.tuple h'
 rw[e] at e';cases e'
 rw[d] at d'
 injection d' with d1 _
 have:its=its':=by simpa using congrArg Array.toList d1
 subst this
 exact r.inj r'
end
abbrev Cx.wish (X:Cx) (E:Value->Shared->Prop):Cx:={ X with xe:=E }
abbrev Cx.nox (X:Cx):Cx:=X.wish fun _ _=>False
theorem Cx.Ok.wish {X:Cx} (ok:X.Ok) (E:Value->Shared->Prop):(X.wish E).Ok :=
 ⟨ok.mod,ok.kind,ok.glob,ok.blt,ok.above,ok.inj,ok.has,ok.cab,ok.hd,ok.frames,ok.stk,ok.exf,ok.bs,ok.bsz,ok.noex,ok.exfs,ok.funs,ok.frf⟩
theorem Cx.Ok.unwish {X:Cx} {E:Value->Shared->Prop} (ok:(X.wish E).Ok):X.Ok :=
 ⟨ok.mod,ok.kind,ok.glob,ok.blt,ok.above,ok.inj,ok.has,ok.cab,ok.hd,ok.frames,ok.stk,ok.exf,ok.bs,ok.bsz,ok.noex,ok.exfs,ok.funs,ok.frf⟩
section
variable {X:Cx} {pins:List (Addr × Obj)} {σ:St} {H:Hp} {s:Shared} {E:Value->Shared->Prop}
theorem Inv.wish (I:Inv X pins σ H s) (E:Value->Shared->Prop):Inv (X.wish E) pins σ H s:=⟨I.ok.wish E,I.os,I.bare,I.base,I.loc,I.cell,I.free,I.freeC,I.pin,I.hok,I.len,I.tk⟩
theorem Inv.unwish (I:Inv (X.wish E) pins σ H s):Inv X pins σ H s:=⟨I.ok.unwish,I.os,I.bare,I.base,I.loc,I.cell,I.free,I.freeC,I.pin,I.hok,I.len,I.tk⟩
theorem SP.unwish {D:Ends} {f:Flow} {s':Shared} (h:SP (X.wish E) pins D f s'):SP X pins D f s':=by
 cases f with
 | next=>obtain⟨σ',H',I,q⟩:=h;exact⟨σ',H',I.unwish,q⟩
 | brk=>obtain⟨σ',H',I,q⟩:=h;exact⟨σ',H',I.unwish,q⟩
 | cont=>obtain⟨σ',H',I,q⟩:=h;exact⟨σ',H',I.unwish,q⟩
 | ret u=>obtain⟨v,σ',H',I,r,q⟩:=h;exact⟨v,σ',H',I.unwish,r,q⟩
theorem PSs.nox {st:List Stmt} {t:TS} (h:PSs X.nox st t):PSs X st t:=fun pins s σ H D I hw =>
 wpAny_mono (h pins s σ H D (I.wish _) hw) (fun _ _ q=>q.unwish) fun _ _ z=>False.elim z
end
section
variable {X:Cx} {st:Stmt} {Qq:List Stmt} {t u:TS} {e:Expr} {te:TE} {pos:Pos}
def zEY:TS:=fun D σ H=>D.nx σ H
def zFe (t u:TS):TS:=fun D σ H=>t { D with nx:=u D } σ H
theorem QT:PSs X [] zEY:=fun _ _ σ H _ I h=>wpAny_execs_nil ⟨σ,H,I,h⟩
theorem QC (h1:PS X st t) (h2:PSs X Qq u):PSs X (st::Qq) (zFe t u):=by
 intro pins s σ H D I h
 refine wpAny_execs_cons (thn (h1 pins s σ H { D with nx:=u D } I h) fun f s1 q=>?_)
 cases f with
 | next =>
  obtain⟨σ',H',I',q⟩:=q
  exact h2 pins s1 σ' H' D I' q
 | ret v=>exact q
 | brk=>exact q
 | cont=>exact q
theorem QG (h1:PS X st t):PSs X [st] t:=by
 intro pins s σ H D I h
 refine wpAny_execs_cons (thn (h1 pins s σ H D I h) fun f s1 q=>?_)
 cases f with
 | next=>exact wpAny_execs_nil q
 | ret v=>exact q
 | brk=>exact q
 | cont=>exact q
def zG0:TS:=fun D σ H=>D.bk σ H
def zHs:TS:=fun D σ H=>D.ct σ H
theorem zD8:PS X (.Break pos) zG0:=fun _ _ σ H _ I h=>wpAny_Break ⟨σ,H,I,h⟩
theorem Inv.quiet {pins:List (Addr × Obj)} {σ:St} {H:Hp} {s:Shared} (I:Inv X pins σ H s):interactive X.env=false:=by simp[interactive,I.ok.kind]
def zGM (te:TE):TS:=fun D σ H=>te σ H fun _ H1=>D.nx σ H1
theorem Wk (he:PE X e te) (hs:swapsWith e none pos.line X.env=pure false:=by rfl):PS X (.Expr e pos) (zGM te):=by
 intro pins s σ H D I h
 exact wpAny_Expr_any (thn (he pins s σ H _ I h) fun v s1 ⟨x,H1,I1,r1,q1⟩=>⟨σ,H1,I1,q1⟩) I.quiet hs
def zDs (te:TE):TS:=fun D σ H=>te σ H D.rt
theorem QM (he:PE X e te):PS X (.Return (some e) pos) (zDs te):=by
 intro pins s σ H D I h
 exact wpAny_Return_some (thn (he pins s σ H _ I h) fun v s1 ⟨x,H1,I1,r1,q1⟩=>⟨x,σ,H1,I1,r1,q1⟩)
def zHo:TS:=fun D _ H=>D.rt .non H
def zGf (c:TT) (t u:TS):TS:=fun D σ H=>c σ H fun b H1=>if b=true then t D σ H1 else u D σ H1
theorem QX {c:Expr} {a b:List Stmt} {tc:TT} (hc:PT X c tc) (ha:PSs X a t) (hb:PSs X b u):PS X (.If c a b pos) (zGf tc t u):=by
 intro pins s σ H D I h
 refine wpAny_If (thn (hc pins s σ H _ I h) fun d s1 ⟨H1,I1,q1⟩=>?_)
 cases d with
 | true=>exact ha pins s1 σ H1 D I1 q1
 | false=>exact hb pins s1 σ H1 D I1 q1
def zEA:TS:=fun _ _ _=>False
theorem zDy:PS X st zEA:=fun _ _ _ _ _ _ h=>h.elim
theorem Qs {sts:List Stmt}:PSs X sts zEA:=fun _ _ _ _ _ _ h=>h.elim
end
abbrev TG:=V->St->Hp->(St->Hp->Prop)->Prop
abbrev TGs:=List V->St->Hp->(St->Hp->Prop)->Prop
def PG (X:Cx) (target:Expr) (t:TG):Prop :=
 ∀ (pins:List (Addr × Obj)) (s:Shared) (σ:St) (H:Hp) (v:V) (u:Value) (Q:St->Hp->Prop),Inv X pins σ H s->RelV v u->t v σ H Q ->
  wpAny (model X.prog X.w) X.A (assign target X.env u) (fun _ s'=>∃ σ' H',Inv X pins σ' H' s'/\Q σ' H') X.xe s
def PGs (X:Cx) (ts:List Expr) (t:TGs):Prop :=
 ∀ (pins:List (Addr × Obj)) (s:Shared) (σ:St) (H:Hp) (vs:List V) (us:List Value) (Q:St->Hp->Prop),Inv X pins σ H s->Vals vs us->t vs σ H Q ->
  wpAny (model X.prog X.w) X.A (assignInOrder ((assignEach ts X.env).map (·.2)) us) (fun _ s'=>∃ σ' H',Inv X pins σ' H' s'/\Q σ' H') X.xe s
abbrev zFG:=V->V->V->Hp->(Hp->Prop)->Prop
def zHF (X:Cx) (t:zFG):Prop :=
 ∀ (pins:List (Addr × Obj)) (s:Shared) (σ:St) (H:Hp) (o i v:V) (ov iv u:Value) (Q:Hp->Prop),Inv X pins σ H s->RelV o ov->RelV i iv->RelV v u->t o i v H Q ->
  wpAny (model X.prog X.w) X.A (setItem ov iv u) (fun _ s'=>∃ H',Inv X pins σ H' s'/\Q H') X.xe s
section
variable {X:Cx} {pos:Pos}
def YW (i:Nat):TG:=fun v σ H Q=>Q (σ.set i (some v)) H
theorem Qg {i:Nat} {x:Str} (hN:X.N.Nodup) (hi:X.N[i]? = some x) (hx:Loc X.env.scope x) (hf:X.fn x=true\/X.env.scope.names.lookup x=some .local:=by first | exact .inl rfl | exact .inr rfl | assumption):PG X (.Name x pos) (YW i):=by
 intro pins s σ H v u Q I r h
 exact wpAny_assign_Name (JM I hN hi hx r (fun s' I'=>⟨_,H,I',h⟩) hf)
def zGu:TGs:=fun vs σ H Q=>vs=[]/\Q σ H
def zCc (t:TG) (u:TGs):TGs:=fun vs σ H Q=>∃ v r,vs=v::r/\t v σ H fun σ' H'=>u r σ' H' Q
theorem zAn:PGs X [] zGu:=by
 intro pins s σ H vs us Q I r h
 obtain⟨e,h⟩:=h
 subst e
 cases r
 exact assignInOrder_nil ⟨σ,H,I,h⟩
theorem Yj {e:Expr} {es:List Expr} {t:TG} {u:TGs} (h1:PG X e t) (h2:PGs X es u)
  (hs:(assignEach (e::es) X.env).map (·.2)=assign e X.env::(assignEach es X.env).map (·.2):=by rfl):PGs X (e::es) (zCc t u):=by
 intro pins s σ H vs us Q I r h
 obtain⟨v,vr,e1,h⟩:=h
 subst e1
 cases r with
 | cons r rr =>
  rw[hs]
  refine assignInOrder_cons (thn (h1 pins s σ H _ _ _ I r h) fun _ s1 ⟨σ1,H1,I1,q1⟩=>?_)
  exact h2 pins s1 σ1 H1 _ _ Q I1 rr q1
def zGp (K:W.Frag) (n:Nat) (t:TGs):TG:=fun v σ H Q=>∃ a xs,v=.ref a/\SqT K H a xs/\xs.length=n/\t xs σ H Q
theorem zCT {es:List Expr} {k:Nat} {t:TGs} {n:Nat} (hc:X.calm=true) (h:PGs X es t)
  (hn:(assignEach es X.env).length=n:=by rfl) (hst:(assignEach es X.env).findIdx? (·.1)=none:=by rfl):PG X (.Tuple es k pos) (zGp X.K n t):=by
 intro pins s σ H v u Q I r hw
 obtain⟨a,xs,e1,hq,hl,hw⟩:=hw
 subst e1
 cases r
 obtain⟨its,rv,ht,hz⟩:=I.tuple hq
 refine assign_Tuple_tuple (I.ok.hd hc) ht (by simp[hn,← hl,rv.length]) hst fun h' hx=>?_
 have I1:Inv X pins σ H { s with heap:=h' }:=I.kept (t':=s.toks) fun b o e=>hx b o (Nat.ne_of_lt (Heap.lt_size e)) e
 exact h pins _ σ H xs _ Q I1 (by simpa using rv) hw
def zHM (to ti:TE) (t:zFG):TG:=fun v σ H Q=>to σ H fun o H1=>ti σ H1 fun i H2=>t o i v H2 fun H3=>Q σ H3
theorem WN {o i:Expr} {to ti:TE} {t:zFG} (ho:PE X o to) (hi:PE X i ti) (hs:zHF X t)
  (ha:∀ v,assign (.Subscript o i pos) X.env v=(do
   let ov ← holding [v] (eval o X.env)
   let iv ← holding [v,ov] (eval i X.env)
   standAt pos
   holding [v,ov,iv] (setItem ov iv v)
   release [v,ov,iv] []):=by intro _;rfl):PG X (.Subscript o i pos) (zHM to ti t):=by
 intro pins s σ H v u Q I r h
 rw[ha]
 refine wpAny_bind (wpAny_holding (thn (ho pins s σ H _ I h) fun ov s1 ⟨x,H1,I1,r1,q1⟩=>?_))
 refine wpAny_bind (wpAny_holding (thn (hi pins s1 σ H1 _ I1 q1) fun iv s2 ⟨y,H2,I2,r2,q2⟩=>?_))
 refine wpAny_bind (wpAny_standAt (wpAny_bind (wpAny_holding (thn (hs pins s2 σ H2 x y v ov iv u _ I2 r1 r2 r q2) fun _ s3 ⟨H3,I3,q3⟩=>?_))))
 exact wpAny_release ⟨σ,H3,I3,q3⟩
def Wy (te:TE) (g:TG):TS:=fun D σ H=>te σ H fun x H1=>g x σ H1 D.nx
theorem WE {tg e:Expr} {te:TE} {g:TG} (he:PE X e te) (hg:PG X tg g) (hs:swapsWithSole [tg] e pos.line X.env=pure false:=by rfl) (hw:swappedStores [tg] e X.env=pure none:=by rfl)
  (h1:(assignEach [tg] X.env).map (·.2)=[assign tg X.env]:=by rfl):PS X (.Assign [tg] e pos) (Wy te g):=by
 intro pins s σ H D I h
 refine wpAny_Assign_stores (thn (he pins s σ H _ I h) fun v s1 ⟨x,H1,I1,r1,q1⟩=>?_) hs hw
 rw[h1]
 exact thn (hg pins s1 σ H1 x v _ I1 r1 q1) fun _ s2 q=>q
theorem QP {i:Nat} {x:Str} {e:Expr} {te:TE} {pos':Pos} (hN:X.N.Nodup) (hi:X.N[i]? = some x) (hx:Loc X.env.scope x) (he:PE X e te) (hs:swapsWith e (some (.Name x pos')) pos.line X.env=pure false:=by rfl) (hf:X.fn x=true\/X.env.scope.names.lookup x=some .local:=by first | exact .inl rfl | exact .inr rfl | assumption) :
  PS X (.Assign [.Name x pos'] e pos) (Wy te (YW i)):=by
 intro pins s σ H D I h
 refine wpAny_Assign_Name (thn (he pins s σ H _ I h) fun v s1 ⟨y,H1,I1,r1,q1⟩=>?_) hs
 exact JM I1 hN hi hx r1 (fun s2 I2=>⟨_,H1,I2,q1⟩) hf
end
section
variable {X:Cx} {pos:Pos}
def zGw (c:TT) (tb:TS):TS:=fun D σ H=>∃ W:Nat->St->Hp->Prop,(∃ m,W m σ H)/\∀ m σ H,W m σ H ->
 c σ H fun b H1=>if b=true then ∃ N:St->Hp->Prop,(∀ σ' H',N σ' H'->∃ m',m' < m/\W m' σ' H')/\tb { D with nx:=N,ct:=N,bk:=D.nx } σ H1 else D.nx σ H1
theorem zEb {c:Expr} {body:List Stmt} {tc:TT} {tb:TS} (hp:PassesOwn (model X.prog X.w) X.A X.env X.xe) (hc:PT X c tc) (hb:PSs X body tb):PS X (.While c body [] pos) (zGw tc tb):=by
 intro pins s σ H D I h
 obtain⟨W,⟨m0,w0⟩,turn⟩:=h
 refine wpAny_While (codeAny_whileLoop (fun n s'=>∃ σ' H',Inv X pins σ' H' s'/\W n σ' H') ?_ m0 ⟨σ,H,I,w0⟩)
 rintro n s1 ⟨σ1,H1,I1,w1⟩
 refine wpAny_passesOwn hp (thn (hc pins s1 σ1 H1 _ I1 (turn n σ1 H1 w1)) fun b s2 ⟨H2,I2,q2⟩=>?_)
 cases b with
 | true =>
  obtain⟨N,hN,q2⟩:=q2
  rw[if_pos rfl]
  refine wpAny_passesOwn hp (thn (hb pins s2 σ1 H2 _ I2 q2) fun f s3 q3=>?_)
  cases f with
  | next =>
   obtain⟨σ3,H3,I3,n3⟩:=q3
   obtain⟨m',hm,w3⟩:=hN σ3 H3 n3
   exact⟨m',hm,σ3,H3,I3,w3⟩
  | cont =>
   obtain⟨σ3,H3,I3,n3⟩:=q3
   obtain⟨m',hm,w3⟩:=hN σ3 H3 n3
   exact⟨m',hm,σ3,H3,I3,w3⟩
  | brk=>exact q3
  | ret v=>exact q3
 | false =>
  rw[if_neg Bool.false_ne_true]
  exact wpAny_execs_nil ⟨σ1,H2,I2,q2⟩
end
structure It where
 go:Nat->Hp->Prop
 yld:Nat->Hp->V->Hp->Prop
 stop:Nat->Hp->Prop
def ZO (X:Cx) (pins:List (Addr × Obj)) (H:Hp) (b:Addr):Prop :=
 H b=none/\b ≠ X.env.locals/\b ∉ X.fs/\(b∈X.ex\/X.s₀.heap.objs.size<=b)/\(∀ x c,X.env.cells.lookup x=some c->c ≠ b)/\∀ p∈X.pn++pins,p.1 ≠ b
theorem Inv.fpOk {X:Cx} {pins:List (Addr × Obj)} {σ:St} {H H':Hp} {s:Shared} {b:Addr} (I:Inv X pins σ H s) (hb:s.heap.objs.size<=b) (hn:H' b=none):ZO X pins H' b:=by
 refine⟨hn,Nat.ne_of_gt (Nat.lt_of_lt_of_le I.lt hb),I.nofs hb,.inr (Nat.le_trans I.sz hb),fun x c e z=>?_,fun p hp z=>?_⟩
 ·obtain⟨v,q⟩:=I.cell x c e
  exact absurd (Nat.lt_of_lt_of_le q.lt (by rw[z];exact hb)) (Nat.lt_irrefl _)
 ·exact absurd (Nat.lt_of_lt_of_le (Heap.lt_size (I.pin p hp).1) (by rw[z];exact hb)) (Nat.lt_irrefl _)
structure Turn (P:Program) (w:World) (K:W.Frag) (tg:Expr) (J:It) (fp:List Addr) (it:Addr) (tn:Nat->Heap->Prop):Prop where
 mem:it∈fp
 obj:∀ i h,tn i h->∀ b∈fp,∃ o,h.get? b=some o/\∀ v,o.data ≠ .cell v
 keep:∀ i h h',tn i h->(∀ b∈fp,∀ o,h.get? b=some o->h'.get? b=some o)->tn i h'
 item:∀ (X:Cx),X.prog=P->X.w=w->X.K=K->X.calm=true->∀ (i:Nat) (pins:List (Addr × Obj)) (s:Shared) (σ:St) (H:Hp) (E:Value->Shared->Prop),Inv X pins σ H s->(∀ b∈fp,ZO X pins H b)->tn i s.heap->J.go i H ->
  wpAny (model P w) X.A (pyNext (.ref it)) (fun r s1=>∃ u,r=some u /\
   wpAny (model P w) X.A (letOwnedTupleGo tg (.ref it) u) (fun _ s2=>∃ x H',Inv X pins σ H' s2/\RelV x u/\J.yld i H x H'/\tn (i+1) s2.heap/\∀ b∈fp,H' b=none) E s1) E s
 done:∀ (X:Cx),X.prog=P->X.w=w->X.K=K->X.calm=true->∀ (i:Nat) (pins:List (Addr × Obj)) (s:Shared) (σ:St) (H:Hp) (E:Value->Shared->Prop),Inv X pins σ H s->(∀ b∈fp,ZO X pins H b)->tn i s.heap->J.stop i H ->
  wpAny (model P w) X.A (pyNext (.ref it)) (fun r s1=>r=none/\Inv X pins σ H s1) E s
 self:∀ (A:Around) (i:Nat) (s:Shared) (Q:Value->Shared->Prop) (E:Value->Shared->Prop),tn i s.heap->Q (.ref it) s->wpAny (model P w) A (pyIter (.ref it)) Q E s
abbrev TI:=St->Hp->(It->Hp->Prop)->Prop
def PIE (X:Cx) (pins:List (Addr × Obj)) (σ:St) (tg:Expr) (R:It->Hp->Prop) (itv:Value) (s2:Shared):Prop :=
 ∃ (it:Addr) (fp:List Addr) (tn:Nat->Heap->Prop) (J:It) (H':Hp),itv=.ref it/\Inv X pins σ H' s2/\Turn X.prog X.w X.K tg J fp it tn/\tn 0 s2.heap/\(∀ b∈fp,ZO X pins H' b)/\R J H'
def PI (X:Cx) (tg iter:Expr) (wi:TI):Prop :=
 ∀ (pins:List (Addr × Obj)) (s:Shared) (σ:St) (H:Hp) (R:It->Hp->Prop),Inv X pins σ H s->wi σ H R ->
  wpAny (model X.prog X.w) X.A (eval iter X.env) (fun v s1=>wpAny (model X.prog X.w) X.A (pyIter v) (PIE X pins σ tg R) X.xe s1) X.xe s
theorem zBW {M:Model} {A:Around} {E:Value->Shared->Prop} {s:Shared} {tg:Expr} {it:Addr} {u:Value} {o:Obj} {n:String} {vs:Array Value} {Q:Unit->Shared->Prop} (ho:s.heap.get? it=some o) (hc:o.cls=.type n) (hd:o.data=.fields vs)
  (hn:["enumerate", "zip", "dict_itemiterator", "dict_reverseitemiterator", "odict_iterator", "itertools.zip_longest", "itertools.pairwise"].contains n=false) (hQ:Q () s):wpAny M A (letOwnedTupleGo tg (.ref it) u) Q E s:=by
 unfold letOwnedTupleGo
 cases tg <;> first
  | exact wpAny_pure hQ
  | (cases u <;> first
    | exact wpAny_pure hQ
    | (refine wpAny_bind (wpAny_load ho ?_)
       rw[hc,hd]
       show wpAny M A (if (["enumerate", "zip", "dict_itemiterator", "dict_reverseitemiterator", "odict_iterator", "itertools.zip_longest", "itertools.pairwise"].contains n && vs[0]? == some (rawInt _))=true then _ else _) Q E s
       rw[if_neg (by intro h;rw[hn,Bool.false_and] at h;cases h)]
       exact wpAny_pure hQ))
def Itl (K:W.Frag) (a:Addr):It :=
 ⟨fun i H=>∃ xs x,SqL K H a xs/\xs[i]? = some x,fun i H x H'=>H'=H/\∀ xs,SqL K H a xs->xs[i]? = some x,fun i H=>∃ xs,SqL K H a xs/\xs.length<=i⟩
def Itt (K:W.Frag) (a:Addr):It :=
 ⟨fun i H=>∃ xs x,SqT K H a xs/\xs[i]? = some x,fun i H x H'=>H'=H/\∀ xs,SqT K H a xs->xs[i]? = some x,fun i H=>∃ xs,SqT K H a xs/\xs.length<=i⟩
def Itr (lo:Int) (n:Nat):It:=⟨fun i _=>i < n,fun i H x H'=>H'=H/\x=.int (lo+i),fun i _=>n<=i⟩
theorem zDW {P:Program} {w:World} {K:W.Frag} {tg:Expr} (a it:Addr):Turn P w K tg (Itl K a) [it] it (fun i h=>h.IsListIter it a i) where
 mem:=by simp
 obj:=fun i h st b hb=>by
  have e:b=it:=by simpa using hb
  subst e
  obtain⟨o,e,c,d⟩:=st
  exact⟨o,e,fun v z=>by rw[d] at z;cases z⟩
 keep:=fun i h h' st k=>st.at fun o e=>k it (by simp) o e
 item:=by
  intro X hP hw hK hc i pins s σ H E I hf st hg
  subst hP hw hK
  obtain⟨xs,x,hq,hx⟩:=hg
  obtain⟨its,rv,p,hz⟩:=I.list hq
  obtain⟨u,hu,ru⟩:=rv.get hx
  obtain⟨f0,f1,f2,f3,f4,f5⟩:=hf it (by simp)
  refine wpAny_pyNext_list_item st p.isList (x:=u) (by simpa using hu) fun h' st' sb=>?_
  have I1:Inv X pins σ H { s with heap:=h' }:=I.turned (t':=s.toks) (fun b o hb e=>(sb.2 b hb).trans e) f0 f1 f3 f4 f5
  obtain⟨o,e,c,d⟩:=id st'
  exact⟨u,rfl,zBW (s:={ s with heap:=h' }) e c d (by decide) ⟨x,H,I1,ru,⟨rfl,fun ys hy=>by rw[I.list_inj hy hq];exact hx⟩,st',fun b hb=>(hf b hb).1⟩⟩
 done:=by
  intro X hP hw hK hc i pins s σ H E I hf st hg
  subst hP hw hK
  obtain⟨xs,hq,hx⟩:=hg
  obtain⟨its,rv,p,hz⟩:=I.list hq
  obtain⟨f0,f1,f2,f3,f4,f5⟩:=hf it (by simp)
  have hl:=rv.length
  exact wpAny_pyNext_list_end (I.ok.hd hc) st p.isList (by simp;omega) fun h' eb=>⟨rfl,I.turned (t':=s.toks) (fun b o hb e=>eb b o hb e) f0 f1 f3 f4 f5⟩
 self:=fun _ _ _ _ _ st h=>wpAny_pyIter_listiter st h
theorem zCP {P:Program} {w:World} {K:W.Frag} {tg:Expr} (a it:Addr):Turn P w K tg (Itt K a) [it] it (fun i h=>h.IsTupleIter it a i) where
 mem:=by simp
 obj:=fun i h st b hb=>by
  have e:b=it:=by simpa using hb
  subst e
  obtain⟨o,e,c,d⟩:=st
  exact⟨o,e,fun v z=>by rw[d] at z;cases z⟩
 keep:=fun i h h' st k=>st.at fun o e=>k it (by simp) o e
 item:=by
  intro X hP hw hK hc i pins s σ H E I hf st hg
  subst hP hw hK
  obtain⟨xs,x,hq,hx⟩:=hg
  obtain⟨its,rv,p,hz⟩:=I.tuple hq
  obtain⟨u,hu,ru⟩:=rv.get hx
  obtain⟨f0,f1,f2,f3,f4,f5⟩:=hf it (by simp)
  refine wpAny_pyNext_tuple_item st (show s.heap.IsTuple a its.toArray from p) (x:=u) (by simpa using hu) fun h' st' sb=>?_
  have I1:Inv X pins σ H { s with heap:=h' }:=I.turned (t':=s.toks) (fun b o hb e=>(sb.2 b hb).trans e) f0 f1 f3 f4 f5
  obtain⟨o,e,c,d⟩:=id st'
  exact⟨u,rfl,zBW (s:={ s with heap:=h' }) e c d (by decide) ⟨x,H,I1,ru,⟨rfl,fun ys hy=>by rw[I.tuple_inj hy hq];exact hx⟩,st',fun b hb=>(hf b hb).1⟩⟩
 done:=by
  intro X hP hw hK hc i pins s σ H E I hf st hg
  subst hP hw hK
  obtain⟨xs,hq,hx⟩:=hg
  obtain⟨its,rv,p,hz⟩:=I.tuple hq
  obtain⟨f0,f1,f2,f3,f4,f5⟩:=hf it (by simp)
  have hl:=rv.length
  exact wpAny_pyNext_tuple_end (I.ok.hd hc) st (show s.heap.IsTuple a its.toArray from p) (by simp;omega) fun h' eb=>⟨rfl,I.turned (t':=s.toks) (fun b o hb e=>eb b o hb e) f0 f1 f3 f4 f5⟩
 self:=fun _ _ _ _ _ st h=>wpAny_pyIter_tupleiter st h
theorem zBi {P:Program} {w:World} {K:W.Frag} {tg:Expr} (it:Addr) (lo:Int) (n:Nat):Turn P w K tg (Itr lo n) [it] it (fun i h=>IsRangeIter h it (lo+(i:Nat)*1) ((n:Int) - (i:Nat)) 1) where
 mem:=by simp
 obj:=fun i h st b hb=>by
  have e:b=it:=by simpa using hb
  subst e
  exact⟨_,st,fun v z=>by
   have z':Data.fields _=Data.cell v:=z
   cases z'⟩
 keep:=fun i h h' st k=>k it (by simp) _ st
 item:=by
  intro X hP hw hK hc i pins s σ H E I hf st hg
  subst hP hw hK
  obtain⟨f0,f1,f2,f3,f4,f5⟩:=hf it (by simp)
  have hit:IsRangeIter s.heap it (lo+(i:Int)*1) ((n:Int) - (i:Int)) 1:=st
  rw[Int.mul_one] at hit
  refine wpAny_pyNext_range_item hit (by have:i < n:=hg;omega) fun h' hit' sb=>?_
  have st':IsRangeIter h' it (lo+((i+1:Nat):Int)*1) ((n:Int) - ((i+1:Nat):Int)) 1:=by
   have e1:lo+((i+1:Nat):Int)*1=lo+i+1:=by omega
   have e2:(n:Int) - ((i+1:Nat):Int)=n - i - 1:=by omega
   rw[e1,e2];exact hit'
  have I1:Inv X pins σ H { s with heap:=h',toks:=s.toks+1 }:=I.turned (fun b o hb e=>(sb.2 b hb).trans e) f0 f1 f3 f4 f5
  exact⟨_,rfl,zBW (s:={ s with heap:=h',toks:=s.toks+1 }) (n := "range_iterator") st' rfl rfl (by decide) ⟨.int (lo+i),H,I1,I.rI,⟨rfl,rfl⟩,st',fun b hb=>(hf b hb).1⟩⟩
 done:=by
  intro X hP hw hK hc i pins s σ H E I hf st hg
  subst hP hw hK
  obtain⟨f0,f1,f2,f3,f4,f5⟩:=hf it (by simp)
  exact wpAny_pyNext_range_end (I.ok.hd hc) st (by have:n<=i:=hg;omega) fun h' eb=>⟨rfl,I.turned (t':=s.toks) (fun b o hb e=>eb b o hb e) f0 f1 f3 f4 f5⟩
 self:=fun _ _ _ _ _ st h=>wpAny_pyIter_rangeiter st h
end L2
namespace L2
open PySem PySem.Spec PyProof.Rows
section
variable {X:Cx} {tg:Expr}
def zFA (K:W.Frag) (tl:TE):TI:=fun σ H R=>tl σ H fun x H1=>∃ a,x=.ref a/\(∃ xs,SqL K H1 a xs)/\R (Itl K a) H1
def zHm (K:W.Frag) (tl:TE):TI:=fun σ H R=>tl σ H fun x H1=>∃ a,x=.ref a/\(∃ xs,SqT K H1 a xs)/\R (Itt K a) H1
theorem YM {l:Expr} {tl:TE} (hl:PE X l tl):PI X tg l (zFA X.K tl):=by
 intro pins s σ H R I h
 refine thn (hl pins s σ H _ I h) fun v s1 ⟨x,H1,I1,r1,q1⟩=>?_
 obtain⟨a,e,⟨xs,hq⟩,q⟩:=q1
 subst e
 cases r1
 obtain⟨its,rv,p,hz⟩:=I1.list hq
 refine wpAny_pyIter_list p.isList ?_
 refine⟨s1.heap.objs.size,[s1.heap.objs.size],_,_,H1,rfl,I1.kept (t':=s1.toks) fun b o e=>Heap.get?_push_of_some _ e,zDW a _,⟨_,Heap.get?_push_size _ rfl,rfl,rfl⟩,fun b hb=>?_,q⟩
 have e:b=s1.heap.objs.size:=by simpa using hb
 subst e
 exact I1.fpOk (Nat.le_refl _) (I1.hok.fresh (Nat.le_refl _))
theorem zD5 {l:Expr} {tl:TE} (hl:PE X l tl):PI X tg l (zHm X.K tl):=by
 intro pins s σ H R I h
 refine thn (hl pins s σ H _ I h) fun v s1 ⟨x,H1,I1,r1,q1⟩=>?_
 obtain⟨a,e,⟨xs,hq⟩,q⟩:=q1
 subst e
 cases r1
 obtain⟨its,rv,p,hz⟩:=I1.tuple hq
 refine wpAny_pyIter_tuple (show s1.heap.IsTuple a its.toArray from p) ?_
 refine⟨s1.heap.objs.size,[s1.heap.objs.size],_,_,H1,rfl,I1.kept (t':=s1.toks) fun b o e=>Heap.get?_push_of_some _ e,zCP a _,⟨_,Heap.get?_push_size _ rfl,rfl,rfl⟩,fun b hb=>?_,q⟩
 have e:b=s1.heap.objs.size:=by simpa using hb
 subst e
 exact I1.fpOk (Nat.le_refl _) (I1.hok.fresh (Nat.le_refl _))
theorem zEy {pins:List (Addr × Obj)} {σ:St} {H:Hp} {s:Shared} {R:It->Hp->Prop} {E:Value->Shared->Prop} {lo hi:Int} {t u v:Tok} {tk:Nat} (I:Inv X pins σ H s) (htk:1<=tk) (h1 : -(2 ^ 62)<=lo) (h2:lo < 2 ^ 62) (h3 : -(2 ^ 62)<=hi) (h4:hi < 2 ^ 62)
  (q:R (Itr lo (hi - lo).toNat) H):wpAny (model X.prog X.w) X.A (pyIter (.ref s.heap.objs.size)) (PIE X pins σ tg R) E { s with heap:=s.heap.push { cls:=.type "range",data:=.fields #[.int lo t,.int hi u,.int 1 v] },toks:=tk }:=by
 refine wpAny_pyIter_range (IsRange.new ..) (small_one h1 h2 h3 h4) ?_
 have I1:Inv X pins σ H { s with heap:=s.heap.push { cls:=.type "range",data:=.fields #[.int lo t,.int hi u,.int 1 v] },toks:=tk }:=I.kept fun b o e=>Heap.get?_push_of_some _ e
 refine⟨(s.heap.push { cls:=.type "range",data:=.fields #[.int lo t,.int hi u,.int 1 v] }).objs.size,[(s.heap.push { cls:=.type "range",data:=.fields #[.int lo t,.int hi u,.int 1 v] }).objs.size],_,_,H,rfl,
  I1.kept (t':=tk) fun b o e=>Heap.get?_push_of_some _ e,zBi _ lo (hi - lo).toNat,?_,fun b hb=>?_,q⟩
 ·have e1:lo+((0:Nat):Int)*1=lo:=by simp
  have e2:(((hi - lo).toNat:Nat):Int) - ((0:Nat):Int)=Builtin.Range.rangeSize lo hi 1:=by rw[rangeSize_one];split <;> omega
  show IsRangeIter _ _ (lo+((0:Nat):Int)*1) ((((hi - lo).toNat:Nat):Int) - ((0:Nat):Int)) 1
  rw[e1,e2]
  exact Heap.get?_push_size _ rfl
 ·have e:b=(s.heap.push { cls:=.type "range",data:=.fields #[.int lo t,.int hi u,.int 1 v] }).objs.size:=by simpa using hb
  subst e
  exact I1.fpOk (Nat.le_refl _) (I1.hok.fresh (Nat.le_refl _))
def zGN (ta:TA):TI:=fun σ H R=>ta σ H fun vs H1=>∃ j:Int,vs=[.int j] /\ -(2 ^ 62)<=j/\j < 2 ^ 62/\R (Itr 0 j.toNat) H1
def zHg (ta:TA):TI:=fun σ H R=>ta σ H fun vs H1=>∃ i j:Int,vs=[.int i,.int j]/\(-(2 ^ 62)<=i/\i < 2 ^ 62 /\ -(2 ^ 62)<=j/\j < 2 ^ 62)/\R (Itr i (j - i).toNat) H1
theorem YG {a:Expr} {ta:TA} {p pos:Pos} (hg:Gl X "range") (hm:X.mg "range" = none) (ha:PA X [a] ta) (hs:starEach [a] X.env=[(false,eval a X.env)]:=by rfl):PI X tg (.Call (.Name "range" p) [a] [] pos) (zGN ta):=by
 intro pins s σ H R I h
 refine Call_ (JG I hg hm boot_range (PyProof.Rows.callWith_type1 (thn (ha pos pins s σ H _ I h) fun us s1 ⟨vs,H1,I1,r1,q1⟩=>?_) hs rfl))
 obtain⟨j,e,q1,q2,q⟩:=q1
 subst e
 cases r1 with
 | cons r rr =>
  cases rr
  obtain⟨t,rfl⟩:=r
  exact call_range_1 (zEy I1 (by have:=I1.tk;omega) (by omega) (by omega) q1 q2 (by simpa using q))
def zHv (wi:TI) (g:TG) (tb:TS):TS:=fun D σ H=>wi σ H fun J H1=>∃ W:Nat->Nat->St->Hp->Prop,(∃ m,W 0 m σ H1)/\∀ i m σ H,W i m σ H ->
 (J.stop i H/\D.nx σ H)\/(J.go i H/\∃ N:St->Hp->Prop,(∀ σ' H',N σ' H'->∃ m',m' < m/\W (i+1) m' σ' H')/\∀ x H',J.yld i H x H'->g x σ H' fun σ2 H2=>tb { D with nx:=N,ct:=N,bk:=D.nx } σ2 H2)
def Y8 (fp:List Addr) (h:Heap):List (Addr × Obj):=fp.filterMap fun b=>(h.get? b).map fun o=>(b,o)
theorem YD {fp:List Addr} {h:Heap} {b:Addr} {o:Obj} (hb:b∈fp) (e:h.get? b=some o):(b,o)∈Y8 fp h:=List.mem_filterMap.mpr ⟨b,hb,by rw[e];rfl⟩
theorem zDj {fp:List Addr} {h:Heap} {p:Addr × Obj} (hp:p∈Y8 fp h):p.1∈fp/\h.get? p.1=some p.2:=by
 obtain⟨b,hb,e⟩:=List.mem_filterMap.mp hp
 cases q:h.get? b with
 | none=>rw[q] at e;cases e
 | some o =>
  rw[q] at e
  have e':(b,o)=p:=Option.some.inj e
  subst e'
  exact⟨hb,q⟩
theorem Inv.pinned {pins:List (Addr × Obj)} {σ:St} {H:Hp} {s:Shared} {fp:List Addr} (I:Inv X pins σ H s) (hf:∀ b∈fp,ZO X pins H b) (ho:∀ b∈fp,∃ o,s.heap.get? b=some o/\∀ v,o.data ≠ .cell v):Inv X (pins++Y8 fp s.heap) σ H s :=
 I.pins_of fun p hp=>(List.mem_append.mp hp).elim (fun z=>I.pin p (List.mem_append_right _ z)) fun z=>by
  obtain⟨hb,e⟩:=zDj z
  obtain⟨f0,f1,f2,_⟩:=hf p.1 hb
  obtain⟨o,e',d⟩:=ho p.1 hb
  rw[e] at e';cases e'
  exact⟨e,f0,f1,f2,d⟩
theorem Inv.unpinned {pins pl:List (Addr × Obj)} {σ:St} {H:Hp} {s:Shared} (I:Inv X (pins++pl) σ H s):Inv X pins σ H s:=I.pins_of fun p hp=>I.pin p (List.mem_append_right _ (List.mem_append_left _ hp))
theorem Q3 {iter:Expr} {body:List Stmt} {wi:TI} {g:TG} {tb:TS} {pos:Pos} (hp:PassesOwn (model X.prog X.w) X.A X.env X.xe) (hc:X.calm=true) (hi:PI X tg iter wi) (hg:PG X tg g) (hb:PSs X body tb)
  (hs:∀ x,foldedSetIterable iter X.env x=pure x:=by intro _;rfl):PS X (.For tg iter body [] pos) (zHv wi g tb):=by
 intro pins s σ H D I h
 refine wpAny_For (thn (hi pins s σ H _ I h) fun v s1 h1=>thn h1 fun itv s2 h2=>?_) hs
 obtain⟨it,fp,tn,J,H2,e,I2,T,st2,f2,W,⟨m0,w0⟩,turn⟩:=h2
 subst e
 have stat:∀ {H':Hp},(∀ b∈fp,H' b=none)->∀ b∈fp,ZO X pins H' b:=fun hn b hb=>⟨hn b hb,(f2 b hb).2⟩
 refine codeAny_forLoop_any (fun n s'=>∃ i σ' H',Inv X pins σ' H' s'/\tn i s'.heap/\(∀ b∈fp,H' b=none)/\W i n σ' H') ?_ m0 ⟨0,σ,H2,I2,st2,fun b hb=>(f2 b hb).1,w0⟩
 rintro n s3 ⟨i,σ3,H3,I3,st3,fr3,w3⟩
 rcases turn i n σ3 H3 w3 with ⟨stop,qn⟩ | ⟨go,N,hN,step⟩
 ·refine wpAny_passesOwn hp (thn (T.done X rfl rfl rfl hc i pins s3 σ3 H3 X.xe I3 (stat fr3) st3 stop) fun r s4 ⟨hr,I4⟩=>?_)
  subst hr
  exact wpAny_execs_nil ⟨σ3,H3,I4,qn⟩
 ·refine wpAny_passesOwn hp (thn (T.item X rfl rfl rfl hc i pins s3 σ3 H3 X.xe I3 (stat fr3) st3 go) fun r s4 ⟨u,hr,h4⟩=>?_)
  subst hr
  refine wpAny_passesOwn hp (thn h4 fun _ s5 ⟨x,H5,I5,r5,y5,st5,fr5⟩=>?_)
  have I5':=I5.pinned (stat fr5) (T.obj _ _ st5)
  refine wpAny_passesOwn hp (thn (hg _ s5 σ3 H5 x u _ I5' r5 (step x H5 y5)) fun _ s6 ⟨σ6,H6,I6,q6⟩=>?_)
  refine wpAny_passesOwn hp (thn (hb _ s6 σ6 H6 _ I6 q6) fun f s7 q7=>?_)
  have again:∀ {σ7:St} {H7:Hp},Inv X (pins++Y8 fp s5.heap) σ7 H7 s7->N σ7 H7->∃ m,m < n/\∃ i σ' H',Inv X pins σ' H' s7/\tn i s7.heap/\(∀ b∈fp,H' b=none)/\W i m σ' H':=fun {σ7 H7} I7 n7=>by
   obtain⟨m',hm,w7⟩:=hN σ7 H7 n7
   refine⟨m',hm,i+1,σ7,H7,I7.unpinned,T.keep _ _ _ st5 fun b hb o e=>(I7.pin (b,o) (List.mem_append_right _ (List.mem_append_right _ (YD hb e)))).1,fun b hb=>?_,w7⟩
   obtain⟨o,e,d⟩:=T.obj _ _ st5 b hb
   exact (I7.pin (b,o) (List.mem_append_right _ (List.mem_append_right _ (YD hb e)))).2.1
  cases f with
  | next=>obtain⟨σ7,H7,I7,n7⟩:=q7;exact again I7 n7
  | cont=>obtain⟨σ7,H7,I7,n7⟩:=q7;exact again I7 n7
  | brk=>obtain⟨σ7,H7,I7,q7⟩:=q7;exact⟨σ7,H7,I7.unpinned,q7⟩
  | ret v=>obtain⟨x7,σ7,H7,I7,r7,q7⟩:=q7;exact⟨x7,σ7,H7,I7.unpinned,r7,q7⟩
end
theorem zEs {K:W.Frag} {a:Addr} {xs:List V} {g:TG} {tb:TS} {D:Ends} {σ:St} {H:Hp} (Pv:Nat->St->Hp->Prop) (h0:Pv 0 σ H) (hl:∀ i σ H,i<=xs.length->Pv i σ H->SqL K H a xs)
  (hs:∀ i x σ H,xs[i]? = some x->Pv i σ H->g x σ H fun σ2 H2=>tb { D with nx:=Pv (i+1),ct:=Pv (i+1),bk:=D.nx } σ2 H2) (hd:∀ σ H,Pv xs.length σ H->D.nx σ H) :
  ∃ W:Nat->Nat->St->Hp->Prop,(∃ m,W 0 m σ H)/\∀ i m σ H,W i m σ H ->
   ((Itl K a).stop i H/\D.nx σ H)\/((Itl K a).go i H/\∃ N:St->Hp->Prop,(∀ σ' H',N σ' H'->∃ m',m' < m/\W (i+1) m' σ' H')/\∀ x H',(Itl K a).yld i H x H'->g x σ H' fun σ2 H2=>tb { D with nx:=N,ct:=N,bk:=D.nx } σ2 H2):=by
 refine⟨fun i m σ H=>m=xs.length - i/\i<=xs.length/\Pv i σ H,⟨xs.length,by simp,Nat.zero_le _,h0⟩,?_⟩
 rintro i m σ H ⟨rfl,hi,p⟩
 have q:=hl i σ H hi p
 by_cases hlt:i < xs.length
 ·refine .inr ⟨⟨xs,xs[i],q,by simp[hlt]⟩,Pv (i+1),fun σ' H' p'=>⟨xs.length - (i+1),by omega,rfl,hlt,p'⟩,fun x H' y=>?_⟩
  obtain⟨e,y⟩:=y
  subst e
  exact hs i x σ _ (y xs q) p
 ·have e:i=xs.length:=by omega
  subst e
  exact .inl ⟨⟨xs,q,Nat.le_refl _⟩,hd σ H p⟩
theorem zF7 {K:W.Frag} {a:Addr} {xs:List V} {g:TG} {tb:TS} {D:Ends} {σ:St} {H:Hp} (Pv:Nat->St->Hp->Prop) (h0:Pv 0 σ H) (hl:∀ i σ H,i<=xs.length->Pv i σ H->SqT K H a xs)
  (hs:∀ i x σ H,xs[i]? = some x->Pv i σ H->g x σ H fun σ2 H2=>tb { D with nx:=Pv (i+1),ct:=Pv (i+1),bk:=D.nx } σ2 H2) (hd:∀ σ H,Pv xs.length σ H->D.nx σ H) :
  ∃ W:Nat->Nat->St->Hp->Prop,(∃ m,W 0 m σ H)/\∀ i m σ H,W i m σ H ->
   ((Itt K a).stop i H/\D.nx σ H)\/((Itt K a).go i H/\∃ N:St->Hp->Prop,(∀ σ' H',N σ' H'->∃ m',m' < m/\W (i+1) m' σ' H')/\∀ x H',(Itt K a).yld i H x H'->g x σ H' fun σ2 H2=>tb { D with nx:=N,ct:=N,bk:=D.nx } σ2 H2):=by
 refine⟨fun i m σ H=>m=xs.length - i/\i<=xs.length/\Pv i σ H,⟨xs.length,by simp,Nat.zero_le _,h0⟩,?_⟩
 rintro i m σ H ⟨rfl,hi,p⟩
 have q:=hl i σ H hi p
 by_cases hlt:i < xs.length
 ·refine .inr ⟨⟨xs,xs[i],q,by simp[hlt]⟩,Pv (i+1),fun σ' H' p'=>⟨xs.length - (i+1),by omega,rfl,hlt,p'⟩,fun x H' y=>?_⟩
  obtain⟨e,y⟩:=y
  subst e
  exact hs i x σ _ (y xs q) p
 ·have e:i=xs.length:=by omega
  subst e
  exact .inl ⟨⟨xs,q,Nat.le_refl _⟩,hd σ H p⟩
theorem zDh {lo:Int} {n:Nat} {g:TG} {tb:TS} {D:Ends} {σ:St} {H:Hp} (Pv:Nat->St->Hp->Prop) (h0:Pv 0 σ H)
  (hs:∀ i σ H,i < n->Pv i σ H->g (.int (lo+i)) σ H fun σ2 H2=>tb { D with nx:=Pv (i+1),ct:=Pv (i+1),bk:=D.nx } σ2 H2) (hd:∀ σ H,Pv n σ H->D.nx σ H) :
  ∃ W:Nat->Nat->St->Hp->Prop,(∃ m,W 0 m σ H)/\∀ i m σ H,W i m σ H ->
   ((Itr lo n).stop i H/\D.nx σ H)\/((Itr lo n).go i H/\∃ N:St->Hp->Prop,(∀ σ' H',N σ' H'->∃ m',m' < m/\W (i+1) m' σ' H')/\∀ x H',(Itr lo n).yld i H x H'->g x σ H' fun σ2 H2=>tb { D with nx:=N,ct:=N,bk:=D.nx } σ2 H2):=by
 refine⟨fun i m σ H=>m=n - i/\i<=n/\Pv i σ H,⟨n,by simp,Nat.zero_le _,h0⟩,?_⟩
 rintro i m σ H ⟨rfl,hi,p⟩
 by_cases hlt:i < n
 ·refine .inr ⟨hlt,Pv (i+1),fun σ' H' p'=>⟨n - (i+1),by omega,rfl,hlt,p'⟩,fun x H' y=>?_⟩
  obtain⟨e,y⟩:=y
  subst e y
  exact hs i σ _ hlt p
 ·have e:i=n:=by omega
  subst e
  exact .inl ⟨Nat.le_refl _,hd σ H p⟩
end L2
namespace L2
open PySem PySem.Spec PyProof.Rows
abbrev R2:=V->V->Hp->VK->Prop
def OpR (X:Cx) (f:Value->Value->Sem Value) (r:R2):Prop :=
 ∀ (pins:List (Addr × Obj)) (s:Shared) (σ:St) (H:Hp) (x y:V) (v u:Value) (Q:VK),Inv X pins σ H s->RelV x v->RelV y u->r x y H Q ->
  wpAny (model X.prog X.w) X.A (f v u) (EP X pins σ Q) X.xe s
def UnR (X:Cx) (f:Value->Sem Value) (r:V->Hp->VK->Prop):Prop :=
 ∀ (pins:List (Addr × Obj)) (s:Shared) (σ:St) (H:Hp) (x:V) (v:Value) (Q:VK),Inv X pins σ H s->RelV x v->r x H Q ->
  wpAny (model X.prog X.w) X.A (f v) (EP X pins σ Q) X.xe s
def Q9 (X:Cx) (f:Value) (r:List V->Hp->VK->Prop):Prop :=
 ∀ (pins:List (Addr × Obj)) (s:Shared) (σ:St) (H:Hp) (xs:List V) (us:List Value) (Q:VK),Inv X pins σ H s->Vals xs us->r xs H Q ->
  wpAny (model X.prog X.w) X.A (call f us) (EP X pins σ Q) X.xe s
def tOp (r:R2) (ta tb:TE):TE:=fun σ H Q=>ta σ H fun x H1=>tb σ H1 fun y H2=>r x y H2 Q
def tUn (r:V->Hp->VK->Prop) (ta:TE):TE:=fun σ H Q=>ta σ H fun x H1=>r x H1 Q
def rI (C:Int->Int->Prop) (g:Int->Int->V):R2:=fun x y H Q=>∃ i j,x=.int i/\y=.int j/\C i j/\Q (g i j) H
def rI0 (g:Int->Int->V):R2:=fun x y H Q=>∃ i j,x=.int i/\y=.int j/\Q (g i j) H
def rU (g:Int->V):V->Hp->VK->Prop:=fun x H Q=>∃ i,x=.int i/\Q (g i) H
section
variable {X:Cx} {a b c:Expr} {ta tb tc:TE} {pos:Pos}
theorem zHD (ha:PE X a ta) (hb:PE X b tb) {pins:List (Addr × Obj)} {s:Shared} {σ:St} {H:Hp} {R:V->V->Hp->Prop} (I:Inv X pins σ H s)
  (h:ta σ H fun x H1=>tb σ H1 fun y H2=>R x y H2) {Q:Value->Shared->Prop} {f:Value->Value->Sem Value}
  (hf:∀ v u s2 x y H2,Inv X pins σ H2 s2->RelV x v->RelV y u->R x y H2->wpAny (model X.prog X.w) X.A (f v u) Q X.xe s2) :
  wpAny (model X.prog X.w) X.A (eval a X.env) (fun v s₁=>wpAny (model X.prog X.w) X.A (eval b X.env) (fun u s₂=>wpAny (model X.prog X.w) X.A (f v u) Q X.xe s₂) X.xe s₁) X.xe s:=by
 refine thn (ha pins s σ H _ I h) fun v s1 ⟨x,H1,I1,r1,q1⟩=>?_
 refine thn (hb pins s1 σ H1 _ I1 q1) fun u s2 ⟨y,H2,I2,r2,q2⟩=>?_
 exact hf v u s2 x y H2 I2 r1 r2 q2
theorem QF {op:Operator} {r:R2} (ho:OpR X (binaryOp op) r) (ha:PE X a ta) (hb:PE X b tb):PE X (.BinOp a op b pos) (tOp r ta tb):=by
 intro pins s σ H Q I h
 exact wpAny_BinOp (zHD ha hb I h fun v u s2 x y H2 I2 rx ry q=>ho pins s2 σ H2 x y v u Q I2 rx ry q)
theorem ZV {op:UnaryOp} {r:V->Hp->VK->Prop} (ho:UnR X (unaryOp op) r) (ha:PE X a ta):PE X (.UnaryOp op a pos) (tUn r ta):=by
 intro pins s σ H Q I h
 exact UnaryOp_ (thn (ha pins s σ H _ I h) fun v s1 ⟨x,H1,I1,r1,q1⟩=>ho pins s1 σ H1 x v Q I1 r1 q1)
theorem opI {f:Value->Value->Sem Value} {C:Int->Int->Prop} {g:Int->Int->Int}
  (rule:∀ (i j:Int) (t u:Tok) (s:Shared) (Q:Value->Shared->Prop) (E:Value->Shared->Prop),C i j->Q (.int (g i j) s.toks) { s with toks:=s.toks+1 }->wpAny (model X.prog X.w) X.A (f (.int i t) (.int j u)) Q E s) :
  OpR X f (rI C fun i j=>.int (g i j)):=by
 intro pins s σ H x y v u Q I rx ry h
 obtain⟨i,j,rfl,rfl,hc,q⟩:=h
 obtain⟨t,rfl⟩:=rx
 obtain⟨t',rfl⟩:=ry
 exact rule i j (t+1) (t'+1) s _ _ hc ⟨.int (g i j),H,I.tok _,I.rI,q⟩
theorem zDu {f:Value->Value->Sem Value} {g:Int->Int->Int}
  (rule:∀ (i j:Int) (t u:Tok) (s:Shared) (Q:Value->Shared->Prop) (E:Value->Shared->Prop),Q (.int (g i j) s.toks) { s with toks:=s.toks+1 }->wpAny (model X.prog X.w) X.A (f (.int i t) (.int j u)) Q E s) :
  OpR X f (rI0 fun i j=>.int (g i j)):=by
 intro pins s σ H x y v u Q I rx ry h
 obtain⟨i,j,rfl,rfl,q⟩:=h
 obtain⟨t,rfl⟩:=rx
 obtain⟨t',rfl⟩:=ry
 exact rule i j (t+1) (t'+1) s _ _ ⟨.int (g i j),H,I.tok _,I.rI,q⟩
theorem zFr {f:Value->Value->Sem Value} {g:Int->Int->Bool}
  (rule:∀ (i j:Int) (t u:Tok) (s:Shared) (Q:Value->Shared->Prop) (E:Value->Shared->Prop),Q (.bool (g i j)) s->wpAny (model X.prog X.w) X.A (f (.int i t) (.int j u)) Q E s) :
  OpR X f (rI0 fun i j=>.bl (g i j)):=by
 intro pins s σ H x y v u Q I rx ry h
 obtain⟨i,j,rfl,rfl,q⟩:=h
 obtain⟨t,rfl⟩:=rx
 obtain⟨t',rfl⟩:=ry
 exact rule i j (t+1) (t'+1) s _ _ ⟨.bl (g i j),H,I,rfl,q⟩
def zGx (i j:Int):Prop:=0 < j/\j < 1073741824
def zFT (i j:Int):Prop:=0<=j/\j<=1000000/\i.natAbs < 2 ^ 64
def CMul (i j:Int):Prop:=(-(2 ^ 64) < i/\i < 2 ^ 64)\/(-(2 ^ 64) < j/\j < 2 ^ 64)
theorem CMul.ok {i j:Int} (h:CMul i j):IntMulOk i j:=by
 rcases h with ⟨h1,h2⟩ | ⟨h1,h2⟩
 ·exact .of_left (intBits_le_64 h1 h2)
 ·exact .of_right (intBits_le_64 h1 h2)
theorem QZ:OpR X (binaryOp .Add) (rI0 fun i j=>.int (i+j)):=zDu fun _ _ _ _ _ _ _ q=>add_int q
theorem WH:OpR X (binaryOp .Sub) (rI0 fun i j=>.int (i - j)):=zDu fun _ _ _ _ _ _ _ q=>sub_int q
theorem Qh:OpR X (binaryOp .Mult) (rI CMul fun i j=>.int (i*j)):=opI fun _ _ _ _ _ _ _ hc q=>mul_int q hc.ok
theorem QV:OpR X (binaryOp .FloorDiv) (rI zGx fun i j=>.int (i / j)):=opI fun i j _ _ _ _ _ hc q=>by
 have h1:(0:Int) < j:=hc.1
 have h2:j < 1073741824:=hc.2
 exact floordiv_int (by omega) (by rw[Int.fdiv_eq_ediv_of_nonneg i (by omega)];exact q) (.inl (PyProof.noPylong_small (by omega)))
theorem QR:OpR X (binaryOp .Mod) (rI (fun _ j=>0 < j) fun i j=>.int (i % j)):=opI fun i j _ _ _ _ _ hc q=>by
 have h1:(0:Int) < j:=hc
 exact mod_int' (by omega) (by rw[Int.fmod_eq_emod_of_nonneg i (by omega)];exact q)
theorem Y2:OpR X (binaryOp .Pow) (rI zFT fun i j=>.int (i ^ j.toNat)):=opI fun _ _ _ _ _ _ _ hc q=>pow_int_small hc.1 hc.2.1 hc.2.2 q
theorem zGX:OpR X (binaryOp .LShift) (rI zFT fun i j=>.int (i*2 ^ j.toNat)):=opI fun _ _ _ _ _ _ _ hc q=>lshift_int_small hc.1 hc.2.1 hc.2.2 q
theorem zHE:OpR X (binaryOp .BitAnd) (rI0 fun i j=>.int (Builtin.bitAnd i j)):=zDu fun _ _ _ _ _ _ _ q=>and_int q
theorem zHQ:OpR X (binaryOp .BitOr) (rI0 fun i j=>.int (Builtin.bitOr i j)):=zDu fun _ _ _ _ _ _ _ q=>or_int q
theorem zBz:OpR X (binaryOp .BitXor) (rI0 fun i j=>.int (Builtin.bitXor i j)):=zDu fun _ _ _ _ _ _ _ q=>xor_int q
theorem unI {f:Value->Sem Value} {g:Int->Int}
  (rule:∀ (i:Int) (t:Tok) (s:Shared) (Q:Value->Shared->Prop) (E:Value->Shared->Prop),Q (.int (g i) s.toks) { s with toks:=s.toks+1 }->wpAny (model X.prog X.w) X.A (f (.int i t)) Q E s) :
  UnR X f (rU fun i=>.int (g i)):=by
 intro pins s σ H x v Q I rx h
 obtain⟨i,rfl,q⟩:=h
 obtain⟨t,rfl⟩:=rx
 exact rule i (t+1) s _ _ ⟨.int (g i),H,I.tok _,I.rI,q⟩
theorem Yc:UnR X (unaryOp .USub) (rU fun i=>.int (-i)):=unI fun _ _ _ _ _ q=>neg_int q
end
def zBG:V->V->Bool
 | .non,.non=>true | .non,.int _=>true | .int _,.non=>true | .non,.bl _=>true | .bl _,.non=>true | .non,.str _=>true | .str _,.non=>true
 | .int _,.int _=>true | .bl _,.bl _=>true | .str _,.str _=>true | .byt _,.byt _=>true
 | .int _,.str _=>true | .str _,.int _=>true | .bl _,.str _=>true | .str _,.bl _=>true
 | _,_=>false
def rEq:R2:=fun x y H Q=>zBG x y=true/\Q (.bl (decide (x=y))) H
def rNe:R2:=fun x y H Q=>zBG x y=true/\Q (.bl (!decide (x=y))) H
theorem zCk {i j:Int}:decide (V.int i=V.int j)=(i == j):=by
 rw[Bool.eq_iff_iff]
 simp
theorem zDo {i j:Bool}:decide (V.bl i=V.bl j)=(i == j):=by
 rw[Bool.eq_iff_iff]
 simp
theorem zCd {i j:Str}:decide (V.str i=V.str j)=(i == j):=by
 rw[Bool.eq_iff_iff]
 simp
theorem zCw {i j:Array UInt8}:decide (V.byt i=V.byt j)=(i.toList == j.toList):=by
 rw[Bool.eq_iff_iff]
 cases i
 cases j
 simp
section
variable {X:Cx} {a b c:Expr} {ta tb tc:TE} {pos:Pos}
theorem QW {pins:List (Addr × Obj)} {σ:St} {H:Hp} {s:Shared} {Q:VK} {k k':Bool} (I:Inv X pins σ H s) (q:Q (.bl k) H) (e:k=k'):EP X pins σ Q (.bool k') s:=by
 subst e
 exact⟨.bl k,H,I,rfl,q⟩
theorem Qw:OpR X (compareOp .Eq) rEq:=by
 intro pins s σ H x y v u Q I rx ry h
 obtain⟨hs,q⟩:=h
 cases x with
 | non =>
  cases rx
  cases y with
  | non=>cases ry;exact PySem.EqNone.eq_none_none (QW I q (by simp))
  | bl j=>cases ry;exact PySem.EqNone.eq_none_bool (QW I q (by simp))
  | int j=>obtain⟨t',rfl⟩:=ry;exact PySem.EqNone.eq_none_int (QW I q (by simp))
  | str j=>obtain⟨t',rfl⟩:=ry;exact PySem.EqNone.eq_none_str (QW I q (by simp))
  | _=>exact absurd (show false=true from hs) Bool.false_ne_true
 | bl i =>
  cases rx
  cases y with
  | non=>cases ry;exact PySem.EqNone.eq_bool_none (QW I q (by simp))
  | bl j=>cases ry;exact eq_bool (QW I q zDo)
  | str j=>obtain⟨t',rfl⟩:=ry;exact PySem.EqMixed.eq_bool_str (QW I q (by simp))
  | _=>exact absurd (show false=true from hs) Bool.false_ne_true
 | int i =>
  obtain⟨t,rfl⟩:=rx
  cases y with
  | non=>cases ry;exact PySem.EqNone.eq_int_none (QW I q (by simp))
  | int j=>obtain⟨t',rfl⟩:=ry;exact eq_int (QW I q zCk)
  | str j=>obtain⟨t',rfl⟩:=ry;exact PySem.EqMixed.eq_int_str (QW I q (by simp))
  | _=>exact absurd (show false=true from hs) Bool.false_ne_true
 | str i =>
  obtain⟨t,rfl⟩:=rx
  cases y with
  | non=>cases ry;exact PySem.EqNone.eq_str_none (QW I q (by simp))
  | bl j=>cases ry;exact PySem.EqMixed.eq_str_bool (QW I q (by simp))
  | int j=>obtain⟨t',rfl⟩:=ry;exact PySem.EqMixed.eq_str_int (QW I q (by simp))
  | str j=>obtain⟨t',rfl⟩:=ry;exact eq_str (QW I q zCd)
  | _=>exact absurd (show false=true from hs) Bool.false_ne_true
 | byt i =>
  obtain⟨t,rfl⟩:=rx
  cases y with
  | byt j=>obtain⟨t',rfl⟩:=ry;exact PySem.W.eq_bytes (QW I q zCw)
  | _=>exact absurd (show false=true from hs) Bool.false_ne_true
 | _=>cases y <;> exact absurd (show false=true from hs) Bool.false_ne_true
theorem JB:OpR X (compareOp .NotEq) rNe:=by
 intro pins s σ H x y v u Q I rx ry h
 obtain⟨hs,q⟩:=h
 cases x with
 | non =>
  cases rx
  cases y with
  | non=>cases ry;exact PySem.EqNone.ne_none_none (QW I q (by simp))
  | bl j=>cases ry;exact PySem.EqNone.ne_none_bool (QW I q (by simp))
  | int j=>obtain⟨t',rfl⟩:=ry;exact PySem.EqNone.ne_none_int (QW I q (by simp))
  | str j=>obtain⟨t',rfl⟩:=ry;exact PySem.EqNone.ne_none_str (QW I q (by simp))
  | _=>exact absurd (show false=true from hs) Bool.false_ne_true
 | bl i =>
  cases rx
  cases y with
  | non=>cases ry;exact PySem.EqNone.ne_bool_none (QW I q (by simp))
  | bl j=>cases ry;exact ne_bool (QW I q (congrArg not zDo))
  | str j=>obtain⟨t',rfl⟩:=ry;exact PySem.EqMixed.ne_bool_str (QW I q (by simp))
  | _=>exact absurd (show false=true from hs) Bool.false_ne_true
 | int i =>
  obtain⟨t,rfl⟩:=rx
  cases y with
  | non=>cases ry;exact PySem.EqNone.ne_int_none (QW I q (by simp))
  | int j=>obtain⟨t',rfl⟩:=ry;exact ne_int (QW I q (congrArg not zCk))
  | str j=>obtain⟨t',rfl⟩:=ry;exact PySem.EqMixed.ne_int_str (QW I q (by simp))
  | _=>exact absurd (show false=true from hs) Bool.false_ne_true
 | str i =>
  obtain⟨t,rfl⟩:=rx
  cases y with
  | non=>cases ry;exact PySem.EqNone.ne_str_none (QW I q (by simp))
  | bl j=>cases ry;exact PySem.EqMixed.ne_str_bool (QW I q (by simp))
  | int j=>obtain⟨t',rfl⟩:=ry;exact PySem.EqMixed.ne_str_int (QW I q (by simp))
  | str j=>obtain⟨t',rfl⟩:=ry;exact ne_str (QW I q (congrArg not zCd))
  | _=>exact absurd (show false=true from hs) Bool.false_ne_true
 | byt i =>
  obtain⟨t,rfl⟩:=rx
  cases y with
  | byt j=>obtain⟨t',rfl⟩:=ry;exact PySem.W.ne_bytes (QW I q (congrArg not zCw))
  | _=>exact absurd (show false=true from hs) Bool.false_ne_true
 | _=>cases y <;> exact absurd (show false=true from hs) Bool.false_ne_true
theorem zGK:OpR X (compareOp .Lt) (rI0 fun i j=>.bl (decide (i < j))):=zFr fun _ _ _ _ _ _ _ q=>lt_int q
theorem JR:OpR X (compareOp .LtE) (rI0 fun i j=>.bl (decide (i<=j))):=zFr fun _ _ _ _ _ _ _ q=>le_int q
theorem zHj:OpR X (compareOp .Gt) (rI0 fun i j=>.bl (decide (j < i))):=zFr fun _ _ _ _ _ _ _ q=>gt_int q
theorem zHV:OpR X (compareOp .GtE) (rI0 fun i j=>.bl (decide (j<=i))):=zFr fun _ _ _ _ _ _ _ q=>ge_int q
theorem zCQ:OpR X (compareOp .Is) (fun x y H Q=>y=.non/\Q (.bl (decide (x=.non))) H):=by
 intro pins s σ H x y v u Q I rx ry h
 obtain⟨rfl,q⟩:=h
 cases ry
 refine is_none_gen (QW I q ?_)
 cases x <;> first
  | (cases rx;rfl)
  | (obtain⟨t,rfl⟩:=rx;rfl)
theorem ZE:OpR X (compareOp .IsNot) (fun x y H Q=>y=.non/\Q (.bl (!decide (x=.non))) H):=by
 intro pins s σ H x y v u Q I rx ry h
 obtain⟨rfl,q⟩:=h
 cases ry
 refine isnot_none_gen (QW I q ?_)
 cases x <;> first
  | (cases rx;rfl)
  | (obtain⟨t,rfl⟩:=rx;rfl)
theorem QN (b:Expr) {op:CmpOp} (h:op ≠ .In:=by decide) (h2:op ≠ .NotIn:=by decide):behindInMarks op b=false:=by
 have e1:(op == CmpOp.In)=false:=by cases op <;> first | rfl | exact absurd rfl h
 have e2:(op == CmpOp.NotIn)=false:=by cases op <;> first | rfl | exact absurd rfl h2
 cases b <;> simp[behindInMarks,e1,e2]
theorem Qj {op:CmpOp} {r:R2} (ho:OpR X (compareOp op) r) (ha:PE X a ta) (hb:PE X b tb) (hm:behindInMarks op b=false):PE X (.Compare a [op] [b] pos) (tOp r ta tb):=by
 intro pins s σ H Q I h
 exact wpAny_Compare1 (zHD ha hb I h fun v u s2 x y H2 I2 rx ry q=>ho pins s2 σ H2 x y v u Q I2 rx ry q) hm
def zD9 (t:TE):TT:=fun σ H Q=>t σ H fun x H'=>∃ k,x=.bl k/\Q k H'
theorem QS {op:CmpOp} {r:R2} (ho:OpR X (compareOp op) r) (ha:PE X a ta) (hb:PE X b tb) (hm:behindInMarks op b=false):PT X (.Compare a [op] [b] pos) (zD9 (tOp r ta tb)):=by
 intro pins s σ H Q I h
 refine wpAny_isTrue_Compare1 (thn (ha pins s σ H _ I h) fun v s1 ⟨x,H1,I1,r1,q1⟩=>thn (hb pins s1 σ H1 _ I1 q1) fun u s2 ⟨y,H2,I2,r2,q2⟩ =>
  thn (ho pins s2 σ H2 x y v u _ I2 r1 r2 q2) fun c s3 ⟨z,H3,I3,r3,k,e,q3⟩=>?_) hm
 subst e
 cases r3
 exact wpAny_truthy_bool ⟨H3,I3,q3⟩
def zE2 (r r':R2) (ta tb tc:TE):TE:=fun σ H Q=>ta σ H fun x H1=>tb σ H1 fun y H2=>r x y H2 fun z H3=>∃ k,z=.bl k /\
 (if k=true then tc σ H3 fun w' H4=>r' y w' H4 Q else Q (.bl false) H3)
theorem zER {op op':CmpOp} {r r':R2} (ho:OpR X (compareOp op) r) (ho':OpR X (compareOp op') r') (ha:PE X a ta) (hb:PE X b tb) (hc:PE X c tc)
  (hm:lastMarks [op,op'] [b,c]=false:=by with_unfolding_all rfl):PE X (.Compare a [op,op'] [b,c] pos) (zE2 r r' ta tb tc):=by
 intro pins s σ H Q I h
 refine Compare_chain (thn (ha pins s σ H _ I h) fun v s1 ⟨x,H1,I1,r1,q1⟩=>chain_link (thn (hb pins s1 σ H1 _ I1 q1) fun u s2 ⟨y,H2,I2,r2,q2⟩ =>
  thn (ho pins s2 σ H2 x y v u _ I2 r1 r2 q2) fun d s3 ⟨z,H3,I3,r3,k,e,q3⟩=>?_)) hm
 subst e
 cases r3
 refine wpAny_truthy_bool ?_
 cases k with
 | false=>exact ite_ff ⟨.bl false,H3,I3,rfl,q3⟩
 | true=>exact ite_tt (chain_last (thn (hc pins s3 σ H3 _ I3 q3) fun w' s4 ⟨z',H4,I4,r4,q4⟩=>ho' pins s4 σ H4 y z' u w' Q I4 r2 r4 q4))
theorem WG:(sizeLine:Nat) < 2 ^ 63:=by rw[sizeLine_eq];decide
theorem zFC {x y:Str} {t u:Nat} {s:Shared} {Q:Value->Shared->Prop} (hz:x.length+y.length<=sizeLine) (h:∀ n tk,s.toks<=tk->Q (.str (x++y) (n+1)) { s with toks:=tk }) (ht:1<=s.toks) :
  (if x.length == 0 then Made.val (.str y (u+1)) else if y.length == 0 then Made.val (.str x (t+1)) else Made.str (x++y)).post Q s:=by
 have e0:∀ z:Str,(z.length == 0)=true->z=⟨#[]⟩:=fun z hz=>by
  obtain⟨c⟩:=z
  have:c.size=0:=by simpa [Str.length] using hz
  have:c = #[]:=Array.eq_empty_of_size_eq_zero this
  subst this;rfl
 by_cases h1:(x.length == 0)=true
 ·rw[if_pos h1]
  have:=h u s.toks (Nat.le_refl _)
  have e:x++y=y:=by
   rw[e0 x h1]
   obtain⟨c⟩:=y
   show Str.mk (#[]++c)=Str.mk c
   rw[Array.empty_append]
  rw[e] at this
  exact this
 ·rw[if_neg h1]
  by_cases h2:(y.length == 0)=true
  ·rw[if_pos h2]
   have:=h t s.toks (Nat.le_refl _)
   have e:x++y=x:=by
    rw[e0 y h2]
    obtain⟨c⟩:=x
    show Str.mk (c ++ #[])=Str.mk c
    rw[Array.append_empty]
   rw[e] at this
   exact this
  ·rw[if_neg h2]
   refine⟨by rw[Str.length_append];exact hz,?_⟩
   have:=h (s.toks - 1) (s.toks+1) (Nat.le_succ _)
   rw[Nat.sub_add_cancel ht] at this
   exact this
theorem Yp:OpR X (binaryOp .Add) (fun x y H Q=>∃ i j,x=.str i/\y=.str j/\i.length+j.length<=sizeLine/\Q (.str (i++j)) H):=by
 intro pins s σ H x y v u Q I rx ry h
 obtain⟨i,j,rfl,rfl,hz,q⟩:=h
 obtain⟨t,rfl⟩:=rx
 obtain⟨t',rfl⟩:=ry
 refine PySem.P.add_str ?_
 exact zFC hz (fun n tk hk=>⟨.str (i++j),H,I.tok _ (Nat.le_trans I.tk hk),⟨n,rfl⟩,q⟩) I.tk
theorem Y3 {x:V} {us:List Value} (r:Vals [x] us):∃ u,us=[u]/\RelV x u:=by
 cases r with
 | cons r1 r2=>cases r2;exact⟨_,rfl,r1⟩
theorem zHS {x y:V} {us:List Value} (r:Vals [x,y] us):∃ u w',us=[u,w']/\RelV x u/\RelV y w':=by
 cases r with
 | cons r1 r2 =>
  cases r2 with
  | cons r3 r4=>cases r4;exact⟨_,_,rfl,r1,r3⟩
theorem zE0:Q9 X (.builtin "ord") (fun xs H Q=>∃ x,xs=[.str x]/\x.length=1/\Q (.int (x.cps.getD 0 0:Nat)) H):=by
 intro pins s σ H xs us Q I r h
 obtain⟨x,rfl,hz,q⟩:=h
 obtain⟨u,rfl,t,rfl⟩:=Y3 r
 exact ord_of_one hz ⟨.int _,H,I.tok _,I.rI,q⟩
end
end L2
namespace L2
open PySem PySem.Spec PyProof.Rows
structure ObjM (h:Heap) (x dx C:Addr) (mA:Str->Option Value):Prop where
 obj:h.get? x=some (W.instObj C dx)
 ns:h.Ns1 dx mA
 ne:dx ≠ x
theorem zDJ {h:Heap} {dx:Addr} {mA:Str->Option Value} (n:h.Ns1 dx mA):∃ od,h.get? dx=some od/\∀ name,PySem.W.lookIn name od=some (mA name):=by
 obtain⟨o,es,ep,ho,hd,hk,_,hm⟩:=n
 refine⟨o,ho,fun name=>?_⟩
 have e:=hm name
 unfold nsFind findBy at e
 rw[← Array.find?_toList] at e
 unfold PySem.W.lookIn
 rw[hd]
 dsimp only
 split
 ·rename_i y q
  rw[q] at e
  exact congrArg some e
 ·rename_i q
  rw[q] at e
  have a:es.toList.any (·.refKey)=false:=by
   rw[List.any_eq_false]
   intro y hy
   obtain⟨z,t,hkey⟩:=hk y (Array.mem_toList_iff.mp hy)
   simp[DictEntry.refKey,hkey]
  have a':¬ es.toList.any (·.refKey)=true:=by rw[a];exact Bool.false_ne_true
  rw[if_neg a']
  exact congrArg some e
theorem ObjM.look {h:Heap} {x dx C:Addr} {mA:Str->Option Value} (I:ObjM h x dx C mA):∃ od,PySem.W.InstAt h x (W.instObj C dx) C (some od)/\∀ name,PySem.W.lookIn name od=some (mA name) :=
 let ⟨od,ho,hl⟩:=zDJ I.ns
 ⟨od,⟨I.obj,rfl,rfl,ho⟩,hl⟩
section
variable {P:Program} {w:World} {H H':Hp} {h h':Heap} {a C dx:Addr} {fs fs':List (Str × V)}
theorem zGB (hok:HOk P w H h) (e:H a=some (.ins C dx fs)):∃ mA,ObjM h a dx C mA/\(∀ f,zG1 (fs.lookup f) (mA f))/\PySem.Within mA (fs.map (·.1))/\fs.length<=1000/\H dx=some (.own a):=by
 obtain⟨d,z,ne,ob,mA,n,r,q⟩:=(show ObjOk P w H h a (.ins C dx fs) from hok a _ e)
 exact⟨mA,⟨ob,n,ne⟩,r,q,z,d⟩
end
structure Cls (K:W.Frag) (C:Addr):Prop where
 pg:W.plainGet K C Str.empty=true
 hd:PySem.W.hasDictIn K C=true
 po:PySem.W.plainOver K C=true
 sa:W.findIn K (.ref C) "__setattr__" = some (some (.builtin "object.__setattr__"))
theorem Cls.get {K:W.Frag} {C:Addr} (c:Cls K C) (f:Str):W.plainGet K C f=true:=c.pg
section
variable {X:Cx} {pins:List (Addr × Obj)} {σ:St} {H:Hp} {s:Shared} {A:Around} {E:Value->Shared->Prop} {Q:Value->Shared->Prop} {c:Value} {b:Bool}
inductive TyOf (K:W.Frag) (H:Hp):V->Value->Prop where
 | non:TyOf K H .non (.type "NoneType")
 | bl (x:Bool):TyOf K H (.bl x) (.type "bool")
 | int (i:Int):TyOf K H (.int i) (.type "int")
 | str (x:Str):TyOf K H (.str x) (.type "str")
 | flt (x:UInt64):TyOf K H (.flt x) (.type "float")
 | lst {a:Addr} {xs:List V} (e:H a=some (.lst xs)):TyOf K H (.ref a) (.type "list")
 | frz {a:Addr} {o:Obj} {xs:List V} (e:H a=some (.frz o (.lst xs))):TyOf K H (.ref a) (.type "list")
 | tup {a:Addr} {xs:List V} (e:H a=some (.tup xs)):TyOf K H (.ref a) (.type "tuple")
 | dK {a:Addr} {kvs:List (Key × V)} (e:H a=some (.dK kvs)):TyOf K H (.ref a) (.type "dict")
 | dT {a:Addr} {kvs:List (List Key × V)} (e:H a=some (.dT kvs)):TyOf K H (.ref a) (.type "dict")
 | ins {a C dx : Addr} {fs : List (Str × V)} (e : H a = some (.ins C dx fs)) (cl : Cls K C) (ha : W.findIn K (.ref C) "__class__" = some (some (.builtin "object.__class__")))
   (hn:PySem.W.specialIn K (.builtin "object.__class__") "__get__" = some (some (.builtin "getset_descriptor.__get__"))) (htk:PySem.W.takesIn K (.builtin "object.__class__")=some true)
   (hm:W.mroIn K C (.type "object")=some true):TyOf K H (.ref a) (.ref C)
theorem zDK {x:V} {u t:Value} (I:Inv X pins σ H s) (rx:RelV x u) (ty:TyOf X.K H x t) (e:W.kitOne X.K t c=some b) (h:∀ tk,Q (.bool b) { s with toks:=tk }) :
  wpAny (model X.prog X.w) A (call (.builtin "isinstance") [u,c]) Q E s:=by
 cases ty with
 | non=>cases (show u=Value.none from rx);exact PySem.W.kia_one PySem.W.kitx_none I.kIn True.intro e (fun z=>nomatch z) h
 | bl y=>cases (show u=Value.bool y from rx);exact PySem.W.kia_one PySem.W.kitx_bool I.kIn True.intro e (fun z=>nomatch z) h
 | int i=>obtain⟨t,q⟩:=(show ∃ t,u=Value.int i (t+1) from rx);cases q;exact PySem.W.kia_one PySem.W.kitx_int I.kIn True.intro e (fun z=>nomatch z) h
 | str y=>obtain⟨t,q⟩:=(show ∃ t,u=Value.str y (t+1) from rx);cases q;exact PySem.W.kia_one PySem.W.kitx_str I.kIn True.intro e (fun z=>nomatch z) h
 | flt y=>obtain⟨t,q⟩:=(show ∃ t,u=Value.float y t from rx);cases q;exact PySem.W.kia_one PySem.W.kitx_float I.kIn True.intro e (fun z=>nomatch z) h
 | @lst a xs ea =>
  cases (show u=Value.ref a from rx)
  obtain⟨_,_,n,_,h1⟩:=(show ObjOk X.prog X.w H s.heap a (.lst xs) from I.hok a _ ea)
  exact PySem.W.kia_one PySem.W.kitx_list I.kIn ⟨_,h1,rfl⟩ e (fun z=>nomatch z) h
 | @frz a ob xs ea =>
  cases (show u=Value.ref a from rx)
  obtain⟨_,_,_,n,_,h1⟩:=(show ObjOk X.prog X.w H s.heap a (.frz ob (.lst xs)) from I.hok a _ ea)
  exact PySem.W.kia_one PySem.W.kitx_list I.kIn ⟨_,h1,rfl⟩ e (fun z=>nomatch z) h
 | @tup a xs ea =>
  cases (show u=Value.ref a from rx)
  obtain⟨_,_,_,p⟩:=(show ObjOk X.prog X.w H s.heap a (.tup xs) from I.hok a _ ea)
  obtain⟨o,h1,h2,_⟩:=p
  exact PySem.W.kia_one PySem.W.kitx_tuple I.kIn ⟨o,h1,h2⟩ e (fun z=>nomatch z) h
 | @dK a kvs ea =>
  cases (show u=Value.ref a from rx)
  obtain⟨_,_,vs,_,p⟩:=(show ObjOk X.prog X.w H s.heap a (.dK kvs) from I.hok a _ ea)
  obtain⟨o,es,ep,h1,h2,_⟩:=p
  exact PySem.W.kia_one PySem.W.kitx_dict I.kIn ⟨o,h1,h2.1⟩ e (fun z=>nomatch z) h
 | @dT a kvs ea =>
  cases (show u=Value.ref a from rx)
  obtain⟨_,_,xs,_,o,es,ep,h1,h2,_⟩:=(show ObjOk X.prog X.w H s.heap a (.dT kvs) from I.hok a _ ea)
  exact PySem.W.kia_one PySem.W.kitx_dict I.kIn ⟨o,h1,h2.1⟩ e (fun z=>nomatch z) h
 | @ins a C dx fs ea cl ha hn htk hm =>
  cases (show u=Value.ref a from rx)
  obtain⟨mA,O,_⟩:=zGB I.hok ea
  obtain⟨od,J,_⟩:=O.look
  exact PySem.W.kia_one (PySem.W.kitx_own (cl.get _) cl.hd ha hn htk hm) I.kIn J e (fun z=>nomatch z) h
end
end L2
namespace L2
open PySem PySem.Spec PyProof.Rows
structure Room (k:Nat) (A:Around):Prop where
 hd:A.handled=none
 dp:A.depth+3*k+5 < recursionLimit
 un:A.units+16*k+200 < cLine
theorem Room.mono {j k:Nat} {A:Around} (r:Room k A) (h:j<=k):Room j A:=⟨r.hd,by have:=r.dp;omega,by have:=r.un;omega⟩
theorem Room.deeper {k:Nat} {A:Around} (r:Room (k+1) A) (env:Env):Room k (A.deeper env) :=
 ⟨r.hd,by have:=r.dp;show A.depth+1+3*k+5 < _;omega,by have:=r.un;show A.units+3+16*k+200 < _;omega⟩
theorem Room.depth {k:Nat} {A:Around} (r:Room k A):A.depth < recursionLimit:=by have:=r.dp;omega
theorem Room.units {k:Nat} {A:Around} (r:Room k A):A.units+64 < cLine:=by have:=r.un;omega
def zAN:TA:=fun _ H Q=>Q [] H
def Qt (ta:TE) (tr:TA):TA:=fun σ H Q=>ta σ H fun x H1=>tr σ H1 fun xs H2=>Q (x::xs) H2
section
variable {X:Cx} {e:Expr} {es:List Expr} {te:TE} {t:TA} {pos:Pos}
theorem QD:PA X [] zAN:=fun _ _ _ _ H Q I h=>Calls.spliced_nil ⟨[],H,I,.nil,h⟩
theorem QA (ha:PE X e te) (hr:PA X es t) (hs:starEach (e::es) X.env=(false,eval e X.env)::starEach es X.env:=by rfl):PA X (e::es) (Qt te t):=by
 intro pos pins s σ H Q I h
 rw[hs]
 show wpAny _ _ (spliced ((false,eval e X.env)::backTo pos (starEach es X.env))) _ _ s
 refine Calls.spliced_cons (thn (ha pins s σ H _ I h) fun u s1 ⟨x,H1,I1,r1,q1⟩=>?_)
 exact thn (hr pos pins s1 σ H1 _ I1 q1) fun us s2 ⟨xs,H2,I2,r2,q2⟩=>⟨x::xs,H2,I2,.cons r1 r2,q2⟩
def zHZ (t:TA):TE:=fun σ H Q=>t σ H fun xs H1=>xs.length<=sizeLine/\∀ p,H1 p=none->Q (.ref p) (upd H1 p (.tup xs))
def zHi (t:TA):TE:=fun σ H Q=>t σ H fun xs H1=>xs.length<=sizeLine/\∀ p,H1 p=none->Q (.ref p) (upd H1 p (.lst xs))
theorem zAI {x1} (h:PA X es t):PE X (.Tuple es x1 pos) (zHZ t):=by
 intro pins s σ H Q I hq
 refine wpAny_Tuple_spliced (thn (h pos pins s σ H _ I hq) fun us s1 ⟨xs,H1,I1,r,z,q⟩=>⟨by rw[← r.length];exact z,?_⟩)
 have hf:H1 s1.heap.objs.size=none:=I1.hok.fresh (Nat.le_refl _)
 refine⟨.ref s1.heap.objs.size,upd H1 s1.heap.objs.size (.tup xs),I1.laid (t':=s1.toks) (fun b u e=>Heap.get?_push_of_some _ e) (Nat.le_refl _) ?_,rfl,q _ hf⟩
 exact⟨z,us,r,⟨_,Heap.get?_push_size _ rfl,rfl,_,rfl⟩⟩
theorem Za (h:PA X es t):PE X (.List es pos) (zHi t):=by
 intro pins s σ H Q I hq
 refine wpAny_List_spliced (thn (h pos pins s σ H _ I hq) fun us s1 ⟨xs,H1,I1,r,z,q⟩=>⟨by rw[← r.length];exact z,?_⟩)
 have hf:H1 s1.heap.objs.size=none:=I1.hok.fresh (Nat.le_refl _)
 refine⟨.ref s1.heap.objs.size,upd H1 s1.heap.objs.size (.lst xs),I1.laid (t':=s1.toks) (fun b u e=>Heap.get?_push_of_some _ e) (Nat.le_refl _) ?_,rfl,q _ hf⟩
 exact⟨z,us,0,r,Heap.get?_push_size _ rfl⟩
end
abbrev Sp:=List V->Hp->VK->XK->Prop
abbrev CXT:=List Env->Hp->Shared->XK->Value->Shared->Prop
structure Env0 (P:Program) (w:World) (K:W.Frag) (mg:Str->Option Value) (base:Heap) (A:Around) (outer:List Env) (s:Shared) (H:Hp):Prop where
 frames:A.frames=some outer
 mod:Mod K mg base
 bs:∀ b o,base.get? b=some o->s.heap.get? b=some o/\H b=none
 bsz:base.objs.size<=s.heap.objs.size
 funs:s.heap.FunFrames base outer
 frf:∀ b∈frs outer,H b=none
 hok:HOk P w H s.heap
 bare:AllBare s.gens
 tk:1<=s.toks
def CE (outer:List Env) (P:Program) (w:World) (H:Hp) (s:Shared) (Q:VK) (u:Value) (s':Shared):Prop :=
 ∃ v H',(s'.os=s.os/\1<=s'.toks)/\AllBare s'.gens/\Un (frs outer) [] H H' s.heap s'.heap/\HOk P w H' s'.heap/\RelV v u/\Q v H'
def CR (CX:CXT) (outer:List Env) (P:Program) (w:World) (H:Hp) (s:Shared) (Q:VK) (E:XK) (r:Result) (s':Shared):Prop :=
 match r with
 | .ok (.ret u)=>CE outer P w H s Q u s'
 | .ok _=>False
 | .error e=>CX outer H s E e s'
structure FnOk (P:Program) (w:World) (K:W.Frag) (mg:Str->Option Value) (base:Heap) (CX:CXT) (k:Nat) (f:Addr) (fd:FuncData) (ps:List Str) (sp:Sp):Prop where
 len:∀ vs H Q E,sp vs H Q E->vs.length=ps.length
 run:∀ (A:Around) (outer:List Env) (s:Shared) (H:Hp) (args:Args) (us:List Value) (vs:List V) (Q:VK) (E:XK),Room k A->Env0 P w K mg base A outer s H->BindsTo s fd args (ps.zip us)->Vals vs us->sp vs H Q E ->
  codeAny (model P w) A (.call (.ref f) args) (CR CX outer P w H s Q E) s
theorem FnOk.mono {P:Program} {w:World} {K:W.Frag} {mg:Str->Option Value} {base:Heap} {CX:CXT} {j k:Nat} {f:Addr} {fd:FuncData} {ps:List Str} {sp:Sp} (F:FnOk P w K mg base CX j f fd ps sp) (h:j<=k) :
  FnOk P w K mg base CX k f fd ps sp:=⟨F.len,fun A outer s H args us vs Q E hr=>F.run A outer s H args us vs Q E (hr.mono h)⟩
section
variable {X:Cx} {pins:List (Addr × Obj)} {σ:St} {H:Hp} {s s':Shared}
theorem Inv.env0 (I:Inv X pins σ H s):Env0 X.prog X.w X.K X.mg X.base X.A X.stack s H :=
 ⟨I.ok.frames,I.ok.mod,I.bs,Nat.le_trans I.ok.bsz I.sz,I.stack,I.stkFree,I.hok,I.bare,I.tk⟩
theorem Inv.after {Q:VK} {u:Value} (I:Inv X pins σ H s) (h:CE X.stack X.prog X.w H s Q u s'):EP X pins σ Q u s':=by
 obtain⟨v,H',⟨os,tk⟩,bare,un,hok,r,q⟩:=h
 obtain⟨hh,g,d,t,os'⟩:=s'
 obtain rfl:os'=s.os:=os
 exact⟨v,H',I.call (h':=hh) (g':=g) (d':=d) (t':=t) (ch:=[]) un hok bare tk (fun b z=>absurd z (by simp)),r,q⟩
end
def WR (sp:Sp) (dvs:List V) (E:XK) (t:TA):TE:=fun σ H Q=>t σ H fun vs H1=>sp (vs++dvs) H1 Q E
def Binds (K:W.Frag) (fd:FuncData) (ps:List Str) (ds:List Value):Prop :=
 ∀ (s:Shared) (us:List Value),K.In s.heap->(us++ds).length=ps.length->BindsTo s fd ⟨us,[]⟩ (ps.zip (us++ds))
theorem Binds.all {K:W.Frag} {fd:FuncData} {ps:List Str} (h:∀ us:List Value,us.length=ps.length->bindArgs fd ⟨us,[]⟩=pure (ps.zip us)):Binds K fd ps []:=fun s us _ hl=>by
 rw[List.append_nil] at hl ⊢
 exact .of_eq (h us hl)
def zBy (CX:CXT) (X:Cx) (E:XK):Prop:=∀ (pins:List (Addr × Obj)) (σ:St) (H:Hp) (s:Shared) (e:Value) (s':Shared),Inv X pins σ H s->CX X.stack H s E e s'->X.xe e s'
section
variable {X:Cx} {CX:CXT} {k:Nat} {f C:Addr} {fd:FuncData} {ps:List Str} {sp:Sp} {dvs:List V} {ds:List Value} {E:XK} {x m:Str} {p pos apos:Pos} {e o:Expr} {es:List Expr} {ta:TE} {t:TA}
theorem zGZ {pins:List (Addr × Obj)} {σ:St} {H:Hp} {s:Shared} {Q:VK} {us:List Value} {vs:List V} (F:FnOk X.prog X.w X.K X.mg X.base CX k f fd ps sp) (hr:Room k X.A) (hb:Binds X.K fd ps ds) (hd:Vals dvs ds) (hx:zBy CX X E)
  (I:Inv X pins σ H s) (r:Vals vs us) (h:sp (vs++dvs) H Q E):wpAny (model X.prog X.w) X.A (call (.ref f) us) (EP X pins σ Q) X.xe s:=by
 have r2:Vals (vs++dvs) (us++ds):=r.append hd
 have hl:(us++ds).length=ps.length:=by rw[← r2.length];exact F.len _ _ _ _ h
 refine wpAny_call (codeAny_mono (F.run X.A X.stack s H ⟨us,[]⟩ (us++ds) (vs++dvs) Q E hr I.env0 (hb s us I.kIn hl) r2 h) fun r s' hq=>?_)
 cases r with
 | error e=>exact hx pins σ H s e s' I hq
 | ok fl =>
  cases fl with
  | ret u=>exact I.after hq
  | next=>exact False.elim hq
  | brk=>exact False.elim hq
  | cont=>exact False.elim hq
theorem QK (F:FnOk X.prog X.w X.K X.mg X.base CX k f fd ps sp) (hr:Room k X.A) (hg:Gl X x) (hm:X.mg x=some (.ref f)) (hk:W.keepIn X.K (.ref f)=true) (hb:Binds X.K fd ps ds) (hd:Vals dvs ds) (hx:zBy CX X E)
  (ha:PA X (e::es) t) (hdb:(x == ("__debug__" : Str))=false:=by decide) (he:starEach (e::es) X.env=(false,eval e X.env)::starEach es X.env:=by rfl) (hpl:(backTo pos (starEach es X.env)).any (·.1)=false:=by rfl) :
  PE X (.Call (.Name x p) (e::es) [] pos) (WR sp dvs E t):=by
 intro pins s σ H Q I h
 refine wpAny_Call_Name_kw (zC2 I hg hm ?_ hdb)
 refine PySem.W.callWith_K (h₀:=X.base) I.ok.mod.kin hk (thn (ha pos pins s σ H _ I h) fun us s1 ⟨vs,H1,I1,r,q⟩=>⟨I1.kIn,?_⟩) he hpl
 exact zGZ F hr hb hd hx I1 r q
end
def PK (X:Cx) (kws:List Keyword) (t:TA):Prop :=
 ∀ (pos:Pos) (pins:List (Addr × Obj)) (s:Shared) (σ:St) (H:Hp) (Q:List V->Hp->Prop),Inv X pins σ H s->t σ H Q->wpAny (model X.prog X.w) X.A (evalAll ((backToKw pos (keywordEach kws X.env)).map (·.2))) (AP X pins σ Q) X.xe s
structure FnScope (N P:List Str) (sc:Scope):Prop where
 kind:sc.kind=.function
 co:sc.isCoroutine=false
 gen:sc.isGenerator=false
 nd:N.Nodup
 pre:N.take P.length=P
 par:∀ x∈P,sc.names.lookup x=some .local\/sc.names.lookup x=some .cell
 nofree:∀ y∈sc.names,y.2 ≠ .free
theorem Jt {kindOf:Str->Option NameKind} {x:Str}:∀ {binds:List (Str × Value)} {m:Str->Option Value},(∀ v,(x,v) ∉ binds)->bindL kindOf binds m x=m x
 | [],_,_=>rfl
 | (n,v)::r,m,h=>by
  unfold bindL
  rw[Jt fun w hw=>h w (List.mem_cons_of_mem _ hw)]
  split
  ·have:x ≠ n:=by rintro rfl;exact h v List.mem_cons_self
   simp[this]
  ·rfl
theorem Jo {kindOf:Str->Option NameKind} {x:Str}:∀ {binds:List (Str × Value)} {m:Str->Option Value},(∀ v,(x,v) ∉ binds)->bindC kindOf binds m x=m x
 | [],_,_=>rfl
 | (n,v)::r,m,h=>by
  unfold bindC
  rw[Jo fun w hw=>h w (List.mem_cons_of_mem _ hw)]
  split
  ·rfl
  ·have:x ≠ n:=by rintro rfl;exact h v List.mem_cons_self
   simp[this]
theorem zAA {kindOf:Str->Option NameKind} {x:Str} {v:Value}:∀ {P:List Str} {vs:List Value} {i:Nat} {m:Str->Option Value},P.Nodup->P[i]? = some x->vs[i]? = some v->kindOf x=some .local ->
  bindL kindOf (P.zip vs) m x=some v
 | [],_,_,_,_,h,_,_=>by simp at h
 | _::_,[],_,_,_,_,h,_=>by simp at h
 | p::P,w::vs,0,m,nd,h1,h2,hk=>by
  simp at h1 h2;subst h1;subst h2
  show bindL kindOf ((p,w)::P.zip vs) m p=_
  unfold bindL
  rw[Jt fun v hv=>(List.nodup_cons.mp nd).1 (List.of_mem_zip hv).1,if_pos hk]
  simp
 | p::P,w::vs,i+1,m,nd,h1,h2,hk=>by
  show bindL kindOf ((p,w)::P.zip vs) m x=_
  unfold bindL
  exact zAA (i:=i) (List.nodup_cons.mp nd).2 (by simpa using h1) (by simpa using h2) hk
theorem Jx {kindOf:Str->Option NameKind} {x:Str} {v:Value}:∀ {P:List Str} {vs:List Value} {i:Nat} {m:Str->Option Value},P.Nodup->P[i]? = some x->vs[i]? = some v->kindOf x ≠ some .local ->
  bindC kindOf (P.zip vs) m x=some v
 | [],_,_,_,_,h,_,_=>by simp at h
 | _::_,[],_,_,_,_,h,_=>by simp at h
 | p::P,w::vs,0,m,nd,h1,h2,hk=>by
  simp at h1 h2;subst h1;subst h2
  show bindC kindOf ((p,w)::P.zip vs) m p=_
  unfold bindC
  rw[Jo fun v hv=>(List.nodup_cons.mp nd).1 (List.of_mem_zip hv).1,if_neg hk]
  simp
 | p::P,w::vs,i+1,m,nd,h1,h2,hk=>by
  show bindC kindOf ((p,w)::P.zip vs) m x=_
  unfold bindC
  exact Jx (i:=i) (List.nodup_cons.mp nd).2 (by simpa using h1) (by simpa using h2) hk
def Zk (N:List Str) (vs:List V):St:=vs.map some++List.replicate (N.length - vs.length) none
def zBd (CX:CXT) (P:Program) (w:World) (K:W.Frag) (mg:Str->Option Value) (base:Heap) (N:List Str) (qual:Str) (scope:Scope) (f:Addr) (cd:Value) (A:Around) (outer:List Env) (s:Shared) (H:Hp) (E:XK):Cx where
 prog:=P
 w:=w
 K:=K
 mg:=mg
 base:=base
 A:=A.deeper (envOfC qual scope s.heap.objs.size f cd)
 N:=N
 s₀:=s
 H₀:=H
 env:=envOfC qual scope s.heap.objs.size f cd
 outer:=outer
 stack:=envOfC qual scope s.heap.objs.size f cd::outer
 ex:=[]
 calm:=true
 fn:=fun _=>true
 pn:=[]
 xe:=fun e s'=>wpAny (model P w) (A.deeper (envOfC qual scope s.heap.objs.size f cd)) (leaving (envOfC qual scope s.heap.objs.size f cd) e) (fun _ s''=>CX outer H s E e s'') (fun e' s''=>CX outer H s E e' s'') s'
theorem zBa {sc:Scope} {n:Nat} {x:Str} (h:sc.names.lookup x=some .cell):∃ c,(cellsFrom n sc.names []).lookup x=some c:=by
 have q:=PySem.W.cellsFrom_some sc.names n [] (.inl h)
 exact Option.isSome_iff_exists.mp q
theorem zDe {CX:CXT} {P:Program} {w:World} {K:W.Frag} {mg:Str->Option Value} {base:Heap} {N ps:List Str} {qual:Str} {scope:Scope} {f:Addr} {cd:Value} {A:Around} {outer:List Env} {s s1:Shared} {H:Hp} {E:XK} {us:List Value} {vs:List V}
  (S:FnScope N ps scope) (hd:A.handled=none) (e0:Env0 P w K mg base A outer s H) (hl:vs.length=ps.length) (r:Vals vs us) (htk:1<=s1.toks)
  (x:InCallC s s.heap.objs.size (bindL (envOfC qual scope s.heap.objs.size f cd).kindOf (ps.zip us) fun _=>none) (cellsFrom (s.heap.objs.size+1) scope.names []) (bindC (envOfC qual scope s.heap.objs.size f cd).kindOf (ps.zip us) fun _=>none) s1) :
  Inv (zBd CX P w K mg base N qual scope f cd A outer s H E) [] (Zk N vs) H s1:=by
 have hpl:ps.length<=N.length:=by have:=congrArg List.length S.pre;rw[List.length_take] at this;omega
 obtain⟨h1,tk,rfl,hk⟩:=x.done
 have noA:∀ b:Addr,b ∉ (zBd CX P w K mg base N qual scope f cd A outer s H E).ex:=fun b z=>absurd (show b∈([]:List Addr) from z) (by simp)
 refine⟨⟨e0.mod,S.kind,rfl,rfl,Nat.le_refl _,fun y z c h1 h2=>?_,fun y hy=>?_,fun y c _ h=>?_,fun _=>hd,Around.frames_deeper e0.frames,.inr ⟨rfl,rfl⟩,fun b z=>absurd z (noA b),e0.bs,e0.bsz,fun b _ _=>noA b,fun b z=>absurd z (noA b),e0.funs,e0.frf⟩,
  rfl,e0.bare,Un.kept hk,⟨_,x.toInCall.ns,fun i y v h1 h2 h3=>?_⟩,fun y c h=>⟨_,x.cell y c h⟩,e0.hok.fresh (Nat.le_refl _),fun y c h=>?_,fun p hp=>absurd (show p∈([]:List (Addr × Obj)) from hp) (by simp),e0.hok.kept hk,?_,htk⟩
 ·exact name_of_addr x.apart (PySem.mem_of_lookup h1) (PySem.mem_of_lookup h2)
 ·have hy:scope.names.lookup y=some .cell\/scope.names.lookup y=some .free:=hy
  rcases hy with hy | hy
  ·exact zBa hy
  ·exact absurd rfl (S.nofree _ (PySem.mem_of_lookup hy))
 ·exact Nat.le_of_lt (x.above y c (PySem.mem_of_lookup h))
 ·have hi:i < vs.length:=by
   unfold Zk at h2
   by_cases hi:i < vs.length
   ·exact hi
   ·rw[List.getElem?_append_right (by simpa using hi)] at h2
    rw[List.getElem?_replicate] at h2
    split at h2 <;> cases h2
  have ha:vs[i]? = some v:=by
   unfold Zk at h2
   rw[List.getElem?_append_left (by simpa using hi),List.getElem?_map] at h2
   cases e:vs[i]? with
   | none=>rw[e] at h2;cases h2
   | some a=>rw[e] at h2;cases h2;rfl
  obtain⟨u,hu,rv⟩:=r.get ha
  have hp:ps[i]? = some y:=by
   rw[← S.pre,List.getElem?_take_of_lt (by omega)];exact h1
  have ndP:ps.Nodup:=by rw[← S.pre];exact S.nd.sublist (List.take_sublist _ _)
  refine⟨u,rv,?_⟩
  rcases S.par y (List.mem_of_getElem? hp) with k | k
  ·exact .inl ⟨k,zAA ndP hp hu k⟩
  ·obtain⟨c,e⟩:=zBa (n:=s.heap.objs.size+1) k
   refine .inr ⟨.inl k,c,e,?_⟩
   have q:=x.cell y c e
   rw[Jx ndP hp hu (by show scope.names.lookup y ≠ _;rw[k];decide)] at q
   exact q
 ·exact e0.hok.fresh (Nat.le_of_lt (x.above y c (PySem.mem_of_lookup h)))
 ·unfold Zk
  show _=N.length
  rw[List.length_append,List.length_map,List.length_replicate]
  omega
theorem zHe {CX:CXT} {P:Program} {w:World} {K:W.Frag} {mg:Str->Option Value} {base:Heap} {k:Nat} {f:Addr} {name qual:Str} {params:Arguments} {body:List Stmt} {scope:Scope} {dV kV doc pm cdv ct oc:Value} {an od:Option Addr}
  {osl:Array (Option Value)} {N ps:List Str} {sp:Sp} (lk:K.lookup f=some ⟨oc,od,.func (W.fnOf name qual params body scope dV kV doc pm an cdv ct),osl⟩) (hcd:W.codeIn K cdv qual=true) (S:FnScope N ps scope)
  (len:∀ vs H Q E,sp vs H Q E->vs.length=ps.length)
  (hbody:∀ (A:Around) (outer:List Env) (s:Shared) (H:Hp) (vs:List V) (Q:VK) (E:XK),Room k (A.deeper (envOfC qual scope s.heap.objs.size f cdv))->sp vs H Q E ->
   ∃ t,PSs (zBd CX P w K mg base N qual scope f cdv A outer s H E) body t/\t { nx:=fun _ H'=>Q .non H',rt:=Q } (Zk N vs) H) :
  FnOk P w K mg base CX (k+1) f (W.fnOf name qual params body scope dV kV doc pm an cdv ct) ps sp:=by
 refine⟨len,fun A outer s H args us vs Q E hr e0 hb r hsp=>?_⟩
 have hl:=len _ _ _ _ hsp
 have KX:K.In s.heap:=e0.mod.kin.keeps fun b o e=>(e0.bs b o e).1
 have lim:s.heap.NoLimit:=e0.mod.nolimit.keeps fun b o e=>(e0.bs b o e).1
 have hkind:∀ y∈ps.zip us,scope.names.lookup y.1=some .local\/(scope.names.lookup y.1=some .cell/\((cellsFrom (s.heap.objs.size+1) scope.names []).lookup y.1).isSome=true):=fun ⟨n,v⟩ hy=>by
  rcases S.par n (List.of_mem_zip hy).1 with q | q
  ·exact .inl q
  ·exact .inr ⟨q,PySem.W.cellsFrom_some _ _ _ (.inl q)⟩
 refine codeAny_call_function hr.depth (KX _ _ lk) rfl S.co S.gen rfl (PySem.W.codeRec_of KX hcd) (hb _ _ _ _ ?_)
 refine zCM (wpAny_newFunctionEnv_cells S.kind hkind fun env he s1 x htk=>?_)
 subst he
 refine⟨lim.keeps x.toInCall.keep,codeAny_func ?_⟩
 obtain⟨t,ht,hq⟩:=hbody A outer s H vs Q E (hr.deeper _) hsp
 have I:Inv (zBd CX P w K mg base N qual scope f cdv A outer s H E) [] (Zk N vs) H s1:=zDe S hr.hd e0 hl r (Nat.le_trans e0.tk htk) x
 refine wpAny_mono (ht [] s1 (Zk N vs) H _ I hq) (fun fl s' hs=>?_) fun e s' hs=>hs
 have fin:∀ {σ':St} {H':Hp} {v:V} {u:Value},Inv (zBd CX P w K mg base N qual scope f cdv A outer s H E) [] σ' H' s'->RelV v u->Q v H'->CE outer P w H s Q u s' :=
  fun {σ' H' v u} J rv q=>⟨v,H',⟨J.os,J.tk⟩,J.bare,J.base,J.hok,rv,q⟩
 cases fl with
 | ret u =>
  obtain⟨v,σ',H',J,rv,q⟩:=hs
  exact fin J rv q
 | next =>
  obtain⟨σ',H',J,q⟩:=hs
  exact fin (v:=V.non) (u:=Value.none) J rfl q
 | brk =>
  obtain⟨_,_,_,q⟩:=hs
  exact False.elim q
 | cont =>
  obtain⟨_,_,_,q⟩:=hs
  exact False.elim q
end L2
namespace L2
open PySem PySem.Spec PyProof.Rows
section
variable {X:Cx} {x:Str} {p pos:Pos} {e:Expr} {es:List Expr} {t:TA} {id T:String} {r:List V->Hp->VK->Prop}
def tCB (r:List V->Hp->VK->Prop) (t:TA):TE:=fun σ H Q=>t σ H fun vs H1=>r vs H1 Q
theorem QL (hc:Q9 X (.builtin id) r) (hg:Gl X x) (hm:X.mg x=none) (hv:bootBuiltins x=some (.builtin id)) (ha:PA X (e::es) t) (hn:x ≠ "__name__" := by decide) (hdb:(x == ("__debug__" : Str))=false:=by decide)
  (he:starEach (e::es) X.env=(false,eval e X.env)::starEach es X.env:=by rfl) (hpl:(backTo pos (starEach es X.env)).any (·.1)=false:=by rfl):PE X (.Call (.Name x p) (e::es) [] pos) (tCB r t):=by
 intro pins s σ H Q I h
 refine wpAny_Call_Name_kw (JG I hg hm hv ?_ hn hdb)
 exact PyProof.Rows.callWith_builtin1 (thn (ha pos pins s σ H _ I h) fun us s1 ⟨vs,H1,I1,r1,q1⟩=>hc pins s1 σ H1 vs us Q I1 r1 q1) he hpl
theorem Qr (hc:Q9 X (.type T) r) (hg:Gl X x) (hm:X.mg x=none) (hv:bootBuiltins x=some (.type T)) (ha:PA X (e::es) t) (hn:x ≠ "__name__" := by decide) (hdb:(x == ("__debug__" : Str))=false:=by decide)
  (he:starEach (e::es) X.env=(false,eval e X.env)::starEach es X.env:=by rfl) (hpl:(backTo pos (starEach es X.env)).any (·.1)=false:=by rfl):PE X (.Call (.Name x p) (e::es) [] pos) (tCB r t):=by
 intro pins s σ H Q I h
 refine wpAny_Call_Name_kw (JG I hg hm hv ?_ hn hdb)
 exact PyProof.Rows.callWith_type1 (thn (ha pos pins s σ H _ I h) fun us s1 ⟨vs,H1,I1,r1,q1⟩=>hc pins s1 σ H1 vs us Q I1 r1 q1) he hpl
end
end L2
namespace HT
open PySem PyProof.Rows
section
variable {prog:Program} {w:World} {A:Around} {E:Value->Shared->Prop} {s:Shared}
def sIx (n d:Nat):Option Int->Nat
 | none=>d
 | some v=>if v < 0 then (v+(n:Int)).toNat else min v.toNat n
end
end HT
namespace L2
open PySem PySem.Spec PyProof.Rows
abbrev TO:=St->Hp->(Option Int->Hp->Prop)->Prop
def PO (X:Cx) (e:Option Expr) (t:TO):Prop :=
 ∀ (pins:List (Addr × Obj)) (s:Shared) (σ:St) (H:Hp) (Q:Option Int->Hp->Prop),Inv X pins σ H s->t σ H Q ->
  wpAny (model X.prog X.w) X.A (evalPart e X.env) (fun u s'=>∃ o H',Inv X pins σ H' s'/\IsPart u o/\Q o H') X.xe s
def zCa:TO:=fun _ H Q=>Q none H
def zGT (t:TE):TO:=fun σ H Q=>t σ H fun x H1=>∃ i,x=.int i/\Q (some i) H1
theorem ZZ {ns:List Int}:∀ {us:List Value},Vals (ns.map V.int) us->IntsAre us ns:=by
 induction ns with
 | nil=>intro us r;rw[List.map_nil] at r;cases r;exact .nil
 | cons n ns ih =>
  intro us r
  rw[List.map_cons] at r
  cases r with
  | cons r1 r2 =>
   obtain⟨t,e⟩:=r1
   subst e
   exact .cons n _ (ih r2)
section
variable {X:Cx} {e:Expr} {te:TE} {lo hi:Option Expr} {tl th:TO} {pos p2:Pos}
theorem Z5:PO X none zCa:=by
 intro pins s σ H Q I h
 rw[evalPart_none]
 exact wpAny_pure ⟨none,H,I,.none,h⟩
theorem Y1 (h:PE X e te):PO X (some e) (zGT te):=by
 intro pins s σ H Q I hw
 rw[evalPart_some]
 refine thn (h pins s σ H _ I hw) fun u s1 ⟨x,H1,I1,r1,q1⟩=>?_
 obtain⟨i,rfl,q⟩:=q1
 obtain⟨t,rfl⟩:=r1
 exact⟨some i,H1,I1,.int i _,q⟩
def SlR (X:Cx) (r:V->Option Int->Option Int->Hp->VK->Prop):Prop :=
 ∀ (pins:List (Addr × Obj)) (s:Shared) (σ:St) (H:Hp) (x:V) (v vl vu:Value) (lo hi:Option Int) (sl:Addr) (Q:VK),Inv X pins σ H s->RelV x v->s.heap.IsSliceOf sl vl vu .none->IsPart vl lo->IsPart vu hi->r x lo hi H Q ->
  ∃ T id,typeLookup (.type T) "__getitem__" = pure (some (.builtin id))/\s.TypeIs v T/\wpAny (model X.prog X.w) X.A (getItem v (.ref sl)) (EP X pins σ Q) X.xe s
def tSl (r:V->Option Int->Option Int->Hp->VK->Prop) (te:TE) (tl th:TO):TE:=fun σ H Q=>te σ H fun x H1=>tl σ H1 fun l H2=>th σ H2 fun u H3=>r x l u H3 Q
theorem Ym {r:V->Option Int->Option Int->Hp->VK->Prop} (hr:SlR X r) (he:PE X e te) (hl:PO X lo tl) (hu:PO X hi th):PE X (.Subscript e (.Slice lo hi none p2) pos) (tSl r te tl th):=by
 intro pins s σ H Q I h
 refine Subscript_ (thn (he pins s σ H _ I h) fun v s1 ⟨x,H1,I1,r1,q1⟩=>?_)
 refine wpAny_Slice (thn (hl pins s1 σ H1 _ I1 q1) fun vl s2 ⟨l,H2,I2,pl,q2⟩=>thn (hu pins s2 σ H2 _ I2 q2) fun vu s3 ⟨u,H3,I3,pu,q3⟩=>?_)
 rw[evalPart_none]
 refine wpAny_pure ?_
 have I4:Inv X pins σ H3 { s3 with heap:=s3.heap.push { cls:=.type "slice",data:=.fields #[vl,vu,.none] } }:=I3.kept (t':=s3.toks) fun b ob q=>Heap.get?_push_of_some _ q
 obtain⟨T,id,hT,ht,hg⟩:=hr pins { s3 with heap:=s3.heap.push { cls:=.type "slice",data:=.fields #[vl,vu,.none] } } σ H3 x v vl vu l u s3.heap.objs.size Q I4 r1 (Heap.IsSliceOf.new ..) pl pu q3
 show wpAny (model X.prog X.w) X.A (subscriptTail e (.Slice lo hi none p2) v (.ref s3.heap.objs.size)) (EP X pins σ Q) X.xe { s3 with heap:=s3.heap.push { cls:=.type "slice",data:=.fields #[vl,vu,.none] } }
 exact tail_any (ops:=[.ref s3.heap.objs.size,v]) ht hT hg (by with_unfolding_all rfl)
def zBE (xs:List V) (lo hi:Option Int):List V:=(xs.drop (HT.sIx xs.length 0 lo)).take (HT.sIx xs.length xs.length hi - HT.sIx xs.length 0 lo)
theorem zBF (xs:List V) (lo hi:Option Int):(zBE xs lo hi).length<=xs.length:=by
 unfold zBE
 rw[List.length_take,List.length_drop]
 omega
end
end L2
namespace L2
open PySem PySem.Spec PyProof.Rows
def ixN (n:Nat) (i:Int):Option Nat:=if 0<=i then (if i < n then some i.toNat else none) else if -(n:Int)<=i then some (i+n).toNat else none
def atI {α:Type} (xs:List α) (i:Int):Option α:=(ixN xs.length i).bind fun j=>xs[j]?
theorem zCe {n:Nat} {i:Int} {j:Nat} (h:ixN n i=some j):seqIndex? i n=some j/\j < n /\ -(n:Int)<=i/\i < n:=by
 unfold ixN at h
 by_cases h0:0<=i
 ·rw[if_pos h0] at h
  by_cases h1:i < n
  ·rw[if_pos h1] at h
   have e:i.toNat=j:=Option.some.inj h
   exact⟨by rw[seqIndex_of h0 h1,e],by omega,by omega,h1⟩
  ·rw[if_neg h1] at h;cases h
 ·rw[if_neg h0] at h
  by_cases h1 : -(n:Int)<=i
  ·rw[if_pos h1] at h
   have e:(i+n).toNat=j:=Option.some.inj h
   exact⟨by rw[seqIndex_neg (by omega) h1,e],by omega,h1,by omega⟩
  ·rw[if_neg h1] at h;cases h
theorem zAq {α:Type} {xs:List α} {i:Int} {v:α} (h:atI xs i=some v):∃ j,seqIndex? i xs.length=some j/\xs[j]? = some v/\j < xs.length /\ -(xs.length:Int)<=i/\i < xs.length:=by
 unfold atI at h
 cases e:ixN xs.length i with
 | none=>rw[e] at h;cases h
 | some j =>
  rw[e] at h
  obtain⟨h1,h2,h3,h4⟩:=zCe e
  exact⟨j,h1,h,h2,h3,h4⟩
theorem Qn {α:Type} {xs:List α} {j:Nat} {v:α} (h:xs[j]? = some v):atI xs (j:Int)=some v:=by
 have hj:j < xs.length:=(List.getElem?_eq_some_iff.mp h).1
 have e:ixN xs.length (j:Int)=some j:=by
  unfold ixN
  rw[if_pos (by omega),if_pos (by omega)];simp
 unfold atI;rw[e];exact h
theorem zEi {α:Type} (xs:List α) (v:α):atI (xs++[v]) (-1)=some v:=by
 have hl:(xs++[v]).length=xs.length+1:=by simp
 have e:ixN (xs++[v]).length (-1)=some xs.length:=by
  unfold ixN
  rw[hl,if_neg (by decide),if_pos (by omega)]
  congr 1
  omega
 unfold atI
 rw[e]
 show (xs++[v])[xs.length]? = some v
 simp
def zFY (b:Expr):Prop:=∀ o i,subscripted b false o i=operate [o,i] (getItem o i)
def IxR (X:Cx) (r:R2):Prop :=
 ∀ (value slice:Expr) (pins:List (Addr × Obj)) (s:Shared) (σ:St) (H:Hp) (x y:V) (v u:Value) (Q:VK),Inv X pins σ H s->RelV x v->RelV y u->r x y H Q ->
  subscripted slice false v u=operate [v,u] (getItem v u)->wpAny (model X.prog X.w) X.A (subscriptTail value slice v u) (EP X pins σ Q) X.xe s
def MtR (X:Cx) (id:String) (r:V->List V->Hp->VK->Prop):Prop :=
 ∀ (pins:List (Addr × Obj)) (s:Shared) (σ:St) (H:Hp) (x:V) (xs:List V) (v:Value) (us:List Value) (Q:VK),Inv X pins σ H s->RelV x v->Vals xs us->r x xs H Q ->
  wpAny (model X.prog X.w) X.A (call (.builtin id) (v::us)) (EP X pins σ Q) X.xe s
section
variable {X:Cx} {a b:Expr} {ta tb:TE} {pos:Pos}
theorem Qp {r:R2} (hr:IxR X r) (ha:PE X a ta) (hb:PE X b tb) (hs:zFY b):PE X (.Subscript a b pos) (tOp r ta tb):=by
 intro pins s σ H Q I h
 exact Subscript_ (zHD ha hb I h fun v u s2 x y H2 I2 rx ry q=>hr a b pins s2 σ H2 x y v u Q I2 rx ry q (hs _ _))
def zH1 (K:W.Frag):R2:=fun x y H Q=>∃ p xs i v,x=.ref p/\y=.int i/\SqL K H p xs/\atI xs i=some v/\Q v H
def zH9 (K:W.Frag):R2:=fun x y H Q=>∃ p xs i v,x=.ref p/\y=.int i/\SqT K H p xs/\atI xs i=some v/\Q v H
def zIC:R2:=fun x y H Q=>∃ z i c,x=.str z/\y=.int i/\z.length<=sizeLine/\atI z.cps.toList i=some c/\Q (.str ⟨#[c]⟩) H
theorem zCt:IxR X (zH1 X.K):=by
 intro value slice pins s σ H x y v u Q I rx ry h hs
 obtain⟨p,xs,i,z,rfl,rfl,hq,he,q⟩:=h
 cases rx
 obtain⟨t,rfl⟩:=ry
 obtain⟨its,r,pl,hz⟩:=I.list hq
 obtain⟨j,h1,h2,h3,h4,h5⟩:=zAq he
 obtain⟨w,ew,rw'⟩:=r.get h2
 have hl:=r.length
 have hn:=WG
 have fin:EP X pins σ Q w s:=⟨z,H,I,rw',q⟩
 by_cases h0:0<=i
 ·have hj:i.toNat=j:=by
   rw[seqIndex_of h0 h5] at h1
   exact Option.some.inj h1
  exact item_listR pl.isList h0 (by omega) (by rw[hj];simpa using ew) fin hs
 ·have hj:(i+(its.toArray.size:Int)).toNat=j:=by
   rw[seqIndex_neg (by omega) h4] at h1
   rw[List.size_toArray,← hl]
   exact Option.some.inj h1
  exact subscriptTail_builtinR (x:=w) pl.isList.typeIs slot_list_getitem.lookup
   (wpAny_getItem_list_neg (Q:=fun r s'=>r=w/\EP X pins σ Q r s') pl.isList (by omega) (by rw[List.size_toArray] <;> omega) (by omega) (by rw[hj];simpa using ew) ⟨rfl,fin⟩) hs
theorem zG5:IxR X (zH9 X.K):=by
 intro value slice pins s σ H x y v u Q I rx ry h hs
 obtain⟨p,xs,i,z,rfl,rfl,hq,he,q⟩:=h
 cases rx
 obtain⟨t,rfl⟩:=ry
 obtain⟨its,r,pl,hz⟩:=I.tuple hq
 obtain⟨j,h1,h2,h3,h4,h5⟩:=zAq he
 obtain⟨w,ew,rw'⟩:=r.get h2
 have hl:=r.length
 have hn:=WG
 have fin:EP X pins σ Q w s:=⟨z,H,I,rw',q⟩
 exact subscriptTail_builtinR (x:=w) pl.typeIs slot_tuple_getitem.lookup
  (getItem_tuple (j:=j) (Q:=fun r s'=>r=w/\EP X pins σ Q r s') pl (by omega) (by omega) (by rw[List.size_toArray,← hl];exact h1) (by simpa using ew) ⟨rfl,fin⟩) hs
theorem zGs:IxR X zIC:=by
 intro value slice pins s σ H x y v u Q I rx ry h hs
 obtain⟨z,i,c,rfl,rfl,hz,he,q⟩:=h
 obtain⟨t,rfl⟩:=rx
 obtain⟨t',rfl⟩:=ry
 obtain⟨j,h1,h2,h3,h4,h5⟩:=zAq he
 have hl:z.cps.toList.length=z.length:=by simp[Str.length]
 rw[hl] at h1 h4 h5
 have hn:=WG
 exact tail_any (typeIs_str s z t) slot_str_getitem.lookup (getItem_str (c:=c) (by
  have e1:decide (i < -(2 ^ 63:Int))=false:=decide_eq_false (by omega)
  have e2:decide (i ≥ 2 ^ 63)=false:=decide_eq_false (by omega)
  rw[e1,e2,Bool.or_false]) (by rw[h1];simpa using h2) ⟨.str ⟨#[c]⟩,H,I.tok _,I.rS,q⟩) hs
theorem zB9 (its:List Value) (n j:Nat) (u:Value):Obj.mapSeq (·.setIfInBounds j u) { cls:=.type "list",data:=.seq its.toArray n }={ cls:=.type "list",data:=.seq (its.set j u).toArray n }:=by
 simp[Obj.mapSeq]
theorem Inv.lst {pins:List (Addr × Obj)} {σ:St} {H:Hp} {s:Shared} {p:Addr} {xs:List V} (I:Inv X pins σ H s) (h:H p=some (.lst xs)) :
  ∃ (its:List Value) (n:Nat),Vals xs its/\s.heap.get? p=some { cls:=.type "list",data:=.seq its.toArray n }/\xs.length<=sizeLine:=by
 obtain⟨z,its,n,r,e⟩:=I.hok p _ h
 exact⟨its,n,r,e,z⟩
theorem Inv.lstUpd {pins:List (Addr × Obj)} {σ:St} {H:Hp} {s:Shared} {p:Addr} {xs ys:List V} {its its':List Value} {n n':Nat} {f:Obj->Obj} (I:Inv X pins σ H s) (h:H p=some (.lst xs))
  (ho:s.heap.get? p=some { cls:=.type "list",data:=.seq its.toArray n }) (hf:f { cls:=.type "list",data:=.seq its.toArray n }={ cls:=.type "list",data:=.seq its'.toArray n' }) (r:Vals ys its') (hz:ys.length<=sizeLine) (t':Nat) (ht:1<=t':=by first | exact Nat.le_add_left _ _ | exact Inv.tk (by assumption) | assumption | omega) :
  Inv X pins σ (upd H p (.lst ys)) { s with heap:=s.heap.update p f,toks:=t' }:=by
 have e:(s.heap.update p f).get? p=some { cls:=.type "list",data:=.seq its'.toArray n' }:=by
  rw[Heap.get?_update_self f ho (by rw[hf] <;> rfl),hf]
 refine I.write (x:=p) (e:=p) (by rw[h];trivial) (.inl rfl) (fun b u hb q=>(Heap.get?_update_other _ _ (Ne.symm hb)).trans q) ⟨_,e⟩ ?_ ht
 exact⟨hz,its',n',r,e⟩
def zHT:V->V->V->Hp->(Hp->Prop)->Prop:=fun o i v H Q=>∃ p xs k j,o=.ref p/\i=.int k/\H p=some (.lst xs)/\ixN xs.length k=some j/\Q (upd H p (.lst (xs.set j v)))
theorem zEe:zHF X zHT:=by
 intro pins s σ H o i v ov iv u Q I ro ri rv h
 obtain⟨p,xs,k,j,rfl,rfl,hp,hj,q⟩:=h
 cases ro
 obtain⟨t,rfl⟩:=ri
 obtain⟨its,n,r,ho,hz⟩:=I.lst hp
 obtain⟨h1,h2,h3,h4⟩:=zCe hj
 have hl:=r.length
 have hn:=WG
 have I':Inv X pins σ (upd H p (.lst (xs.set j v))) { s with heap:=s.heap.update p (Obj.mapSeq (·.setIfInBounds j u)) } :=
  I.lstUpd hp ho (zB9 its n j u) (r.set rv j) (by rw[List.length_set];exact hz) s.toks
 by_cases h0:0<=k
 ·have hk:k.toNat=j:=by
   rw[seqIndex_of h0 h4] at h1
   exact Option.some.inj h1
  exact PySem.W.ki_setAt ho h0 (by omega) (by rw[List.size_toArray,← hl];exact h4) (by rw[hk];exact⟨_,I',q⟩)
 ·have hk:(k+(its.toArray.size:Int)).toNat=j:=by
   rw[seqIndex_neg (by omega) h3] at h1
   rw[List.size_toArray,← hl]
   exact Option.some.inj h1
  exact PySem.W.ki_setBack ho (by omega) (by rw[List.size_toArray,← hl];exact h3) (by omega) (by rw[hk];exact⟨_,I',q⟩)
theorem zAO (lo hi:Option Int) (n:Nat):(sliceBounds lo hi none n).1=((HT.sIx n 0 lo:Nat):Int)/\(sliceBounds lo hi none n).2.1=((HT.sIx n n hi:Nat):Int)/\(sliceBounds lo hi none n).2.2=1:=by
 refine⟨?_,?_,rfl⟩
 ·cases lo with
  | none=>simp[sliceBounds,HT.sIx]
  | some i =>
   simp only[sliceBounds,HT.sIx,Option.getD_none,show (1:Int) > 0 by decide,if_true]
   by_cases h:i < 0
   ·simp only[h,if_true] <;> omega
   ·simp only[h,if_false] <;> omega
 ·cases hi with
  | none=>simp[sliceBounds,HT.sIx]
  | some i =>
   simp only[sliceBounds,HT.sIx,Option.getD_none,show (1:Int) > 0 by decide,if_true]
   by_cases h:i < 0
   ·simp only[h,if_true] <;> omega
   ·simp only[h,if_false] <;> omega
theorem JY (its:List Value) (lo hi:Option Int):slicePick its.toArray lo hi none=((its.drop (HT.sIx its.length 0 lo)).take (HT.sIx its.length its.length hi - HT.sIx its.length 0 lo)).toArray:=by
 obtain⟨h1,h2,h3⟩:=zAO lo hi its.toArray.size
 unfold slicePick
 rw[h1,h2,h3]
 simp only[sliceRange_one,pick_run,List.size_toArray] <;> rfl
def zH4 (K:W.Frag):V->Option Int->Option Int->Hp->VK->Prop:=fun x lo hi H Q=>∃ a xs,x=.ref a/\SqL K H a xs/\∀ p,H p=none->Q (.ref p) (upd H p (.lst (zBE xs lo hi)))
theorem Wb:SlR X (zH4 X.K):=by
 intro pins s σ H x v vl vu lo hi sl Q I rx hs pl pu h
 obtain⟨a,xs,rfl,hx,q⟩:=h
 cases rx
 obtain⟨its,r,ht,hz⟩:=I.list hx
 have hlen:=r.length
 refine⟨"list",_,slot_list_getitem.lookup,ht.isList.typeIs,?_⟩
 refine wpAny_getItem_list_slice ht.isList hs pl pu .none (by simp) ?_ (by rw[List.size_toArray] <;> omega)
 rw[JY,← hlen]
 refine⟨.ref s.heap.objs.size,_,I.laid (t':=s.toks) (o:=.lst (zBE xs lo hi)) (fun b ob q=>Heap.get?_push_of_some _ q) (Nat.le_refl _) ?_,rfl,q _ (I.hok.fresh (Nat.le_refl _))⟩
 exact⟨Nat.le_trans (zBF xs lo hi) hz,_,0,(r.drop (HT.sIx xs.length 0 lo)).take (HT.sIx xs.length xs.length hi - HT.sIx xs.length 0 lo),Heap.get?_push_size _ rfl⟩
theorem Yy:Q9 X (.builtin "len") (fun xs H Q=>∃ p ys,xs=[.ref p]/\(SqL X.K H p ys\/SqT X.K H p ys)/\Q (.int ys.length) H):=by
 intro pins s σ H xs us Q I r h
 obtain⟨p,ys,rfl,hq,q⟩:=h
 obtain⟨u,rfl,rx⟩:=Y3 r
 cases rx
 have hn:=WG
 rcases hq with hq | hq
 ·obtain⟨its,r',pl,hz⟩:=I.list hq
  have hlen:=r'.length
  exact Calls.call_len_list pl.isList (by simp only[List.size_toArray] <;> omega) ⟨.int ys.length,H,I.tok _,⟨s.toks,by rw[List.size_toArray,hlen]⟩,q⟩
 ·obtain⟨its,r',pl,hz⟩:=I.tuple hq
  have hlen:=r'.length
  exact len_tuple pl (by simp only[List.size_toArray] <;> omega) ⟨.int ys.length,H,I.tok _,⟨s.toks,by rw[List.size_toArray,hlen]⟩,q⟩
theorem zAG:Q9 X (.builtin "len") (fun xs H Q=>∃ z,xs=[.str z]/\z.length<=sizeLine/\Q (.int z.length) H):=by
 intro pins s σ H xs us Q I r h
 obtain⟨z,rfl,hz,q⟩:=h
 obtain⟨u,rfl,t,rfl⟩:=Y3 r
 have hn:=WG
 exact len_str (by omega) ⟨.int z.length,H,I.tok _,⟨_,rfl⟩,q⟩
theorem zAR:Q9 X (.type "list") (fun xs H Q=>∃ p ys,xs=[.ref p]/\(SqL X.K H p ys\/SqT X.K H p ys)/\∀ l,H l=none->Q (.ref l) (upd H l (.lst ys))):=by
 intro pins s σ H xs us Q I r h
 obtain⟨p,ys,rfl,hq,q⟩:=h
 obtain⟨u,rfl,rx⟩:=Y3 r
 cases rx
 have fin:∀ (its:List Value),Vals ys its->ys.length<=sizeLine->∀ (h':Heap) (c':Nat),(∀ b o',s.heap.get? b=some o'->h'.get? b=some o') ->
   h'.get? s.heap.objs.size=some { cls:=.type "list",dict:=none,data:=.seq its.toArray c',slots := #[] }->EP X pins σ Q (.ref s.heap.objs.size) { s with heap:=h' }:=fun its r' hz h' c' kp e =>
  ⟨.ref s.heap.objs.size,_,I.laid (t':=s.toks) kp (Nat.le_refl _) (show ObjOk X.prog X.w _ h' _ (.lst ys) from ⟨hz,its,c',r',e⟩),rfl,q _ (I.hok.fresh (Nat.le_refl _))⟩
 rcases hq with hq | hq
 ·obtain⟨its,r',pl,hz⟩:=I.list hq
  have hlen:=r'.length
  obtain⟨o,ho,hc,n,hd⟩:=pl.isList
  exact call_list_seq p (.inl rfl) ho hc hd (fun h' c' kp e=>fin its r' hz h' c' kp e) (by simp only[List.size_toArray] <;> omega)
 ·obtain⟨its,r',pl,hz⟩:=I.tuple hq
  have hlen:=r'.length
  obtain⟨o,ho,hc,n,hd⟩:=pl
  exact call_list_seq p (.inr rfl) ho hc hd (fun h' c' kp e=>fin its r' hz h' c' kp e) (by simp only[List.size_toArray] <;> omega)
theorem ZR:Q9 X (.type "tuple") (fun xs H Q=>∃ p ys,xs=[.ref p]/\((SqL X.K H p ys/\∀ l,H l=none->Q (.ref l) (upd H l (.tup ys)))\/(SqT X.K H p ys/\Q (.ref p) H))):=by
 intro pins s σ H xs us Q I r h
 obtain⟨p,ys,rfl,h⟩:=h
 obtain⟨u,rfl,rx⟩:=Y3 r
 cases rx
 rcases h with ⟨hq,q⟩ | ⟨hq,q⟩
 ·obtain⟨its,r',pl,hz⟩:=I.list hq
  have hlen:=r'.length
  refine call_tuple_list pl.isList (fun h' kp=>?_) (by simp only[List.size_toArray] <;> omega)
  have I1:Inv X pins σ H { s with heap:=h' }:=I.kept (t':=s.toks) kp
  have I2:Inv X pins σ (upd H h'.objs.size (.tup ys)) { s with heap:=h'.push { cls:=.type "tuple",data:=.seq its.toArray } } :=
   I1.laid (t':=s.toks) (fun b o e=>Heap.get?_push_of_some _ e) (Nat.le_refl _) (show ObjOk X.prog X.w _ _ _ (.tup ys) from ⟨hz,its,r',IsTup.new _ _⟩)
  exact⟨.ref h'.objs.size,_,I2,rfl,q _ (I1.hok.fresh (Nat.le_refl _))⟩
 ·obtain⟨its,r',pl,hz⟩:=I.tuple hq
  exact call_tuple_same pl ⟨.ref p,H,I,rfl,q⟩
def tyV (K:W.Frag) (T:String) (x:V) (H:Hp):Prop:=match x with
 | .str _=>T = "str"
 | .int _=>T = "int"
 | .ref p => (T = "list" /\ ∃ xs, SqL K H p xs) \/ (T = "tuple" /\ ∃ o, K.lookup p = some o /\ o.cls = .type "tuple" /\ o.dict = none) \/
   (T = "dict" /\ ((∃ kvs,H p=some (.dK kvs))\/∃ kvs,H p=some (.dT kvs)))\/(T = "set" /\ ∃ S n,H p=some (.set S n))
 | _=>False
theorem zGn {pins:List (Addr × Obj)} {σ:St} {H:Hp} {s:Shared} {T:String} {x:V} {v:Value} (I:Inv X pins σ H s) (r:RelV x v) (ty:tyV X.K T x H) :
  s.TypeIs v T/\∀ a,v=.ref a->∃ ob,s.heap.get? a=some ob/\ob.dict=none:=by
 cases x with
 | str z =>
  obtain⟨t,rfl⟩:=r
  cases (show T = "str" from ty)
  exact⟨typeIs_str s z t,fun _ e=>nomatch e⟩
 | int i =>
  obtain⟨t,rfl⟩:=r
  cases (show T = "int" from ty)
  exact⟨typeIs_int s i t,fun _ e=>nomatch e⟩
 | ref p =>
  cases r
  rcases ty with ⟨rfl,xs,hq⟩ | ⟨rfl,o,hk,hc,hd⟩ | ⟨rfl,hk⟩ | ⟨rfl,S,n,hk⟩
  ·obtain⟨its,_,pl,_⟩:=I.list hq
   refine⟨pl.isList.typeIs,fun a e=>?_⟩
   cases e
   obtain⟨o,n,e,c,hd,_⟩:=pl
   exact⟨o,e,hd⟩
  ·refine⟨⟨o,I.kIn p o hk,hc⟩,fun a e=>?_⟩
   cases e
   exact⟨o,I.kIn _ o hk,hd⟩
  ·have z:∃ o,s.heap.get? p=some o/\o.ExactDict:=by
    rcases hk with ⟨kvs,hk⟩ | ⟨kvs,hk⟩
    ·obtain⟨_,_,_,_,o,_,_,e,ex,_⟩:=I.hok p _ hk
     exact⟨o,e,ex⟩
    ·obtain⟨_,_,_,_,o,_,_,e,ex,_⟩:=I.hok p _ hk
     exact⟨o,e,ex⟩
   obtain⟨o,e,ex⟩:=z
   refine⟨⟨o,e,ex.1⟩,fun a e2=>?_⟩
   cases e2
   exact⟨o,e,ex.2.1⟩
  ·obtain⟨o,_,_,_,e,ex,_⟩:=I.hok p _ hk
   refine⟨⟨o,e,ex.1⟩,fun a e2=>?_⟩
   cases e2
   exact⟨o,e,ex.2.1⟩
 | _=>exact False.elim ty
def zH8 (K:W.Frag) (T:String) (r:V->List V->Hp->VK->Prop) (to:TE):TE:=fun σ H Q=>to σ H fun x H1=>tyV K T x H1/\r x [] H1 Q
def tBM (K:W.Frag) (T:String) (r:V->List V->Hp->VK->Prop) (to:TE) (t:TA):TE:=fun σ H Q=>to σ H fun x H1=>tyV K T x H1/\t σ H1 fun xs H2=>r x xs H2 Q
variable {o e:Expr} {es:List Expr} {to:TE} {t:TA} {name:Str} {apos cpos:Pos} {T id:String} {r:V->List V->Hp->VK->Prop}
theorem ZW (pa:PlainAttrs T) (slot:Slot T name id) (hty:typeOf (.builtin id)=pure (.type "method_descriptor")) (hm:MtR X id r) (ho:PE X o to) (ha:PA X (e::es) t)
  (hbase:attributeBase o name X.env (eval o X.env)=eval o X.env:=by rfl)
  (hfew:((backTo cpos (starEach (e::es) X.env)).all (fun x => !x.1) && (backToKw cpos (keywordEach [] X.env)).all (fun x=>x.1.isSome)
   && decide ((e::es).length+([]:List Keyword).length+(if ([]:List Keyword).isEmpty then 0 else 1) < 30))=true:=by rfl)
  (hline:(apos.endLine == cpos.line)=true:=by rfl) (hs:starEach (e::es) X.env=(false,eval e X.env)::starEach es X.env:=by rfl) (hplain:(backTo cpos (starEach es X.env)).any (·.1)=false:=by rfl) :
  PE X (.Call (.Attribute o name apos) (e::es) [] cpos) (tBM X.K T r to t):=by
 intro pins s σ H Q I h
 refine wpAny_Call_method_late hbase hfew hline rfl (thn (ho pins s σ H _ I h) fun v s1 ⟨x,H1,I1,r1,ty,q1⟩=>?_)
 obtain⟨h1,h2⟩:=zGn I1 r1 ty
 refine⟨T,id,pa,slot,hty,h1,h2,?_⟩
 have hA:=ha cpos pins s1 σ H1 _ I1 q1
 rw[hs] at hA ⊢
 refine Calls.callWith_builtin (by show (false || (backTo cpos (starEach es X.env)).any (·.1))=false;rw[hplain] <;> rfl) (Calls.evalArgs_plain ?_)
 exact thn hA fun us s2 ⟨vs,H2,I2,r2,q2⟩=>hm pins s2 σ H2 x vs v us Q I2 r1 r2 q2
end
end L2
namespace L2
open PySem PySem.Spec PyProof.Rows
def MtM (X:Cx) (id:String) (r:V->List V->Hp->VK->Prop):Prop :=
 ∀ (pins:List (Addr × Obj)) (s:Shared) (σ:St) (H:Hp) (x:V) (xs:List V) (v:Value) (us:List Value) (Q:VK),Inv X pins σ H s->RelV x v->Vals xs us->r x xs H Q ->
  wpAny (model X.prog X.w) X.A (call (.builtin id) (v::us)) (EP X pins σ Q) X.xe s
theorem Vals.one:∀ {x:V} {us:List Value},Vals [x] us->∃ u,us=[u]/\RelV x u
 | _,_,.cons r .nil=>⟨_,rfl,r⟩
theorem Vals.rep {xs:List V} {us:List Value} (h:Vals xs us):∀ k:Nat,Vals (List.replicate k xs).flatten (List.replicate k us).flatten
 | 0=>.nil
 | k+1=>by
  rw[List.replicate_succ,List.replicate_succ,List.flatten_cons,List.flatten_cons]
  exact Vals.append h (Vals.rep h k)
theorem Jr (its:List Value):∀ (k:Nat) (acc:List Value),
  List.foldl (fun x1 x2=>x1++x2) acc.toArray (List.replicate k its.toArray)=(acc++(List.replicate k its).flatten).toArray
 | 0,acc=>by simp
 | k+1,acc=>by
  have e:acc.toArray++its.toArray=(acc++its).toArray:=by simp
  have e2:(acc++its)++(List.replicate k its).flatten=acc++(List.replicate (k+1) its).flatten:=by
   rw[List.replicate_succ,List.flatten_cons,List.append_assoc]
  rw[← e2,← Jr its k (acc++its),← e,List.replicate_succ,List.foldl_cons]
section
variable {X:Cx} {pins:List (Addr × Obj)} {σ:St} {H:Hp} {s:Shared} {l b:Addr} {xs ys zs:List V}
theorem Inv.lset {its its':List Value} {n:Nat} {f:Array Value->Array Value} {t':Nat} (I:Inv X pins σ H s) (hH:H l=some (.lst xs))
  (e:s.heap.get? l=some { cls:=.type "list",data:=.seq its.toArray n }) (hf:f its.toArray=its'.toArray) (hv:Vals ys its') (hz:ys.length<=sizeLine) (ht:1<=t':=by first | exact Nat.le_add_left _ _ | exact Inv.tk (by assumption) | assumption | omega) :
  Inv X pins σ (upd H l (.lst ys)) { s with heap:=s.heap.update l (Obj.mapSeq f),toks:=t' }:=by
 have q:=PySem.IsL.update e f
 rw[hf] at q
 refine I.write (x:=l) (e:=l) (by rw[hH];exact trivial) (.inl rfl) (fun b' u hb hu=>(Heap.get?_update_other s.heap (Obj.mapSeq f) (Ne.symm hb)).trans hu) ⟨_,q⟩ ?_ ht
 exact⟨hz,its',_,hv,q⟩
theorem Inv.lnew {its:List Value} {t':Nat} (I:Inv X pins σ H s) (hv:Vals ys its) (hz:ys.length<=sizeLine) (ht:1<=t':=by first | exact Nat.le_add_left _ _ | exact Inv.tk (by assumption) | assumption | omega) :
  Inv X pins σ (upd H s.heap.objs.size (.lst ys)) { s with heap:=s.heap.push { cls:=.type "list",data:=.seq its.toArray },toks:=t' } :=
 I.laid (fun _ _ q=>Heap.get?_push_of_some _ q) (Nat.le_refl _) ⟨hz,its,0,hv,Heap.get?_push_size _ rfl⟩ ht
theorem Inv.fresh (I:Inv X pins σ H s):H s.heap.objs.size=none:=I.hok.fresh (Nat.le_refl _)
theorem Inv.lstM (I:Inv X pins σ H s) (hH:H l=some (.lst xs)):xs.length<=sizeLine/\∃ (its:List Value) (n:Nat),Vals xs its/\xs.length=its.length/\s.heap.get? l=some { cls:=.type "list",data:=.seq its.toArray n }:=by
 obtain⟨z,its,n,r,e⟩:=I.hok l _ hH
 exact⟨z,its,n,r,r.length,e⟩
theorem zE5 {n:Nat} (h:n<=sizeLine):Builtin.List.listTooLong n=false:=by
 unfold Builtin.List.listTooLong
 exact decide_eq_false (by omega)
end
section
variable {X:Cx}
def zF8:V->List V->Hp->VK->Prop:=fun x vs H Q=>∃ l xs y,x=.ref l/\vs=[y]/\H l=some (.lst xs)/\xs.length < sizeLine/\Q .non (upd H l (.lst (xs++[y])))
theorem zDE:MtM X "list.append" zF8:=by
 intro pins s σ H x vs v us Q I rx rv h
 obtain⟨l,xs,y,rfl,rfl,hH,hz,q⟩:=h
 cases rx
 obtain⟨u,rfl,ru⟩:=rv.one
 obtain⟨z,its,n,r,hl,e⟩:=I.lstM hH
 refine call_meets F.slot_list_append ⟨_,e,rfl⟩ F.entry_list_append (F.args_list_append_2 _ _) (PySem.list_append l its.toArray n u (by rw[List.size_toArray];omega)) ⟨e,?_⟩
 refine⟨.non,_,I.lset (its':=its++[u]) hH e (by simp) (r.append (.cons ru .nil)) ?_,rfl,q⟩
 rw[List.length_append,List.length_singleton]
 omega
def zH5:R2:=fun x y H Q=>∃ l b xs zs,x=.ref l/\y=.ref b/\H l=some (.lst xs)/\H b=some (.lst zs)/\xs.length+zs.length<=sizeLine/\∀ p,H p=none->Q (.ref p) (upd H p (.lst (xs++zs)))
theorem zGz:OpR X (binaryOp .Add) zH5:=by
 intro pins s σ H x y v u Q I rx ry h
 obtain⟨l,b,xs,zs,rfl,rfl,hH,hB,hz,q⟩:=h
 cases rx
 cases ry
 obtain⟨z,its,n,r,hl,e⟩:=I.lstM hH
 obtain⟨z2,its2,n2,r2,hl2,e2⟩:=I.lstM hB
 refine PySem.P.add_list e e2 ?_ (by rw[List.size_toArray,List.size_toArray];omega)
 have ea:its.toArray++its2.toArray=(its++its2).toArray:=by simp
 rw[ea]
 exact⟨.ref _,_,I.lnew (t':=s.toks) (r.append r2) (by rw[List.length_append];omega),rfl,q _ I.fresh⟩
def zH3:R2:=fun x y H Q=>∃ l k xs,x=.ref l/\y=.int k/\H l=some (.lst xs) /\ -(2 ^ 63)<=k/\k < 2 ^ 63/\xs.length*k.toNat<=sizeLine /\
 ∀ p,H p=none->Q (.ref p) (upd H p (.lst (List.replicate k.toNat xs).flatten))
theorem zFI {α:Type} (xs:List α) (k:Nat):(List.replicate k xs).flatten.length=k*xs.length:=by
 induction k with
 | zero=>simp
 | succ k ih=>rw[List.replicate_succ,List.flatten_cons,List.length_append,ih,Nat.succ_mul,Nat.add_comm]
theorem zG8:OpR X (binaryOp .Mult) zH3:=by
 intro pins s σ H x y v u Q I rx ry h
 obtain⟨l,k,xs,rfl,rfl,hH,h1,h2,hz,q⟩:=h
 cases rx
 obtain⟨t,rfl⟩:=ry
 obtain⟨z,its,n,r,hl,e⟩:=I.lstM hH
 have hlen:its.toArray.size*k.toNat<=sizeLine:=by rw[List.size_toArray,← hl];exact hz
 have hcap:¬ its.toArray.size*k.toNat > (2 ^ 63 - 1) / 8:=by
  have:(sizeLine:Nat)<=(2 ^ 63 - 1) / 8:=by decide
  omega
 have hfit:¬ (!Builtin.List.listFitsIndex k)=true:=by
  rw[fitsIndex_both h1 h2]
  exact Bool.false_ne_true
 have hlong:¬ Builtin.List.listTooLong (its.toArray.size*k.toNat)=true:=by
  rw[zE5 hlen]
  exact Bool.false_ne_true
 have hnew:List.foldl (fun x1 x2=>x1++x2) #[] (List.replicate (if its.toArray.isEmpty=true then 0 else k.toNat) its.toArray)=(List.replicate k.toNat its).flatten.toArray:=by
  have f0:∀ m:Nat,List.foldl (fun x1 x2=>x1++x2) #[] (List.replicate m its.toArray)=(List.replicate m its).flatten.toArray:=fun m=>by
   have:=Jr its m []
   rw[List.nil_append] at this
   exact this
  rw[f0]
  cases its with
  | nil=>simp
  | cons a r'=>rw[if_neg (by simp)]
 refine wpAny_binaryOp_repeat_ref (T := "list") (U := "int") (by decide) ⟨_,e,rfl⟩ (fun s'=>typeIs_int s' k t) noFill_list_mul F.fills_int_mul F.slot_int_rmul repeat_list F.slot_int_index.lookup
  (call_meets F.slot_int_rmul (typeIs_int s k t) F.entry_int_rmul (F.args_int_rmul_2 _ _) (int___rmul___int_list k t l its.toArray n)
   ⟨e,rfl,⟨_,e,rfl⟩,call_meets F.slot_list_mul ⟨_,e,rfl⟩ F.entry_list_mul (F.args_list_mul_2 _ _) (AutoListH.list___mul___list_int_3 l its.toArray n k t hfit hcap hlong) ⟨e,?_⟩⟩)
 rw[hnew]
 exact⟨.ref _,_,I.lnew (t':=s.toks) (r.rep k.toNat) (by rw[zFI,Nat.mul_comm];exact hz),rfl,q _ I.fresh⟩
end
end L2
namespace Att
open PySem PySem.W PySem.Calls PyProof.Rows
theorem WZ {P:Params} {h:Heap}:∀ (ns:List Int) (vs:List Value),WellAll P h vs (ns.map WData.int)->IntsAre vs ns:=by
 intro ns
 induction ns with
 | nil =>
  intro vs w
  rw[List.map_nil] at w
  cases w
  exact .nil
 | cons n ns ih =>
  intro vs w
  rw[List.map_cons] at w
  cases w with
  | cons a b =>
   cases a
   exact .cons _ _ (ih _ b)
theorem zC9 {l:OpenLaw} {n:Nat} (hn:l.most=some n) {P:Params} {h:Heap} {args:List WData} {vals:List Value}
  (hpre:l.row.toRowW.claim.pre args=true) (hwl:WellAll P h vals args) :
  ∃ a vs ns,vals=[Value.ref a]/\args=[WData.list (ns.map WData.int)]/\h.get? a=some { cls:=.type "list",data:=.seq vs.toArray }/\IntsAre vs ns/\ns.length<=n:=by
 have hsh:WShape.hasAll [] args [.list .int]=true:=(pre_splitW hpre).1
 have hc:l.pre.holds [] { args:=args }=true:=(pre_splitW hpre).2
 obtain⟨d,r,rfl,h1,h2⟩:=hasAllW_cons hsh
 obtain rfl:=hasAllW_nil h2
 obtain⟨xs,rfl,h3⟩:=hasW_list h1
 obtain⟨ns,rfl⟩:=items_int h3
 have hlen:ns.length<=n:=by
  unfold OpenLaw.pre at hc
  have h4:(WTm.not (.lt (.lit (.int (n:Int))) (.len (.arg 0)))).holds [] { args:=[.list (ns.map .int)] }=true:=by
   have h4:=(holds_andW hc).1
   rw[hn] at h4
   exact h4
  have h5:=condW_of h4 (w_not (w_lt w_lit (w_len_list (w_arg rfl))))
  rw[List.length_map] at h5
  refine Nat.le_of_not_lt fun q=>?_
  have q':(n:Int) < ((ns.length:Nat):Int):=by omega
  first
   | (rw[decide_eq_true q'] at h5;exact absurd h5 (by decide))
   | (simp at h5;omega)
 cases hwl with
 | cons w1 w2 =>
  cases w2
  cases w1 with
  | list ho hall=>exact⟨_,_,ns,rfl,rfl,ho,WZ ns _ hall,hlen⟩
theorem zDc (l:OpenLaw) (args:List WData):l.row.toRowW.claim.post args (.bool true) args=true :=
 postW_of (r:=l.row.toRowW) (X:=(true == true))
  (show WShape.has [] (.bool true) .bool=true by first | rfl | decide | simp[WShape.has,WShape.arms,WShape.armsAll])
  (show (WTm.eq .res (.lit (.bool true))).value [] { args:=args,res:=some (.bool true),after:=args }=some (.bool (true == true)) from w_eq_bool (w_res rfl) w_lit) rfl
end Att
namespace L2
open PySem PySem.Spec PyProof.Rows
theorem zDV {vs:List Value} {ns:List Int} (h:IntsAre vs ns):(∀ v∈vs,∀ i,v ≠ Value.int i 0)->Vals (ns.map V.int) vs:=by
 induction h with
 | nil=>exact fun _=>.nil
 | cons n t h ih=>exact fun hv=>.cons ⟨t - 1,by rw[Nat.sub_add_cancel (Nat.pos_of_ne_zero fun z=>hv _ List.mem_cons_self n (by rw[z]))]⟩ (ih fun v hm=>hv v (List.mem_cons_of_mem _ hm))
def zGh (H:Hp):Prop:=∀ b,H b=none\/∃ o xs,H b=some (.frz o (.lst xs))
theorem zDn {P:Program} {w:World} {K:W.Frag} {mg mb:Str->Option Value} {CX:CXT} {k:Nat} {fa a:Addr} {fd:FuncData} {x:Str} {sp:Sp} {s₁:Shared} {vs:List Value} {ns:List Int}
  (KX:K.In s₁.heap) (hns:s₁.heap.Ns mainGlobals mg) (hb:s₁.heap.Ns builtinsNs mb) (hbb:∀ x:Str,x ≠ "__name__" -> mb x=bootBuiltins x) (hlim:s₁.heap.NoLimit) (hg:s₁.gens = #[])
  (ha:s₁.heap.get? a=some { cls:=.type "list",data:=.seq vs.toArray }) (hi:IntsAre vs ns) (hl:ns.length<=sizeLine) (hr:Room k callerA) (htk:1<=s₁.toks) (htl:∀ v∈vs,∀ i,v ≠ Value.int i 0)
  (F:∀ base:Heap,K.In base->base.Ns mainGlobals mg->FnOk P w K mg base CX k fa fd [x] sp) (hbind:∀ (s:Shared) (u:Value),BindsTo s fd ⟨[u],[]⟩ [(x,u)])
  (hsp:∀ H:Hp,zGh H->SqL K H a (ns.map V.int)->sp [.ref a] H (fun v _=>v=.bl true) fun _ _ _=>False)
  (hCX:∀ H e s',CX [] H s₁ (fun _ _ _=>False) e s'->False) :
  codeAny (model P w) callerA (.call (.ref fa) ⟨[.ref a],[]⟩) (fun r s'=>r=.ok (.ret (.bool true))/\OldK s₁.heap s'.heap/\s'.os=s₁.os/\AllBare s'.gens) s₁:=by
 have rv:=zDV hi htl
 have lenV:=hi.length
 have core:∀ H:Hp,zGh H->SqL K H a (ns.map V.int)->HOk P w H s₁.heap->(∀ b,H b ≠ none->b=a)->(H a ≠ none->K.lookup a=none) ->
   codeAny (model P w) callerA (.call (.ref fa) ⟨[.ref a],[]⟩) (fun r s'=>r=.ok (.ret (.bool true))/\OldK s₁.heap s'.heap/\s'.os=s₁.os/\AllBare s'.gens) s₁:=by
  intro H hO hS hok hA hK
  have base_of:∀ {b:Addr} {o:Obj},s₁.heap.get? b=some o->H b=none->(zAM s₁.heap H).get? b=some o:=fun e n=>zEn e n
  have noA:∀ {b:Addr} {o:Obj} {es:Array DictEntry} {ep:Nat},s₁.heap.get? b=some o->o.data=.dict es ep->H b=none:=fun {b o es ep} e d=>by
   cases q:H b with
   | none=>rfl
   | some u =>
    have e':b=a:=hA b (by rw[q];simp)
    subst e'
    rw[ha] at e;cases e
    have d':Data.seq vs.toArray _=Data.dict es ep:=d
    cases d'
  have nsK:∀ {b:Addr} {m:Str->Option Value},s₁.heap.Ns b m->(zAM s₁.heap H).Ns b m:=fun {b m} ⟨o,es,ep,e,d,r⟩=>⟨o,es,ep,base_of e (noA e d),d,r⟩
  have hKb:K.In (zAM s₁.heap H):=fun b o e=>base_of (KX b o e) (by
   cases q:H b with
   | none=>rfl
   | some u =>
    have e':b=a:=hA b (by rw[q];simp)
    subst e'
    rw[hK (by rw[q];simp)] at e;cases e)
  have hM:Mod K mg (zAM s₁.heap H):=⟨hKb,nsK hns,⟨mb,nsK hb,hbb⟩,let ⟨mc,h1,h2⟩:=hlim;⟨mc,nsK h1,h2⟩⟩
  have e0:Env0 P w K mg (zAM s₁.heap H) callerA [] s₁ H:=⟨rfl,hM,fun b o e=>zFU e,Nat.le_of_eq (zDI _ _),trivial,fun b hb=>absurd (show b∈([]:List Addr) from hb) (by simp),hok,.of_eq hg,htk⟩
  refine codeAny_mono ((F _ hKb (nsK hns)).run callerA [] s₁ H ⟨[.ref a],[]⟩ [.ref a] [.ref a] _ _ hr e0 (hbind s₁ (.ref a)) (.cons rfl .nil) (hsp H hO hS)) fun r s' h=>?_
  cases r with
  | error e=>exact (hCX H e s' h).elim
  | ok fl =>
   cases fl with
   | next=>exact False.elim h
   | brk=>exact False.elim h
   | cont=>exact False.elim h
   | ret u =>
    obtain⟨v,H',⟨os,_⟩,bare,un,hok',r',q⟩:=h
    have q':v=.bl true:=q
    subst q'
    obtain rfl:u=Value.bool true:=r'
    refine⟨rfl,OldK.of_keep fun b o e=>?_,os,bare⟩
    cases q:H b with
    | none=>exact un.keep b o e q (by intro z;exact absurd (show b∈([]:List Addr) from z) (by simp)) (by simp)
    | some u =>
     rcases hO b with z | ⟨ob,xs,z⟩
     ·rw[q] at z;cases z
     ·have z2:=un.frzs b ob _ z
      obtain⟨e1,_⟩:=hok b _ z
      obtain⟨e2,_⟩:=hok' b _ z2
      rw[e] at e1;cases e1
      exact e2
 cases hk:K.lookup a with
 | some o =>
  have e:=KX a o hk
  rw[ha] at e
  cases e
  refine core (fun _=>none) (fun _=>.inl rfl) (.inr ⟨_,vs.toArray,_,hk,rfl,rfl,rfl,by rw[List.size_toArray,lenV];exact hl,by simpa using rv⟩) (fun b u z=>by have z':(none:Option HO)=some u:=z;cases z') (fun b z=>absurd rfl z) fun z=>absurd rfl z
 | none =>
  refine core (fun b=>if b=a then some (.frz { cls:=.type "list",data:=.seq vs.toArray } (.lst (ns.map V.int))) else none) (fun b=>?_) (.inl (.inr ⟨{ cls:=.type "list",data:=.seq vs.toArray },if_pos rfl⟩)) (fun b u z=>?_) (fun b z=>?_) fun _=>hk
  ·by_cases hb:b=a
   ·exact .inr ⟨_,_,if_pos hb⟩
   ·exact .inl (if_neg hb)
  ·by_cases hb:b=a
   ·have z':=(if_pos hb).symm.trans z
    cases z'
    subst hb
    exact⟨ha,by rw[List.length_map];exact hl,vs,_,rv,ha⟩
   ·have z':=(if_neg hb).symm.trans z
    cases z'
  ·by_cases hb:b=a
   ·exact hb
   ·exact absurd (if_neg hb) z
end L2
namespace L2
open PySem PySem.Spec PyProof.Rows
end L2
namespace L2
open PySem PySem.Spec PyProof.Rows
def YN (s:Stmt):Arguments:=match s with
 | .FunctionDef _ a _ _ _ _ _ _ _ _=>a
 | _=>{ posonlyargs:=[],args:=[],vararg:=none,kwonlyargs:=[],kw_defaults:=[],kwarg:=none,defaults:=[] }
def YH (s:Stmt):List Stmt:=match s with
 | .FunctionDef _ _ b _ _ _ _ _ _ _=>b
 | _=>[]
def QJ (s:Stmt):Scope:=match s with
 | .FunctionDef _ _ _ _ _ _ sc _ _ _=>sc
 | _=>{ kind:=.function,names:=[],isGenerator:=false,isCoroutine:=false }
abbrev CX0:CXT:=fun _ _ _ _ _ _=>False
abbrev E0:XK:=fun _ _ _=>False
theorem QU {X:Cx}:zBy CX0 X E0:=fun _ _ _ _ _ _ _ h=>h.elim
structure Fun (K:W.Frag) (x qual:Str) (st:Stmt) (f:Addr) (fd:FuncData):Prop where
 ex:∃ (oc:Value) (od:Option Addr) (kV doc pm:Value) (an:Option Addr) (cdv ct:Value) (osl:Array (Option Value)),
  fd=W.fnOf x qual (YN st) (YH st) (QJ st) .none kV doc pm an cdv ct/\K.lookup f=some ⟨oc,od,.func fd,osl⟩/\W.codeIn K cdv qual=true
 kp:W.keepIn K (.ref f)=true
section
variable {P:Program} {w:World} {K:W.Frag} {mg:Str->Option Value} {base:Heap}
theorem Fun.ok {x qual:Str} {st:Stmt} {f:Addr} {fd:FuncData} {N ps:List Str} {k:Nat} {sp:Sp} (F:Fun K x qual st f fd) (S:FnScope N ps (QJ st)) (len:∀ vs H Q E,sp vs H Q E->vs.length=ps.length)
  (hbody:∀ (cdv:Value) (A:Around) (outer:List Env) (s:Shared) (H:Hp) (vs:List V) (Q:VK) (E:XK),Room k (A.deeper (envOfC qual (QJ st) s.heap.objs.size f cdv))->sp vs H Q E ->
   ∃ t,PSs (zBd CX0 P w K mg base N qual (QJ st) f cdv A outer s H E).nox (YH st) t/\t { nx:=fun _ H'=>Q .non H',rt:=Q } (Zk N vs) H):FnOk P w K mg base CX0 (k+1) f fd ps sp:=by
 obtain⟨oc,od,kV,doc,pm,an,cdv,ct,osl,rfl,lk,hcd⟩:=F.ex
 refine zHe lk hcd S len fun A outer s H vs Q E hr hsp=>?_
 obtain⟨t,h,q⟩:=hbody cdv A outer s H vs Q E hr hsp
 exact⟨t,h.nox,q⟩
theorem Fun.binds {x qual:Str} {st:Stmt} {f:Addr} {fd:FuncData} {ps:List Str} (F:Fun K x qual st f fd)
  (h:∀ (kV doc pm:Value) (an:Option Addr) (cdv ct:Value) (us:List Value),us.length=ps.length->bindArgs (W.fnOf x qual (YN st) (YH st) (QJ st) .none kV doc pm an cdv ct) ⟨us,[]⟩=pure (ps.zip us)):Binds K fd ps []:=by
 obtain⟨oc,od,kV,doc,pm,an,cdv,ct,osl,rfl,lk,hcd⟩:=F.ex
 exact .all (h kV doc pm an cdv ct)
theorem zHA {x qual:Str} {st:Stmt} {f:Addr} {oc:Value} {od an:Option Addr} {osl:Array (Option Value)} {kV doc pm cdv ct:Value} (l:K.lookup f=some ⟨oc,od,.func (W.fnOf x qual (YN st) (YH st) (QJ st) .none kV doc pm an cdv ct),osl⟩)
  (c:W.codeIn K cdv qual=true) (k:W.keepIn K (.ref f)=true):Fun K x qual st f (W.fnOf x qual (YN st) (YH st) (QJ st) .none kV doc pm an cdv ct):=⟨⟨oc,od,kV,doc,pm,an,cdv,ct,osl,rfl,l,c⟩,k⟩
end
theorem Qd {n:Nat} (h:n<=1000):n < sizeLine:=Nat.lt_of_le_of_lt h (by decide)
section
variable {X:Cx}
theorem pv (i:Nat) {x:Str} {pos:Pos} (hN:X.N[i]? = some x:=by rfl) (hv:Vis X.env.scope x:=by first | exact Or.inl rfl | exact Or.inr (Or.inl rfl) | exact Or.inr (Or.inr rfl)) (hd:(x == ("__debug__" : Str))=false:=by decide)
  (hcd:(x == ("__classdict__" : Str))=false:=by decide):PE X (.Name x pos) (Q1 i):=zGt hN hv hd hcd
end
theorem zHB {A B:Prop} (h:B):if false=true then A else B:=by
 rw[if_neg Bool.false_ne_true]
 exact h
theorem Q8 {c A B:Prop} [Decidable c] (h1:c->A) (h2:¬ c->B):if c then A else B:=by
 by_cases h:c
 ·rw[if_pos h]
  exact h1 h
 ·rw[if_neg h]
  exact h2 h
def Same (H H':Hp):Prop:=∀ b o,H b=some o->H' b=some o
theorem Same.refl (H:Hp):Same H H:=fun _ _ h=>h
theorem Same.trans {H H1 H2:Hp} (a:Same H H1) (b:Same H1 H2):Same H H2:=fun c o h=>b c o (a c o h)
theorem Same.free {H H':Hp} (e:Same H H') {l:Addr} (h:H' l=Option.none):H l=Option.none:=by
 cases q:H l with
 | none=>rfl
 | some o =>
  rw[e l o q] at h
  cases h
theorem Same.seq {K:W.Frag} {H H':Hp} {a:Addr} {xs:List V} (e:Same H H') (h:SqL K H a xs):SqL K H' a xs:=by
 rcases h with (h | ⟨o,h⟩) | h
 ·exact .inl (.inl (e _ _ h))
 ·exact .inl (.inr ⟨o,e _ _ h⟩)
 ·exact .inr h
end L2
namespace L2
open PySem PySem.Spec PyProof.Rows
open Builtin.Int (intBits)
end L2
namespace L2
open PySem PySem.Spec PyProof.Rows PySem.W
open Builtin.Int (intBits)
theorem WQ:∀ (ns:List Int) (b:Nat),WData.weightAll (ns.map WData.int)<=b->∀ n∈ns,intBits n<=b
 | [],_,_,_,h=>by cases h
 | i::ns,b,h,n,hn=>by
  have h':WData.weight (WData.int i)+1+WData.weightAll (ns.map WData.int)<=b:=h
  rcases List.mem_cons.mp hn with z | z
  ·subst z
   have e:WData.weight (WData.int n)=intBits n:=rfl
   omega
  ·exact WQ ns b (by omega) n z
theorem zEv {ns:List Int} (h:WData.layableAll [WData.list (ns.map WData.int)]=true):∀ n∈ns,intBits n<=2 ^ 20:=by
 obtain⟨h1,h2,h3⟩:=layableW_iff.mp (layW_cons h).1
 exact WQ ns _ h3
end L2
namespace AttT
open PySem PySem.W PySem.W.X PySem.Calls PyProof.Rows Att
theorem zC1 {R:WRecords} {cl:Str->Option Addr} {P:Params} {ord:List DictEntry->List DictEntry}:∀ (ns:List Int) (s:Shared) (r:List Value × Shared),layAllW R cl P ord (ns.map WData.int) s=some r->1<=s.toks->(∀ v∈r.1,∀ i,v ≠ Value.int i 0)/\s.toks<=r.2.toks
 | [],s,r,e,_=>by
  have:layAllW R cl P ord (List.map WData.int []) s=some ([],s):=by simp[layAllW]
  rw[this] at e
  cases e
  exact⟨fun v hv=>(by cases hv),Nat.le_refl _⟩
 | n::ns,s,r,e,h=>by
  simp only[List.map_cons,layAllW,layW] at e
  cases q:layAllW R cl P ord (List.map WData.int ns) { s with toks:=s.toks+1 } with
  | none=>rw[q] at e;cases e
  | some r' =>
   rw[q] at e
   cases e
   obtain⟨z1,z2⟩:=zC1 ns { s with toks:=s.toks+1 } r' q (Nat.le_add_left _ _)
   refine⟨fun v hv i=>?_,Nat.le_trans (Nat.le_succ _) z2⟩
   rcases List.mem_cons.mp hv with z | z
   ·rw[z]
    intro z3
    injection z3 with _ z3
    have h':1<=s.toks:=h
    have z4:s.toks=0:=z3
    omega
   ·exact z1 v z i
theorem zCF {R:WRecords} {w:World} {s₀ s₁:Shared} {ns:List Int} {a:Addr} {vs:List Value} {as:List Addr} (L:Laid R w s₀ s₁ [WData.list (ns.map WData.int)] [.ref a] as) (h:s₁.heap.get? a=some { cls:=.type "list",data:=.seq vs.toArray }) (ht:1<=s₀.toks) :
  1<=s₁.toks/\∀ v∈vs,∀ i,v ≠ Value.int i 0:=by
 obtain⟨ord,_,e⟩:=L.laid
 simp only[layAllW,layW] at e
 cases q:layAllW R (classAt s₀.heap) w.params ord (List.map WData.int ns) s₀ with
 | none=>rw[q] at e;cases e
 | some r =>
  rw[q] at e
  obtain⟨z1,z2⟩:=zC1 ns s₀ r q ht
  simp only[Option.some.injEq,Prod.mk.injEq,List.cons.injEq,Value.ref.injEq] at e
  obtain⟨⟨rfl,_⟩,rfl⟩:=e
  rw[Heap.get?_push_size _ rfl] at h
  have hv:r.1=vs:=by
   have h2:=Option.some.inj h
   injection h2 with _ _ h3
   injection h3 with h4
   exact List.toArray_inj h4
  rw[← hv]
  exact⟨Nat.le_trans ht z2,z1⟩
theorem attach_callT {l:OpenLaw} {n m t:Nat} {q:Program} {loose:List Str} {XP:(Str->Option Value)->Heap->Prop} {as₀:List Addr} {K:Params->Frag} {d:DefRec}
  (hn:l.most=some n) (hdf:d.params.defaults=[]) (eK:∀ P,as₀=(K P).map (·.1)) (ht:1<=t)
  (call:∀ (w:World) (s₀ s₁:Shared) (mg mb:Str->Option Value) (fa:Addr) (o:Obj) (pm cd doc:Value) (a:Addr) (vs:List Value) (ns:List Int),
   Ground q loose [] XP w s₀ mg mb s₁.heap->(K w.params).In s₁.heap ->
   s₁.heap.get? fa=some o->o.data=.func (docDef d.name d.params d.body d.scope pm cd doc)->s₁.heap.CodeRec cd d.name->mg d.name=some (.ref fa) ->
   s₁.heap.get? a=some { cls:=.type "list",data:=.seq vs.toArray }->IntsAre vs ns->ns.length<=n->s₁.gens = #[]->(∀ x∈ns,Builtin.Int.intBits x<=2 ^ 20)->1<=s₁.toks->(∀ v∈vs,∀ i,v ≠ Value.int i 0) ->
   codeAny (model l.prog w) callerA (.call (.ref fa) ⟨[.ref a],[]⟩) (fun r s'=>r=.ok (.ret (.bool true))/\OldK s₁.heap s'.heap/\s'.os=s₁.os/\AllBare s'.gens) s₁) :
  WalkX q loose XP (obsZ as₀) (valZ K m t) l.row.toRowW d [] (fun f vs=>PySem.call f vs):=by
 intro w s₀ s₁ mg mb G Y fa o pm cd doc dV kV ho hd hcd hD hmg hg args vals as L hpre hlay hrd hwl hlo
 obtain rfl:dV=.none:=Dflts.none hD hdf
 obtain rfl:kV=.none:=Dflts.noKw hD
 obtain⟨a,vs,ns,rfl,rfl,hobj,hints,hlen⟩:=zC9 hn hpre hwl
 obtain⟨_,ZI,_,ZT⟩:=z_facts eK Y
 obtain⟨tk,tl⟩:=zCF L hobj (by rw[ZT];exact ht)
 refine enter_call (codeAny_mono (call w s₀ s₁ mg mb fa o pm cd doc a vs ns G (InK.keeps w s₀.heap s₁.heap ZI L.keeps) ho (fd_plain hd) hcd hmg hobj hints hlen hg (L2.zEv hlay) tk tl) fun r s' hq=>?_)
 obtain⟨rfl,h2,h3,h4⟩:=hq
 exact⟨.inl ⟨.bool true,.bool true,[],rfl,fun _=>rfl,.bool true,zDc l _,fun _=>⟨List.Pairwise.nil,fun _ hm=>(nomatch hm)⟩⟩,h2,h3,h4⟩
end AttT
namespace L2
open PySem PySem.Spec PyProof.Rows PySem.W PySem.W.X
theorem zEM {l:PySem.W.OpenLaw} {n m t k:Nat} {q:Program} {loose:List Str} {XP:(Str->Option Value)->Heap->Prop} {as₀:List Addr} {d:DefRec} {K:Params->W.Frag} {CX:World->CXT} {sp:World->Sp} {x:Str}
  (hn:l.most=some n) (hn2:n<=sizeLine) (hdf:d.params.defaults=[]) (hr:Room k callerA) (eK:∀ P,as₀=(K P).map (·.1)) (ht:1<=t)
  (F:∀ (w:World) (mg:Str->Option Value) (fa:Addr) (h:Heap),(K w.params).In h->h.Ns mainGlobals mg->mg d.name=some (.ref fa) ->
   ∃ fd:FuncData,(∀ (s:Shared) (u:Value),BindsTo s fd ⟨[u],[]⟩ [(x,u)]) /\
    ∀ base:Heap,(K w.params).In base->base.Ns mainGlobals mg->FnOk l.prog w (K w.params) mg base (CX w) k fa fd [x] (sp w))
  (hsp:∀ (w:World) (H:Hp) (a:Addr) (ns:List Int),ns.length<=n->(∀ x∈ns,Builtin.Int.intBits x<=2 ^ 20)->zGh H->SqL (K w.params) H a (ns.map V.int)->sp w [.ref a] H (fun v _=>v=.bl true) fun _ _ _=>False)
  (hCX:∀ (w:World) (H:Hp) (s:Shared) (e:Value) (s':Shared),CX w [] H s (fun _ _ _=>False) e s'->False) :
  WalkX q loose XP (obsZ as₀) (valZ K m t) l.row.toRowW d [] (fun f vs=>PySem.call f vs):=by
 refine AttT.attach_callT hn hdf eK ht fun w s₀ s₁ mg mb fa o pm cd doc a vs ns G KX ho hd hcd hmg hobj hints hlen hg hbits tk tl=>?_
 obtain⟨fd,hb,hF⟩:=F w mg fa _ KX G.T.g hmg
 exact zDn KX G.T.g G.T.b G.T.builtins G.T.nolimit hg hobj hints (Nat.le_trans hlen hn2) hr tk tl hF hb (fun H hO hS=>hsp w H a ns hlen hbits hO hS) fun H e s'=>hCX w H s₁ e s'
end L2
namespace L2
open PySem PySem.Spec PyProof.Rows
structure FunD (K:W.Frag) (x qual:Str) (st:Stmt) (f:Addr) (fd:FuncData) (ds:List Value):Prop where
 ex:∃ (oc:Value) (od:Option Addr) (kV doc pm:Value) (an:Option Addr) (cdv ct:Value) (osl:Array (Option Value)) (T:Addr) (o:Obj) (n:Nat),
  fd=W.fnOf x qual (YN st) (YH st) (QJ st) (.ref T) kV doc pm an cdv ct/\K.lookup f=some ⟨oc,od,.func fd,osl⟩/\W.codeIn K cdv qual=true/\K.lookup T=some o/\o.data=.seq ds.toArray n
 kp:W.keepIn K (.ref f)=true
end L2
namespace L2
open PySem PySem.Spec PyProof.Rows
section
variable {X:Cx}
def Qz (K:W.Frag):List V->Hp->VK->Prop:=fun xs H Q=>∃ x T t b,xs=[x,.ty T]/\TyOf K H x (.type t)/\W.kitOne K (.type t) (.type T)=some b/\Q (.bl b) H
theorem Qf:Q9 X (.builtin "isinstance") (Qz X.K):=by
 intro pins s σ H xs us Q I r h
 obtain⟨x,T,t,b,rfl,ty,e,q⟩:=h
 obtain⟨u,w',rfl,r1,r2⟩:=zHS r
 cases (show w'=Value.type T from r2)
 exact zCM (zDK I r1 ty e fun tk hk=>⟨.bl b,H,I.tok _ (Nat.le_trans I.tk hk),rfl,q⟩)
end
section
variable {K:W.Frag} {H:Hp} {Q:VK} {T t:String}
theorem QY {x:V} {b:Bool} (ty:TyOf K H x (.type t)) (one:∀ t',TyOf K H x (.type t')->t'=t) (e:W.kitOne K (.type t) (.type T)=some b):Qz K [x,.ty T] H Q=Q (.bl b) H:=by
 refine propext ⟨fun h=>?_,fun q=>⟨x,T,t,b,rfl,ty,e,q⟩⟩
 obtain⟨y,T',t',b',e1,ty',e',q⟩:=h
 obtain⟨rfl,e2⟩:=List.cons.inj e1
 obtain⟨e3,_⟩:=List.cons.inj e2
 cases e3
 rw[one t' ty',e] at e'
 cases e'
 exact q
theorem Wi {i:Int}:∀ t',TyOf K H (.int i) (.type t')->t' = "int" := fun _ h=>by cases h;rfl
theorem zAk {i:Bool}:∀ t',TyOf K H (.bl i) (.type t')->t' = "bool" := fun _ h=>by cases h;rfl
theorem Wn {i:Str}:∀ t',TyOf K H (.str i) (.type t')->t' = "str" := fun _ h=>by cases h;rfl
theorem Wg:∀ t',TyOf K H .non (.type t')->t' = "NoneType" := fun _ h=>by cases h;rfl
theorem Wl {a:Addr} {xs:List V} (e:H a=some (.tup xs)):∀ t',TyOf K H (.ref a) (.type t')->t' = "tuple" := fun _ h=>by
 cases h with
 | lst q=>rw[e] at q;cases q
 | frz q=>rw[e] at q;cases q
 | tup q=>rfl
 | dK q=>rw[e] at q;cases q
 | dT q=>rw[e] at q;cases q
theorem Z1 {a:Addr} {xs:List V} (e:H a=some (.lst xs)):∀ t',TyOf K H (.ref a) (.type t')->t' = "list" := fun _ h=>by
 cases h with
 | lst q=>rfl
 | frz q=>rfl
 | tup q=>rw[e] at q;cases q
 | dK q=>rw[e] at q;cases q
 | dT q=>rw[e] at q;cases q
theorem zAs {a:Addr} {xs:List (Key × V)} (e:H a=some (.dK xs)):∀ t',TyOf K H (.ref a) (.type t')->t' = "dict" := fun _ h=>by
 cases h with
 | lst q=>rw[e] at q;cases q
 | frz q=>rw[e] at q;cases q
 | tup q=>rw[e] at q;cases q
 | dK q=>rfl
 | dT q=>rfl
theorem zA9 {i:Int}:Qz K [.int i,.ty "str"] H Q=Q (.bl false) H:=QY (.int i) Wi rfl
theorem Jb {i:Int}:Qz K [.int i,.ty "tuple"] H Q=Q (.bl false) H:=QY (.int i) Wi rfl
theorem zBV {i:Int}:Qz K [.int i,.ty "int"] H Q=Q (.bl true) H:=QY (.int i) Wi rfl
theorem zAt {i:Int}:Qz K [.int i,.ty "bool"] H Q=Q (.bl false) H:=QY (.int i) Wi rfl
theorem zB2 {i:Bool}:Qz K [.bl i,.ty "str"] H Q=Q (.bl false) H:=QY (.bl i) zAk rfl
theorem zAg {i:Bool}:Qz K [.bl i,.ty "tuple"] H Q=Q (.bl false) H:=QY (.bl i) zAk rfl
theorem zBr {i:Bool}:Qz K [.bl i,.ty "int"] H Q=Q (.bl true) H:=QY (.bl i) zAk rfl
theorem zBP {i:Bool}:Qz K [.bl i,.ty "bool"] H Q=Q (.bl true) H:=QY (.bl i) zAk rfl
theorem zA8 {i:Str}:Qz K [.str i,.ty "str"] H Q=Q (.bl true) H:=QY (.str i) Wn rfl
theorem Jg {i:Str}:Qz K [.str i,.ty "tuple"] H Q=Q (.bl false) H:=QY (.str i) Wn rfl
theorem zA3 {i:Str}:Qz K [.str i,.ty "int"] H Q=Q (.bl false) H:=QY (.str i) Wn rfl
theorem zAa {i:Str}:Qz K [.str i,.ty "bool"] H Q=Q (.bl false) H:=QY (.str i) Wn rfl
theorem zAx:Qz K [.non,.ty "str"] H Q=Q (.bl false) H:=QY .non Wg rfl
theorem Jd:Qz K [.non,.ty "tuple"] H Q=Q (.bl false) H:=QY .non Wg rfl
theorem zBR:Qz K [.non,.ty "int"] H Q=Q (.bl false) H:=QY .non Wg rfl
theorem zAc:Qz K [.non,.ty "bool"] H Q=Q (.bl false) H:=QY .non Wg rfl
theorem ZC {a:Addr} {xs:List V} (e:H a=some (.tup xs)):Qz K [.ref a,.ty "str"] H Q=Q (.bl false) H:=QY (.tup e) (Wl e) rfl
theorem ZX {a:Addr} {xs:List V} (e:H a=some (.tup xs)):Qz K [.ref a,.ty "tuple"] H Q=Q (.bl true) H:=QY (.tup e) (Wl e) rfl
theorem Y7 {a:Addr} {xs:List V} (e:H a=some (.tup xs)):Qz K [.ref a,.ty "int"] H Q=Q (.bl false) H:=QY (.tup e) (Wl e) rfl
theorem zAQ {a:Addr} {xs:List V} (e:H a=some (.tup xs)):Qz K [.ref a,.ty "bool"] H Q=Q (.bl false) H:=QY (.tup e) (Wl e) rfl
theorem zBD {a:Addr} {xs:List V} (e:H a=some (.lst xs)):Qz K [.ref a,.ty "str"] H Q=Q (.bl false) H:=QY (.lst e) (Z1 e) rfl
theorem Ji {a:Addr} {xs:List V} (e:H a=some (.lst xs)):Qz K [.ref a,.ty "tuple"] H Q=Q (.bl false) H:=QY (.lst e) (Z1 e) rfl
theorem WU {a:Addr} {xs:List V} (e:H a=some (.lst xs)):Qz K [.ref a,.ty "int"] H Q=Q (.bl false) H:=QY (.lst e) (Z1 e) rfl
theorem zAH {a:Addr} {xs:List V} (e:H a=some (.lst xs)):Qz K [.ref a,.ty "bool"] H Q=Q (.bl false) H:=QY (.lst e) (Z1 e) rfl
theorem zBq {a:Addr} {xs:List (Key × V)} (e:H a=some (.dK xs)):Qz K [.ref a,.ty "str"] H Q=Q (.bl false) H:=QY (.dK e) (zAs e) rfl
theorem zAX {a:Addr} {xs:List (Key × V)} (e:H a=some (.dK xs)):Qz K [.ref a,.ty "tuple"] H Q=Q (.bl false) H:=QY (.dK e) (zAs e) rfl
theorem JO {a:Addr} {xs:List (Key × V)} (e:H a=some (.dK xs)):Qz K [.ref a,.ty "int"] H Q=Q (.bl false) H:=QY (.dK e) (zAs e) rfl
theorem zBS {a:Addr} {xs:List (Key × V)} (e:H a=some (.dK xs)):Qz K [.ref a,.ty "bool"] H Q=Q (.bl false) H:=QY (.dK e) (zAs e) rfl
theorem ZF {i j:Int}:rEq (.int i) (.int j) H Q=Q (.bl (decide (i=j))) H:=by
 unfold rEq;rw[show zBG (.int i) (.int j)=true from rfl];simp
theorem zCs {i j:Int}:rNe (.int i) (.int j) H Q=Q (.bl (!decide (i=j))) H:=by
 unfold rNe;rw[show zBG (.int i) (.int j)=true from rfl];simp
theorem zGj {i j:Bool}:rEq (.bl i) (.bl j) H Q=Q (.bl (decide (i=j))) H:=by
 unfold rEq;rw[show zBG (.bl i) (.bl j)=true from rfl];simp
theorem zDw {i j:Bool}:rNe (.bl i) (.bl j) H Q=Q (.bl (!decide (i=j))) H:=by
 unfold rNe;rw[show zBG (.bl i) (.bl j)=true from rfl];simp
theorem zFF {i j:Str}:rEq (.str i) (.str j) H Q=Q (.bl (decide (i=j))) H:=by
 unfold rEq;rw[show zBG (.str i) (.str j)=true from rfl];simp
theorem zFN {i j:Str}:rNe (.str i) (.str j) H Q=Q (.bl (!decide (i=j))) H:=by
 unfold rNe;rw[show zBG (.str i) (.str j)=true from rfl];simp
theorem zF2 {j:Int}:zFT 10 j=(0<=j/\j<=1000000):=propext ⟨fun h=>⟨h.1,h.2.1⟩,fun h=>⟨h.1,h.2,by decide⟩⟩
theorem zHG {j:Int}:zFT 2 j=(0<=j/\j<=1000000):=propext ⟨fun h=>⟨h.1,h.2.1⟩,fun h=>⟨h.1,h.2,by decide⟩⟩
theorem zHH {CX:CXT} {P:Program} {w:World} {K:W.Frag} {mg:Str->Option Value} {base:Heap} {N:List Str} {qual:Str} {scope:Scope} {f:Addr} {cd:Value} {A:Around} {outer:List Env} {s:Shared} {H:Hp} {E:XK}:(zBd CX P w K mg base N qual scope f cd A outer s H E).K=K:=rfl
def zBh (J:It) (g:TG) (tb:TS) (D:Ends) (σ:St) (H1:Hp):Prop:=∃ W:Nat->Nat->St->Hp->Prop,(∃ m,W 0 m σ H1)/\∀ i m σ H,W i m σ H ->
 (J.stop i H/\D.nx σ H)\/(J.go i H/\∃ N:St->Hp->Prop,(∀ σ' H',N σ' H'->∃ m',m' < m/\W (i+1) m' σ' H')/\∀ x H',J.yld i H x H'->g x σ H' fun σ2 H2=>tb { D with nx:=N,ct:=N,bk:=D.nx } σ2 H2)
theorem zFj {wi:TI} {g:TG} {tb:TS} {D:Ends} {σ:St} {H:Hp}:zHv wi g tb D σ H=wi σ H fun J H1=>zBh J g tb D σ H1:=rfl
theorem ZJ {K:W.Frag} {a:Addr} {xs:List V} {g:TG} {tb:TS} {D:Ends} {σ:St} {H:Hp} (Pv:Nat->St->Hp->Prop) (h0:Pv 0 σ H) (hl:∀ i σ H,i<=xs.length->Pv i σ H->SqL K H a xs)
  (hs:∀ i x σ H,xs[i]? = some x->Pv i σ H->g x σ H fun σ2 H2=>tb { D with nx:=Pv (i+1),ct:=Pv (i+1),bk:=D.nx } σ2 H2) (hd:∀ σ H,Pv xs.length σ H->D.nx σ H):zBh (Itl K a) g tb D σ H:=zEs Pv h0 hl hs hd
theorem zA4 {K:W.Frag} {a:Addr} {xs:List V} {g:TG} {tb:TS} {D:Ends} {σ:St} {H:Hp} (Pv:Nat->St->Hp->Prop) (h0:Pv 0 σ H) (hl:∀ i σ H,i<=xs.length->Pv i σ H->SqT K H a xs)
  (hs:∀ i x σ H,xs[i]? = some x->Pv i σ H->g x σ H fun σ2 H2=>tb { D with nx:=Pv (i+1),ct:=Pv (i+1),bk:=D.nx } σ2 H2) (hd:∀ σ H,Pv xs.length σ H->D.nx σ H):zBh (Itt K a) g tb D σ H:=zF7 Pv h0 hl hs hd
theorem YV {lo:Int} {n:Nat} {g:TG} {tb:TS} {D:Ends} {σ:St} {H:Hp} (Pv:Nat->St->Hp->Prop) (h0:Pv 0 σ H)
  (hs:∀ i σ H,i < n->Pv i σ H->g (.int (lo+i)) σ H fun σ2 H2=>tb { D with nx:=Pv (i+1),ct:=Pv (i+1),bk:=D.nx } σ2 H2) (hd:∀ σ H,Pv n σ H->D.nx σ H):zBh (Itr lo n) g tb D σ H:=zDh Pv h0 hs hd
end
end L2
namespace L2
open PySem PySem.Spec PyProof.Rows
def cxC (X:Cx) (scope:Scope) (cl:List (Str × Addr)) (x:Str) (cs:List Str) (C:Addr) (s₀:Shared) (H₀:Hp) (fp:List Addr):Cx where
 prog:=X.prog
 w:=X.w
 K:=X.K
 mg:=X.mg
 base:=X.base
 A:=X.A
 N:=x::cs
 s₀:=s₀
 H₀:=H₀
 env:=compEnvC scope cl C X.env
 outer:=X.stack
 stack:=X.stack
 ex:=fp
 fn:=fun y=>y == x
 calm:=X.calm
 pn:=[]
 xe:=fun _ _=>False
def YR (σ:St) (js:List Nat):St:=js.map fun j=>(σ[j]?).getD none
structure CScope (X:Cx) (scope:Scope) (cl:List (Str × Addr)) (x:Str) (cs:List Str) (js:List Nat):Prop where
 clos:closureFor scope X.env=pure cl
 kind:scope.kind=.function
 nocell:∀ y∈scope.names,y.2 ≠ .cell
 names:∀ y∈scope.names,y.2=.local->scope.names.lookup y.1=some .local
 lx:scope.names.lookup x=some .local
 sub:∀ y c,cl.lookup y=some c->X.env.cells.lookup y=some c
 has:∀ y,((relabel scope X.env).names.lookup y=some .cell\/(relabel scope X.env).names.lookup y=some .free)->∃ c,cl.lookup y=some c
 nox:cl.lookup x=none
 nd:(x::cs).Nodup
 cap:Paired (fun y j=>X.N[j]? = some y) cs js
 capk:∀ y∈cs,(X.env.kindOf y=some .cell\/X.env.kindOf y=some .free)/\((relabel scope X.env).names.lookup y=some .cell\/(relabel scope X.env).names.lookup y=some .free)
def zAE (J:It) (tc:TT) (te:TE) (τ:St) (fin:List V->Hp->Prop) (H1:Hp):Prop:=∃ W:Nat->Nat->List V->Hp->Prop,(∃ m,W 0 m [] H1)/\∀ i m ys H,W i m ys H ->
 (J.stop i H/\fin ys H)\/(J.go i H/\ys.length < sizeLine/\∃ N:List V->Hp->Prop,(∀ ys' H',N ys' H'->∃ m',m' < m/\W (i+1) m' ys' H')/\∀ v H',J.yld i H v H'->tc (some v::τ) H' fun b H2=>if b=true then te (some v::τ) H2 (fun y H3=>N (ys++[y]) H3) else N ys H2)
def Wv (wi:TI) (js:List Nat) (tc:TT) (te:TE):TE:=fun σ H Q=>wi σ H fun J H1=>zAE J tc te (YR σ js) (fun ys H2=>∀ p,H2 p=none->Q (.ref p) (upd H2 p (.lst ys))) H1
def zDY:TT:=fun _ H Q=>Q true H
def Jh (X:Cx) (ifs:List Expr) (t:TT):Prop :=
 ∀ (pins:List (Addr × Obj)) (s:Shared) (σ:St) (H:Hp) (Q:Bool->Hp->Prop),Inv X pins σ H s->t σ H Q ->
  wpAny (model X.prog X.w) X.A (forIn ifs true fun c r=>if r=true then do let ok ← isTrue c X.env (eval c X.env);pure (ForInStep.yield ok) else pure (ForInStep.yield r)) (TP X pins σ Q) X.xe s
theorem zBU {X:Cx}:Jh X [] zDY:=fun _ _ _ H _ I h=>wpAny_tests_nil ⟨H,I,h⟩
theorem W9 {X:Cx} {c:Expr} {t:TT} (h:PT X c t):Jh X [c] t:=fun pins s σ H Q I q=>wpAny_tests_one (h pins s σ H Q I q)
theorem HOk.track {P:Program} {w:World} {H:Hp} {h:Heap} {a:Addr} {o:HO} (x:HOk P w H h) (hn:H a=none) (new:ObjOk P w (upd H a o) h a o):HOk P w (upd H a o) h:=fun b u e=>by
 by_cases hb:b=a
 ·subst hb;rw[QH] at e;cases e;exact new
 ·rw[QQ hb] at e
  exact (x b u e).stay (fun c v _ q=>q) (fun c q=>by rw[QQ (QO q hn)];exact q) fun c xs q=>by rw[QQ (QO q hn)];exact q
section
variable {X:Cx} {scope:Scope} {cl:List (Str × Addr)} {x:Str} {cs:List Str} {js:List Nat} {pins:List (Addr × Obj)} {σ:St} {H:Hp} {s:Shared}
theorem zG3 {C:Addr} {fp:List Addr} (S:CScope X scope cl x cs js) (I:Inv X pins σ H s) (hC:s.heap.objs.size<=C) (hf:∀ b∈fp,ZO X pins H b) (hlt:∀ b∈fp,b < s.heap.objs.size) :
  (cxC X scope cl x cs C s H fp).Ok where
 mod:=I.ok.mod
 kind:=S.kind
 glob:=I.ok.glob
 blt:=I.ok.blt
 above:=hC
 inj:=fun y z c h1 h2=>I.ok.inj y z c (S.sub y c h1) (S.sub z c h2)
 has:=fun y h=>S.has y h
 cab:=fun y c h1 h2=>by
  have e:y=x:=eq_of_beq h1
  subst e
  have h2':cl.lookup y=some c:=h2
  rw[S.nox] at h2'
  cases h2'
 hd:=I.ok.hd
 frames:=I.ok.frames
 stk:=.inl rfl
 exf:=fun b hb=>⟨fun e=>absurd (hlt b hb) (Nat.not_lt.mpr (by rw[show b=C from e];exact hC)),fun y c h=>(hf b hb).2.2.2.2.1 y c (S.sub y c h)⟩
 bs:=fun b o e=>⟨(I.bs b o e).1,(I.bs b o e).2⟩
 bsz:=Nat.le_trans I.ok.bsz I.sz
 noex:=fun b o e hb=>by
  rcases (hf b hb).2.2.2.1 with z | z
  ·exact I.ok.noex b o e z
  ·exact absurd (Nat.lt_of_lt_of_le (Heap.lt_size e) (Nat.le_trans I.ok.bsz z)) (Nat.lt_irrefl _)
 exfs:=fun b hb z=>by
  rcases List.mem_cons.mp (I.stkSub b z) with e | e
  ·exact (hf b hb).2.1 e
  ·exact (hf b hb).2.2.1 e
 funs:=I.stack
 frf:=fun b hb=>I.stkFree b hb
theorem Zd {α β:Type} {F:α->β->Prop}:∀ {l:List α} {l':List β} {k:Nat} {a:α},Paired F l l'->l[k]? = some a->∃ b,l'[k]? = some b/\F a b
 | _,_,_,_,.nil,e=>by simp at e
 | _,_,0,_,.cons r _,e=>by simp at e;subst e;exact⟨_,rfl,r⟩
 | _,_,k+1,a,.cons _ t,e=>by
  obtain⟨b,h1,h2⟩:=Zd (k:=k) (a:=a) t (by simpa using e)
  exact⟨b,by simpa using h1,h2⟩
theorem zBI {σ:St} {js:List Nat}:(YR σ js).length=js.length:=by unfold YR;rw[List.length_map]
theorem Inv.newfs (I:Inv X pins σ H s) {a:Addr} (h:s.heap.objs.size<=a):a ∉ frs X.stack:=fun hb=>by
 rcases List.mem_cons.mp (I.stkSub a hb) with e | e
 ·exact absurd I.lt (Nat.not_lt.mpr (by rw[← e];exact h))
 ·exact I.nofs h e
theorem zCN {C D:Addr} {fp:List Addr} {h₁:Heap} {tk:Nat} {oD:Obj} (S:CScope X scope cl x cs js) (I:Inv X pins σ H s) (hf:∀ b∈fp,ZO X pins H b) (hlt:∀ b∈fp,b < s.heap.objs.size)
  (hD:s.heap.objs.size<=D) (hC:s.heap.objs.size<=C) (hDC:D ≠ C) (hns:h₁.Ns C (fun _=>none)) (keep:∀ b o,s.heap.get? b=some o->h₁.get? b=some o) (eD:h₁.get? D=some oD) (hoD:∀ v,oD.data ≠ .cell v) (htk:1<=tk:=by first | assumption | exact Nat.le_trans (Inv.tk (by assumption)) (Nat.le_add_right _ _) | omega) :
  Inv (cxC X scope cl x cs C s H fp) [(D,oD)] (none::YR σ js) H { s with heap:=h₁,toks:=tk }:=by
 refine⟨zG3 S I hC hf hlt,rfl,I.bare,Un.kept keep,⟨_,hns,fun i y v h1 h2 h3=>?_⟩,fun y c e=>?_,I.hok.fresh hC,fun y c e=>I.freeC y c (S.sub y c e),fun p hp=>?_,I.hok.kept keep,?_,htk⟩
 ·cases i with
  | zero=>simp at h2
  | succ k =>
   have h1':cs[k]? = some y:=by
    have z:(x::cs)[k+1]? = some y:=h1
    simpa using z
   have h2':(YR σ js)[k]? = some (some v):=by simpa using h2
   obtain⟨j,ej,ey⟩:=Zd S.cap h1'
   have e2:σ[j]? = some (some v):=by
    unfold YR at h2'
    rw[List.getElem?_map,ej] at h2'
    have h3':(σ[j]?).getD none=some v:=by simpa using h2'
    cases q:σ[j]? with
    | none=>rw[q] at h3';cases h3'
    | some w'=>rw[q] at h3';exact congrArg some h3'
   obtain⟨k1,k2⟩:=S.capk y (List.mem_of_getElem? h1')
   obtain⟨m,hn,hl⟩:=I.loc
   obtain⟨u,r,l⟩:=hl j y v ey e2 (by
    rcases k1 with z | z
    ·exact .inr (.inl z)
    ·exact .inr (.inr z))
   refine⟨u,r,.inr ⟨k2,?_⟩⟩
   obtain⟨c',e'⟩:=S.has y k2
   rcases l with ⟨z,_⟩ | ⟨_,c,ec,z⟩
   ·rcases k1 with k1 | k1 <;> (rw[k1] at z;cases z)
   ·have e3:=S.sub y c' e'
    rw[ec] at e3
    cases e3
    obtain⟨o,eo,d⟩:=z
    exact⟨_,e',o,keep _ _ eo,d⟩
 ·obtain⟨v,o,eo,d⟩:=I.cell y c (S.sub y c e)
  exact⟨v,o,keep _ _ eo,d⟩
 ·have e:p=(D,oD):=by
   rcases List.mem_append.mp hp with z | z
   ·exact absurd z (by show p ∉ ([]:List (Addr × Obj));simp)
   ·simpa using z
  subst e
  exact⟨eD,I.hok.fresh hD,hDC,I.newfs hD,hoD⟩
 ·show (none::YR σ js).length=(x::cs).length
  rw[List.length_cons,List.length_cons,zBI,Paired.length S.cap]
abbrev Qv (us:List Value) (n:Nat):Obj:={ cls:=.type "list",data:=.seq us.toArray n }
theorem zDa {elt iter:Expr} {px pos:Pos} {ifs:List Expr} {tc:TT} {te:TE} {C D it:Addr} {fp:List Addr} {tn:Nat->Heap->Prop} {J:It} {s₂:Shared} {H₂:Hp} {R:Result->Shared->Prop} {fin:List V->Hp->Prop} {s₃:Shared} {o₀:Option V}
  (hc:X.calm=true) (S:CScope X scope cl x cs js) (hC:s₂.heap.objs.size<=C) (hD:s₂.heap.objs.size<=D) (hDC:D ≠ C) (hlt:∀ b∈fp,b < s₂.heap.objs.size)
  (T:Turn X.prog X.w X.K (.Name x px) J fp it tn)
  (hcells:∀ y c,cl.lookup y=some c->c < s₂.heap.objs.size)
  (hfs:∀ b∈fp,b ∉ frs X.stack) (hDfs:D ∉ frs X.stack)
  (hcf:∀ b∈fp,∀ y c,cl.lookup y=some c->c ≠ b)
  (ht:Jh (cxC X scope cl x cs C s₂ H₂ fp) ifs tc) (he:PE (cxC X scope cl x cs C s₂ H₂ fp) elt te)
  (I₃:Inv (cxC X scope cl x cs C s₂ H₂ fp) [] (o₀::YR σ js) H₂ s₃) (st:tn 0 s₃.heap) (hn:∀ b∈fp,H₂ b=none) (eD:s₃.heap.get? D=some (Qv [] 0)) (hDn:H₂ D=none)
  (hW:zAE J tc te (YR σ js) fin H₂)
  (hR:∀ s' σ' H' ys us n,Inv (cxC X scope cl x cs C s₂ H₂ fp) [] σ' H' s'->Vals ys us->ys.length<=sizeLine->s'.heap.get? D=some (Qv us n)->H' D=none->fin ys H'->R (.ok .next) s') :
  codeAny (model X.prog X.w) X.A (.compLoop (.ListComp elt [⟨.Name x px,iter,ifs,0⟩] scope pos) 0 (.ref it) (.ref D) (compEnvC scope cl C X.env)) R s₃:=by
 obtain⟨W,⟨m0,w0⟩,turn⟩:=hW
 have bC:∀ b∈fp,b ≠ C:=fun b hb e=>absurd (hlt b hb) (Nat.not_lt.mpr (by rw[e];exact hC))
 have bD:∀ b∈fp,b ≠ D:=fun b hb e=>absurd (hlt b hb) (Nat.not_lt.mpr (by rw[e];exact hD))
 have cD:∀ y c,cl.lookup y=some c->c ≠ D:=fun y c h e=>absurd (hcells y c h) (Nat.not_lt.mpr (by rw[e];exact hD))
 have pinD:∀ {τ:St} {H':Hp} {s':Shared} {us:List Value} {k:Nat},Inv (cxC X scope cl x cs C s₂ H₂ fp) [] τ H' s'->s'.heap.get? D=some (Qv us k)->H' D=none->Inv (cxC X scope cl x cs C s₂ H₂ fp) [(D,Qv us k)] τ H' s' :=
  fun {τ H' s' us k} I e hn=>I.pins_of fun p hp=>by
   have ep:p=(D,Qv us k):=by simpa using hp
   subst ep
   exact⟨e,hn,hDC,hDfs,fun v z=>by
    have z':Data.seq us.toArray k=Data.cell v:=z
    cases z'⟩
 have fpk:∀ {H':Hp} {us:List Value} {k:Nat},(∀ b∈fp,H' b=none)->∀ b∈fp,ZO (cxC X scope cl x cs C s₂ H₂ fp) [(D,Qv us k)] H' b:=fun {H' us k} hn b hb =>
  ⟨hn b hb,bC b hb,hfs b hb,.inl hb,fun y c e=>hcf b hb y c e,fun p hp=>by
   have ep:p=(D,Qv us k):=by
    rcases List.mem_append.mp hp with z | z
    ·exact absurd (show p∈([]:List (Addr × Obj)) from z) (by simp)
    ·simpa using z
   subst ep
   exact Ne.symm (bD b hb)⟩
 refine codeAny_compLoop_tests (env:=compEnvC scope cl C X.env) (fun n s'=>∃ i o H' ys us k,Inv (cxC X scope cl x cs C s₂ H₂ fp) [] (o::YR σ js) H' s'/\tn i s'.heap/\(∀ b∈fp,H' b=none)/\Vals ys us/\ys.length<=sizeLine/\s'.heap.get? D=some (Qv us k)/\H' D=none/\W i n ys H') ?_ m0
  ⟨0,o₀,H₂,[],[],0,I₃,st,hn,.nil,Nat.zero_le _,eD,hDn,w0⟩
 rintro n s4 ⟨i,o,H4,ys,us,k,I4,st4,fr4,rv,hz,eD4,hD4,w4⟩
 have I4':=pinD I4 eD4 hD4
 rcases turn i n ys H4 w4 with ⟨stop,f⟩ | ⟨go,hlen,N,hN,step⟩
 ·refine wpAny_mono (T.done (cxC X scope cl x cs C s₂ H₂ fp) rfl rfl rfl hc i [(D,Qv us k)] s4 _ H4 (fun _ _=>False) I4' (fpk fr4) st4 stop) (fun r s5 ⟨hr,I5⟩=>?_) (fun _ _ z=>z.elim)
  subst hr
  show R (.ok .next) s5
  exact hR s5 _ H4 ys us k (I5.pins_of fun p hp=>absurd hp (by simp)) rv hz (I5.pin (D,Qv us k) (List.mem_append_right _ (by simp))).1 hD4 f
 ·refine wpAny_mono (T.item (cxC X scope cl x cs C s₂ H₂ fp) rfl rfl rfl hc i [(D,Qv us k)] s4 _ H4 (fun _ _=>False) I4' (fpk fr4) st4 go) (fun r s5 ⟨u,hr,h5⟩=>?_) (fun _ _ z=>z.elim)
  subst hr
  show wpAny _ _ (letOwnedTupleGo (.Name x px) (.ref it) u >>= fun _=>assign (.Name x px) (compEnvC scope cl C X.env) u) _ _ s5
  refine wpAny_bind (wpAny_mono h5 (fun _ s6 ⟨v,H6,I6,r6,y6,st6,fr6⟩=>?_) (fun _ _ z=>z.elim))
  have I6':=I6.pinned (fpk fr6) (T.obj _ _ st6)
  refine wpAny_assign_Name (JM (X:=cxC X scope cl x cs C s₂ H₂ fp) (i:=0) I6' S.nd rfl (.inl (lookup_relabel_local S.lx)) r6 (fun s7 I7=>?_) (.inl (beq_self_eq_true x)))
  have st7:∀ {τ:St} {H':Hp} {s':Shared},Inv (cxC X scope cl x cs C s₂ H₂ fp) ([(D,Qv us k)]++Y8 fp s6.heap) τ H' s'->tn (i+1) s'.heap/\∀ b∈fp,H' b=none:=fun {τ H' s'} I=>by
   refine⟨T.keep _ _ _ st6 fun b hb o e=>(I.pin (b,o) (List.mem_append_right _ (List.mem_append_right _ (YD hb e)))).1,fun b hb=>?_⟩
   obtain⟨o,e,d⟩:=T.obj _ _ st6 b hb
   exact (I.pin (b,o) (List.mem_append_right _ (List.mem_append_right _ (YD hb e)))).2.1
  have dD:∀ {τ:St} {H':Hp} {s':Shared},Inv (cxC X scope cl x cs C s₂ H₂ fp) ([(D,Qv us k)]++Y8 fp s6.heap) τ H' s'->s'.heap.get? D=some (Qv us k)/\H' D=none:=fun {τ H' s'} I=>by
   have q:=I.pin (D,Qv us k) (List.mem_append_right _ (List.mem_append_left _ (by simp)))
   exact⟨q.1,q.2.1⟩
  refine wpAny_mono (ht _ s7 _ H6 _ I7 (step v H6 y6)) (fun ok s8 ⟨H8,I8,q8⟩=>?_) (fun _ _ z=>False.elim z)
  cases ok with
  | false =>
   obtain⟨m',hm,w8⟩:=hN _ _ q8
   exact⟨m',hm,i+1,some v,H8,ys,us,k,I8.pins_of fun p hp=>absurd hp (by simp),(st7 I8).1,(st7 I8).2,rv,hz,(dD I8).1,(dD I8).2,w8⟩
  | true =>
   rw[if_pos rfl]
   refine wpAny_mono (he _ s8 _ H8 _ I8 q8) (fun xv s9 ⟨y,H9,I9,r9,n9⟩=>?_) (fun _ _ z=>False.elim z)
   obtain⟨m',hm,w9⟩:=hN _ _ n9
   obtain⟨eD9,hD9⟩:=dD I9
   have hl:=rv.length
   refine call_meets F.slot_list_append ⟨_,eD9,rfl⟩ F.entry_list_append (F.args_list_append_2 _ _) (PySem.list_append D us.toArray k xv (by rw[List.size_toArray];omega)) ⟨eD9,?_⟩
   have I9':Inv (cxC X scope cl x cs C s₂ H₂ fp) [] (some v::YR σ js) H9 s9:=I9.pins_of fun p hp=>absurd hp (by simp)
   have q:=PySem.IsL.update eD9 (·.push xv)
   have e1:us.toArray.push xv=(us++[xv]).toArray:=by simp
   rw[e1] at q
   have I10:=I9'.turned (h':=s9.heap.update D (Obj.mapSeq (·.push xv))) (t':=s9.toks) (it:=D) (fun b o hb e=>(Heap.get?_update_other s9.heap _ (Ne.symm hb)).trans e) hD9 hDC (.inr hD) (fun y c e=>cD y c e) (fun p hp=>absurd (show p∈([]:List (Addr × Obj)) from hp) (by simp))
   refine⟨m',hm,i+1,some v,H9,ys++[y],us++[xv],_,I10,?_,(st7 I9).2,rv.append (.cons r9 .nil),?_,q,hD9,w9⟩
   ·exact T.keep _ _ _ (st7 I9).1 fun b hb o e=>(Heap.get?_update_other s9.heap _ (Ne.symm (bD b hb))).trans e
   ·rw[List.length_append,List.length_singleton]
    omega
structure Off (X:Cx) (pins:List (Addr × Obj)) (H:Hp) (C:Addr):Prop where
 n:H C=none
 l:C ≠ X.env.locals
 y:X.s₀.heap.objs.size<=C
 c:∀ x c,X.env.cells.lookup x=some c->c ≠ C
 p:∀ p∈X.pn++pins,p.1 ≠ C
theorem Inv.off {h':Heap} {t':Nat} {C:Addr} (I:Inv X pins σ H s) (O:Off X pins H C) (k:Heap.SameBut C s.heap h') (ht:1<=t':=by first | exact Nat.le_add_left _ _ | exact Inv.tk (by assumption) | assumption | omega):Inv X pins σ H { s with heap:=h',toks:=t' } :=
 I.turned (fun b o hb e=>(k.2 b hb).trans e) O.n O.l (.inr O.y) O.c O.p ht
theorem Ww {elt iter:Expr} {px pos:Pos} {ifs:List Expr} {tc:TT} {te:TE} {it:Addr} {fp:List Addr} {tn:Nat->Heap->Prop} {J:It} {E:Value->Shared->Prop} {fin:List V->Hp->Prop} {RR:Value->Addr->Result->Shared->Prop}
  (hc:X.calm=true) (S:CScope X scope cl x cs js) (I:Inv X pins σ H s) (T:Turn X.prog X.w X.K (.Name x px) J fp it tn) (st:tn 0 s.heap) (hf:∀ b∈fp,ZO X pins H b)
  (ht:∀ C s₁ H₁,Jh (cxC X scope cl x cs C s₁ H₁ fp) ifs tc) (he:∀ C s₁ H₁,PE (cxC X scope cl x cs C s₁ H₁ fp) elt te) (hW:zAE J tc te (YR σ js) fin H)
  (hRR:∀ D C s' ys H' m,Inv X pins σ (upd H' D (.lst ys)) s'->s'.heap.Ns C m->Off X pins (upd H' D (.lst ys)) C->H' D=none->fin ys H'->RR (.ref D) C (.ok .next) s') :
  wpAny (model X.prog X.w) X.A (newList []) (fun acc s₃=>wpAny (model X.prog X.w) X.A (newFunctionEnv scope X.env.globals cl [] X.env.qual none .none (some X.env)) (fun cenv s₄ =>
   codeAny (model X.prog X.w) X.A (.compStart (.ListComp elt [⟨.Name x px,iter,ifs,0⟩] scope pos) 0 (.ref it) acc { cenv with scope:=relabel scope X.env }) (RR acc cenv.locals) s₄) E s₃) E s:=by
 have hlt:∀ b∈fp,b < s.heap.objs.size:=fun b hb=>by
  obtain⟨o,e,_⟩:=T.obj _ _ st b hb
  exact Heap.lt_size e
 refine wpAny_newObj_type (wpAny_newFunctionEnv S.nocell (by intro y hy;simp at hy) (fun h₁ hns₁ hsb₁=>?_) S.kind)
 dsimp only at hns₁ hsb₁ ⊢
 generalize hH2:s.heap.push { cls:=.type "list",dict:=none,data:=.seq ([]:List Value).toArray }=H2 at hns₁ hsb₁ ⊢
 have hC:H2.objs.size=s.heap.objs.size+1:=by rw[← hH2,Heap.size_push]
 have hDC:s.heap.objs.size ≠ H2.objs.size:=by rw[hC];exact Nat.ne_of_lt (Nat.lt_succ_self _)
 have hCle:s.heap.objs.size<=H2.objs.size:=by rw[hC];exact Nat.le_succ _
 have below:∀ b,b < s.heap.objs.size->b ≠ H2.objs.size/\b ≠ s.heap.objs.size:=fun b hb=>⟨by rw[hC];exact Nat.ne_of_lt (Nat.lt_succ_of_lt hb),Nat.ne_of_lt hb⟩
 have old:∀ b o,s.heap.get? b=some o->h₁.get? b=some o:=fun b o e=>hsb₁.extBut b o (below b (Heap.lt_size e)).1 (Heap.get?_push_of_some _ (hH2 ▸ Heap.get?_push_of_some _ e))
 have hacc:h₁.get? s.heap.objs.size=some (Qv [] 0):=hsb₁.extBut _ _ hDC (Heap.get?_push_of_some _ (hH2 ▸ Heap.get?_push_size _ rfl))
 have hDn:H s.heap.objs.size=none:=I.hok.fresh (Nat.le_refl _)
 have I₁:=zCN (C:=H2.objs.size) (D:=s.heap.objs.size) (tk:=s.toks+([]:List (Str × Value)).length) (oD:=Qv [] 0) S I hf hlt (Nat.le_refl _) hCle hDC hns₁ old hacc (fun v z=>by
  have z':Data.seq ([]:List Value).toArray 0=Data.cell v:=z
  cases z')
 have I₁':=I₁.pins_of (pins':=[]) fun p hp=>absurd hp (by simp)
 have stk:tn 0 h₁:=T.keep _ _ _ st fun b _ o e=>old b o e
 have Y5:codeAny (model X.prog X.w) X.A (.compLoop (.ListComp elt [⟨.Name x px,iter,ifs,0⟩] scope pos) 0 (.ref it) (.ref s.heap.objs.size) (compEnvC scope cl H2.objs.size X.env)) (RR (.ref s.heap.objs.size) H2.objs.size)
   { s with heap:=h₁,toks:=s.toks+([]:List (Str × Value)).length }:=by
  refine zDa (s₂:=s) (H₂:=H) (fp:=fp) (fin:=fin) hc S hCle (Nat.le_refl _) hDC hlt T (fun y c e=>?_) (fun b hb z=>?_) (I.newfs (Nat.le_refl _)) (fun b hb y c e=>(hf b hb).2.2.2.2.1 y c (S.sub y c e)) (ht _ _ _) (he _ _ _) I₁' stk (fun b hb=>(hf b hb).1) hacc hDn hW ?_
  ·obtain⟨v,q⟩:=I.cell y c (S.sub y c e)
   exact q.lt
  ·rcases List.mem_cons.mp (I.stkSub b z) with e | e
   ·exact (hf b hb).2.1 e
   ·exact (hf b hb).2.2.1 e
  ·intro s' σ' H' ys us n I' rv hz eD hDn' hfin
   have u':Un (frs X.stack) fp H H' s.heap s'.heap:=I'.base
   have u:Un (frs X.stack) fp H (upd H' s.heap.objs.size (.lst ys)) s.heap s'.heap:=⟨u'.keep,u'.slot,fun b o e n hx=>by rw[QQ (below b (Heap.lt_size e)).2];exact u'.free b o e n hx,u'.there,
    fun b xs e=>by rw[QQ (QO e hDn)];exact u'.tups b xs e,fun b o w' e=>by rw[QQ (QO e hDn)];exact u'.frzs b o w' e,fun b ps e=>by
     obtain⟨more,q⟩:=u'.tbls b ps e
     exact⟨more,by rw[QQ (QO e hDn)];exact q⟩⟩
   have hok:HOk X.prog X.w (upd H' s.heap.objs.size (.lst ys)) s'.heap:=HOk.track I'.hok hDn' ⟨hz,us,n,rv,eD⟩
   have I2:Inv X pins σ (upd H' s.heap.objs.size (.lst ys)) s':=I.call' (ch:=fp) I'.os u hok I'.bare I'.tk fun b hb=>⟨(hf b hb).2.2.2.1,(hf b hb).2.1,(hf b hb).2.2.2.2.1,(hf b hb).2.2.2.2.2⟩
   obtain⟨m,hm,_⟩:=I'.loc
   refine hRR _ _ s' ys H' m I2 hm ⟨?_,Ne.symm (below _ I.lt).1,Nat.le_trans I.sz hCle,fun y c e=>?_,fun p hp=>?_⟩ hDn' hfin
   ·rw[QQ (Ne.symm hDC)];exact I'.free
   ·obtain⟨v,q⟩:=I.cell y c e
    exact (below _ q.lt).1
   ·exact (below _ (Heap.lt_size (I.pin p hp).1)).1
 exact codeAny_compStart_list Y5 (T.self X.A 0 _ _ _ stk Y5)
theorem zE1 {elt iter:Expr} {px pos:Pos} {ifs:List Expr} {wi:TI} {tc:TT} {te:TE} (hc:X.calm=true) (S:CScope X scope cl x cs js) (hi:PI X (.Name x px) iter wi)
  (ht:∀ C s₁ H₁ fp,Jh (cxC X scope cl x cs C s₁ H₁ fp) ifs tc) (he:∀ C s₁ H₁ fp,PE (cxC X scope cl x cs C s₁ H₁ fp) elt te)
  (hs:∀ x,foldedSetIterable iter X.env x=pure x:=by intro _;rfl):PE X (.ListComp elt [⟨.Name x px,iter,ifs,0⟩] scope pos) (Wv wi js tc te):=by
 intro pins s σ H Q I h
 rw[eval_ListComp]
 refine wpAny_comprehension_free (use:=none) rfl hs S.clos S.kind S.names (thn (hi pins s σ H _ I h) fun v s1 h1=>thn h1 fun itv s2 h2=>?_)
 obtain⟨it,fp,tn,J,H2,e,I2,T,st2,f2,hW⟩:=h2
 subst e
 refine Ww (RR:=fun acc C=>compPost (model X.prog X.w) X.A X.xe none (EP X pins σ Q) acc C) hc S I2 T st2 f2 (fun C s₁ H₁=>ht C s₁ H₁ fp) (fun C s₁ H₁=>he C s₁ H₁ fp) hW ?_
 intro D C s' ys H' m I' hm O hD hfin
 exact⟨m,hm,fun h' k=>⟨.ref D,_,I'.off (t':=s'.toks) O k,rfl,hfin D hD⟩⟩
theorem zA0 {i:Nat} {y:Str} {py spos:Pos} {elt iter:Expr} {px pos:Pos} {ifs:List Expr} {wi:TI} {tc:TT} {te:TE} (hN:X.N.Nodup) (hi':X.N[i]? = some y) (hy:Loc X.env.scope y) (hc:X.calm=true) (S:CScope X scope cl x cs js) (hi:PI X (.Name x px) iter wi)
  (ht:∀ C s₁ H₁ fp,Jh (cxC X scope cl x cs C s₁ H₁ fp) ifs tc) (he:∀ C s₁ H₁ fp,PE (cxC X scope cl x cs C s₁ H₁ fp) elt te)
  (hsw:swapsWith (.ListComp elt [⟨.Name x px,iter,ifs,0⟩] scope pos) (some (.Name y py)) spos.line X.env=pure true:=by rfl)
  (hf:X.fn y=true\/X.env.scope.names.lookup y=some .local:=by first | exact .inl rfl | exact .inr rfl | assumption)
  (hs:∀ x,foldedSetIterable iter X.env x=pure x:=by intro _;rfl):PS X (.Assign [.Name y py] (.ListComp elt [⟨.Name x px,iter,ifs,0⟩] scope pos) spos) (Wy (Wv wi js tc te) (YW i)):=by
 intro pins s σ H D I h
 rw[exec_Assign_Name_used _ _ _ _ hsw]
 refine wpAny_bind (wpAny_standAt (wpAny_bind ?_))
 show wpAny _ X.A (do let _ ← comprehension (.ListComp elt [⟨.Name x px,iter,ifs,0⟩] scope pos) scope X.env _ (newList []) false (eval iter X.env) (some (assign (.Name y py) X.env))) _ _ s
 refine wpAny_bind (wpAny_mono (wpAny_comprehension_free (use:=some (assign (.Name y py) X.env)) (Q:=fun _ s'=>SP X pins D .next s') rfl hs S.clos S.kind S.names
  (thn (hi pins s σ H _ I h) fun v s1 h1=>thn h1 fun itv s2 h2=>?_)) (fun _ s' hq=>wpAny_pure (wpAny_pure hq)) fun _ _ e=>e)
 obtain⟨it,fp,tn,J,H2,e,I2,T,st2,f2,hW⟩:=h2
 subst e
 refine Ww (RR:=fun acc C=>compPost (model X.prog X.w) X.A X.xe (some (assign (.Name y py) X.env)) (fun _ s'=>SP X pins D .next s') acc C) hc S I2 T st2 f2 (fun C s₁ H₁=>ht C s₁ H₁ fp) (fun C s₁ H₁=>he C s₁ H₁ fp) hW ?_
 intro D' C s' ys H' m I' hm O hD hfin
 show wpAny _ X.A (assign (.Name y py) X.env (.ref D')) _ _ s'
 refine wpAny_assign_Name (WM I' hN hi' hy (v:=.ref D') rfl (fun s'' I'' sb=>?_) hf)
 obtain⟨a,sb,ha⟩:=sb
 have hCa:C ≠ a:=by
  rcases ha with e | e
  ·rw[e];exact O.l
  ·exact fun z=>O.c y a e z.symm
 exact⟨m,hm.sameBut sb hCa,fun h' k=>⟨_,_,I''.off (t':=s''.toks) O k,hfin D' hD⟩⟩
end
def Q4 (env:Env):List (Str × NameKind)->List (Str × Addr)->List (Str × Addr)
 | [],acc=>acc
 | (n,k)::r,acc=>if k=.free then Q4 env r ((n,(env.cells.lookup n).getD 0)::acc) else Q4 env r acc
theorem ZU {scope:Scope} {env:Env} (h:∀ y∈scope.names,y.2=.free->(env.cells.lookup y.1).isSome=true):closureFor scope env=pure (Q4 env scope.names []):=by
 simp only[closureFor]
 generalize scope.names=l at h
 have key:∀ (l:List (Str × NameKind)) (acc:List (Str × Addr)),(∀ y∈l,y.2=.free->(env.cells.lookup y.1).isSome=true)->(do
   let r ← forIn l acc fun x r =>
    if (x.snd == NameKind.free)=true then do
     let c ← cellOf env x.fst
     pure (ForInStep.yield ((x.fst,c)::r))
    else pure (ForInStep.yield r)
   pure r)=(pure (Q4 env l acc):Sem (List (Str × Addr))):=by
  intro l
  induction l with
  | nil=>intro acc _;rfl
  | cons p r ih =>
   obtain⟨n,k⟩:=p
   intro acc h
   rw[List.forIn_cons]
   by_cases hk:k=.free
   ·have e:=h (n,k) List.mem_cons_self hk
    obtain⟨c,ec⟩:=Option.isSome_iff_exists.mp e
    have ec':env.cells.lookup n=some c:=ec
    have e1:cellOf env n=pure c:=by unfold cellOf;rw[ec']
    subst hk
    have e2:Q4 env ((n,NameKind.free)::r) acc=Q4 env r ((n,c)::acc):=by
     show (if NameKind.free=NameKind.free then Q4 env r ((n,(env.cells.lookup n).getD 0)::acc) else Q4 env r acc)=_
     rw[if_pos rfl,ec'];rfl
    rw[e2]
    rw[← ih ((n,c)::acc) fun y hy=>h y (List.mem_cons_of_mem _ hy)]
    simp only[beq_self_eq_true,if_true,e1]
    rfl
   ·have e2:Q4 env ((n,k)::r) acc=Q4 env r acc:=by
     show (if k=NameKind.free then Q4 env r ((n,(env.cells.lookup n).getD 0)::acc) else Q4 env r acc)=_
     rw[if_neg hk]
    rw[e2,← ih acc fun y hy=>h y (List.mem_cons_of_mem _ hy)]
    have hk':(k == NameKind.free)=false:=by simpa using hk
    simp only[hk',Bool.false_eq_true,if_false]
    rfl
 show (forIn l [] _ >>= fun s=>pure s)=_
 rw[key l [] h]
 rfl
theorem ZN {env:Env} {y:Str} {c:Addr}:∀ (names:List (Str × NameKind)) (acc:List (Str × Addr)),(∀ z∈names,z.2=.free->(env.cells.lookup z.1).isSome=true)->(∀ z d,acc.lookup z=some d->env.cells.lookup z=some d) ->
  (Q4 env names acc).lookup y=some c->env.cells.lookup y=some c
 | [],acc,_,ha,h=>ha y c h
 | (n,k)::r,acc,hn,ha,h=>by
  unfold Q4 at h
  by_cases hk:k=.free
  ·rw[if_pos hk] at h
   refine ZN r _ (fun z hz=>hn z (List.mem_cons_of_mem _ hz)) (fun z d hd=>?_) h
   obtain⟨c',ec⟩:=Option.isSome_iff_exists.mp (hn (n,k) List.mem_cons_self hk)
   have ec':env.cells.lookup n=some c':=ec
   rw[List.lookup_cons] at hd
   cases e:z == n with
   | true =>
    rw[e] at hd
    have e':z=n:=eq_of_beq e
    rw[e',ec']
    rw[ec'] at hd
    simpa using hd
   | false=>rw[e] at hd;exact ha z d hd
  ·rw[if_neg hk] at h
   exact ZN r acc (fun z hz=>hn z (List.mem_cons_of_mem _ hz)) ha h
theorem Z6 {env:Env} {y:Str}:∀ (names:List (Str × NameKind)) (acc:List (Str × Addr)),((∃ z∈names,z=(y,.free))\/(acc.lookup y).isSome=true)->((Q4 env names acc).lookup y).isSome=true
 | [],acc,h=>by
  rcases h with ⟨z,hz,_⟩ | h
  ·cases hz
  ·exact h
 | (n,k)::r,acc,h=>by
  unfold Q4
  by_cases hk:k=.free
  ·rw[if_pos hk]
   refine Z6 r _ ?_
   rcases h with ⟨z,hz,e⟩ | h
   ·rcases List.mem_cons.mp hz with q | q
    ·right
     have e1:n=y:=by
      have:(n,k)=(y,NameKind.free):=q.symm.trans e
      exact (Prod.mk.inj this).1
     subst e1
     rw[List.lookup_cons,beq_self_eq_true];rfl
    ·exact .inl ⟨z,q,e⟩
   ·right
    rw[List.lookup_cons]
    cases e:y == n with
    | true=>rfl
    | false=>exact h
  ·rw[if_neg hk]
   refine Z6 r _ ?_
   rcases h with ⟨z,hz,e⟩ | h
   ·rcases List.mem_cons.mp hz with q | q
    ·exact absurd (by
      have:(n,k)=(y,NameKind.free):=q.symm.trans e
      exact (Prod.mk.inj this).2) hk
    ·exact .inl ⟨z,q,e⟩
   ·exact .inr h
theorem ZD {env:Env} {y:Str}:∀ (names:List (Str × NameKind)) (acc:List (Str × Addr)),(∀ z∈names,z.2=.free->z.1 ≠ y)->acc.lookup y=none->(Q4 env names acc).lookup y=none
 | [],acc,_,h=>h
 | (n,k)::r,acc,hn,h=>by
  unfold Q4
  by_cases hk:k=.free
  ·rw[if_pos hk]
   refine ZD r _ (fun z hz=>hn z (List.mem_cons_of_mem _ hz)) ?_
   rw[List.lookup_cons]
   have:n ≠ y:=hn (n,k) List.mem_cons_self hk
   have e:(y == n)=false:=by simpa using Ne.symm this
   rw[e];exact h
  ·rw[if_neg hk]
   exact ZD r acc (fun z hz=>hn z (List.mem_cons_of_mem _ hz)) h
structure CompOk (sc scope:Scope) (N:List Str) (x:Str) (cs:List Str) (js:List Nat):Prop where
 k1:scope.kind=.function
 k2:sc.kind=.function
 nocell:∀ y∈scope.names,y.2 ≠ .cell
 names:∀ y∈scope.names,y.2=.local->scope.names.lookup y.1=some .local
 lx:scope.names.lookup x=some .local
 fr:∀ y∈scope.names,y.2=.free->sc.names.lookup y.1=some .cell/\y.1 ≠ x
 nd:(x::cs).Nodup
 cap:js.map (fun j=>N[j]?)=cs.map some
 capk:∀ y∈cs,sc.names.lookup y=some .cell/\scope.names.lookup y=some .free
theorem WI {N:List Str}:∀ {js:List Nat} {cs:List Str},js.map (fun j=>N[j]?)=cs.map some->Paired (fun y j=>N[j]? = some y) cs js
 | [],[],_=>.nil
 | [],_::_,h=>by simp at h
 | _::_,[],h=>by simp at h
 | j::js,c::cs,h=>by
  rw[List.map_cons,List.map_cons] at h
  obtain⟨h1,h2⟩:=List.cons.inj h
  exact .cons h1 (WI h2)
theorem Yn {env:Env} {y:Str} (hk:env.scope.kind=.function) (he:env.kindOf y=some .cell):∀ {l:List (Str × NameKind)},l.lookup y=some .free ->
  (l.map fun (n,k)=>if (k == NameKind.free && env.scope.kind == .function && env.kindOf n == some .cell) then (n,NameKind.cell) else (n,k)).lookup y=some .cell
 | [],h=>by cases h
 | (n,k)::r,h=>by
  have ih:=@Yn env y hk he r
  rw[List.lookup_cons] at h
  show List.lookup y ((if (k == NameKind.free && env.scope.kind == .function && env.kindOf n == some .cell)=true then (n,NameKind.cell) else (n,k))::_)=_
  cases e:y == n with
  | true =>
   rw[e] at h
   have e':y=n:=eq_of_beq e
   have e2:k=.free:=by simpa using h
   subst e2 e'
   rw[hk,he]
   simp[List.lookup_cons]
  | false =>
   rw[e] at h
   by_cases hc:(k == NameKind.free && env.scope.kind == .function && env.kindOf n == some .cell)=true
   ·rw[if_pos hc];simp only[List.lookup_cons,e];exact ih h
   ·rw[if_neg hc];simp only[List.lookup_cons,e];exact ih h
theorem Yz {env:Env} {y:Str}:∀ {l:List (Str × NameKind)},(∀ z∈l,z.2 ≠ NameKind.cell) ->
  ((l.map fun (n,k)=>if (k == NameKind.free && env.scope.kind == .function && env.kindOf n == some .cell) then (n,NameKind.cell) else (n,k)).lookup y=some .cell \/
   (l.map fun (n,k)=>if (k == NameKind.free && env.scope.kind == .function && env.kindOf n == some .cell) then (n,NameKind.cell) else (n,k)).lookup y=some .free)->∃ z∈l,z=(y,NameKind.free)
 | [],_,h=>by rcases h with h | h <;> cases h
 | (n,k)::r,hn,h=>by
  have ih:=@Yz env y r fun z hz=>hn z (List.mem_cons_of_mem _ hz)
  have h':List.lookup y ((if (k == NameKind.free && env.scope.kind == .function && env.kindOf n == some .cell)=true then (n,NameKind.cell) else (n,k))::r.map fun (n,k)=>if (k == NameKind.free && env.scope.kind == .function && env.kindOf n == some .cell) then (n,NameKind.cell) else (n,k))=some .cell \/
    List.lookup y ((if (k == NameKind.free && env.scope.kind == .function && env.kindOf n == some .cell)=true then (n,NameKind.cell) else (n,k))::r.map fun (n,k)=>if (k == NameKind.free && env.scope.kind == .function && env.kindOf n == some .cell) then (n,NameKind.cell) else (n,k))=some .free:=h
  by_cases hc:(k == NameKind.free && env.scope.kind == .function && env.kindOf n == some .cell)=true
  ·rw[if_pos hc] at h'
   simp only[List.lookup_cons] at h'
   cases e:y == n with
   | true =>
    have e':y=n:=eq_of_beq e
    have ek:k=.free:=by
     rw[Bool.and_eq_true,Bool.and_eq_true] at hc
     simpa using hc.1.1
    exact⟨(n,k),List.mem_cons_self,by rw[e',ek]⟩
   | false =>
    rw[e] at h'
    obtain⟨z,hz,ez⟩:=ih h'
    exact⟨z,List.mem_cons_of_mem _ hz,ez⟩
  ·rw[if_neg hc] at h'
   simp only[List.lookup_cons] at h'
   cases e:y == n with
   | true =>
    rw[e] at h'
    have e':y=n:=eq_of_beq e
    have hkc:k ≠ .cell:=hn (n,k) List.mem_cons_self
    have ek:k=.free:=by
     rcases h' with q | q
     ·exact absurd (by simpa using q) hkc
     ·simpa using q
    exact⟨(n,k),List.mem_cons_self,by rw[e',ek]⟩
   | false =>
    rw[e] at h'
    obtain⟨z,hz,ez⟩:=ih h'
    exact⟨z,List.mem_cons_of_mem _ hz,ez⟩
theorem Zb {X:Cx} {sc scope:Scope} {x:Str} {cs:List Str} {js:List Nat} {qual:Str} {L f:Addr} {cd:Value} (hE:X.env=envOfC qual sc L f cd) (c:CompOk sc scope X.N x cs js):CScope X scope (Q4 X.env scope.names []) x cs js:=by
 have hcs:∀ y,sc.names.lookup y=some .cell->(X.env.cells.lookup y).isSome=true:=fun y h=>by
  rw[hE]
  exact PySem.W.cellsFrom_some _ _ _ (.inl h)
 have hn:∀ y∈scope.names,y.2=.free->(X.env.cells.lookup y.1).isSome=true:=fun y hy h=>hcs _ (c.fr y hy h).1
 have hk:X.env.scope.kind=.function:=by rw[hE];exact c.k2
 have kd:∀ y,X.env.kindOf y=sc.names.lookup y:=fun y=>by rw[hE];rfl
 refine⟨ZU hn,c.k1,c.nocell,c.names,c.lx,fun y d h=>ZN _ _ hn (fun z d h=>by cases h) h,fun y h=>?_,ZD _ _ (fun z hz h=>(c.fr z hz h).2) rfl,c.nd,WI c.cap,fun y hy=>?_⟩
 ·exact Option.isSome_iff_exists.mp (Z6 _ _ (.inl (Yz c.nocell h)))
 ·have q:=c.capk y hy
  have q1:X.env.kindOf y=some .cell:=(kd y).trans q.1
  exact⟨.inl q1,.inl (Yn hk q1 q.2)⟩
end L2
namespace L2
open PySem PySem.Spec PyProof.Rows
section
variable {X:Cx}
theorem zAj (x:Str) (cs:List Str) (js:List Nat) {sc scope:Scope} {qual:Str} {L f:Addr} {cd:Value} {elt iter:Expr} {px pos:Pos} {wi:TI} {te:TE} (hE:X.env=envOfC qual sc L f cd) (c:CompOk sc scope X.N x cs js) (hc:X.calm=true) (hi:PI X (.Name x px) iter wi)
  (he:∀ C s₁ H₁ fp,PE (cxC X scope (Q4 X.env scope.names []) x cs C s₁ H₁ fp) elt te)
  (hs:∀ x,foldedSetIterable iter X.env x=pure x:=by intro _;rfl):PE X (.ListComp elt [⟨.Name x px,iter,[],0⟩] scope pos) (Wv wi js zDY te) :=
 zE1 hc (Zb hE c) hi (fun _ _ _ _=>zBU) he hs
theorem zF5 {i:Nat} {y:Str} {py spos:Pos} (hN:X.N.Nodup) (hi':X.N[i]? = some y) (hy:Loc X.env.scope y) (x:Str) (cs:List Str) (js:List Nat) {sc scope:Scope} {qual:Str} {L f:Addr} {cd:Value} {elt iter:Expr} {px pos:Pos} {wi:TI} {te:TE} (hE:X.env=envOfC qual sc L f cd) (c:CompOk sc scope X.N x cs js) (hc:X.calm=true) (hi:PI X (.Name x px) iter wi)
  (he:∀ C s₁ H₁ fp,PE (cxC X scope (Q4 X.env scope.names []) x cs C s₁ H₁ fp) elt te)
  (hsw:swapsWith (.ListComp elt [⟨.Name x px,iter,[],0⟩] scope pos) (some (.Name y py)) spos.line X.env=pure true:=by rfl)
  (hf:X.fn y=true\/X.env.scope.names.lookup y=some .local:=by first | exact .inl rfl | exact .inr rfl | assumption)
  (hs:∀ x,foldedSetIterable iter X.env x=pure x:=by intro _;rfl):PS X (.Assign [.Name y py] (.ListComp elt [⟨.Name x px,iter,[],0⟩] scope pos) spos) (Wy (Wv wi js zDY te) (YW i)) :=
 zA0 hN hi' hy hc (Zb hE c) hi (fun _ _ _ _=>zBU) he hsw hf hs
end
def one (c:Nat):V:=.str ⟨#[c]⟩
def Its (x:Str):It:=⟨fun i _=>i < x.cps.size,fun i H v H'=>H'=H/\∃ c,x.cps[i]? = some c/\v=one c,fun i _=>x.cps.size<=i⟩
theorem zEg {P:Program} {w:World} {K:W.Frag} {tg:Expr} (x:Str) (t:Tok) (it:Addr) (ty:String) (hty:ty = "str_ascii_iterator" \/ ty = "str_iterator") :
  Turn P w K tg (Its x) [it] it (fun i h=>h.IsStrIter it ty x t i/\i<=x.cps.size) where
 mem:=by simp
 obj:=fun i h st b hb=>by
  have e:b=it:=by simpa using hb
  subst e
  obtain⟨⟨o,e,c,d⟩,_⟩:=st
  exact⟨o,e,fun v z=>by rw[d] at z;cases z⟩
 keep:=fun i h h' st k=>by
  obtain⟨⟨o,e,r⟩,hi⟩:=st
  exact⟨⟨o,k it (by simp) o e,r⟩,hi⟩
 item:=by
  intro X hP hw hK hc i pins s σ H E I hf st hg
  subst hP hw hK
  obtain⟨f0,f1,f2,f3,f4,f5⟩:=hf it (by simp)
  have hg':i < x.cps.size:=hg
  rcases hty with e | e <;> subst e
  ·refine wpAny_pyNext_ascii_item st.1 (c:=x.cps[i]) (by simp[hg']) fun h' st' hs'=>?_
   have I1:Inv X pins σ H { s with heap:=h',toks:=s.toks+1 }:=I.turned (fun b o hb e=>(hs'.2 b hb).trans e) f0 f1 f3 f4 f5
   obtain⟨o,e,oc,od⟩:=id st'
   exact⟨_,rfl,zBW (s:={ s with heap:=h',toks:=s.toks+1 }) (n := "str_ascii_iterator") e oc od (by decide) ⟨one x.cps[i],H,I1,I.rS,⟨rfl,_,by simp[hg'],rfl⟩,⟨st',by omega⟩,fun b hb=>(hf b hb).1⟩⟩
  ·refine wpAny_pyNext_wide_item st.1 (c:=x.cps[i]) (by simp[hg']) fun h' st' hs'=>?_
   have I1:Inv X pins σ H { s with heap:=h',toks:=s.toks+1 }:=I.turned (fun b o hb e=>(hs'.2 b hb).trans e) f0 f1 f3 f4 f5
   obtain⟨o,e,oc,od⟩:=id st'
   exact⟨_,rfl,zBW (s:={ s with heap:=h',toks:=s.toks+1 }) (n := "str_iterator") e oc od (by decide) ⟨one x.cps[i],H,I1,I.rS,⟨rfl,_,by simp[hg'],rfl⟩,⟨st',by omega⟩,fun b hb=>(hf b hb).1⟩⟩
 done:=by
  intro X hP hw hK hc i pins s σ H E I hf st hg
  subst hP hw hK
  obtain⟨f0,f1,f2,f3,f4,f5⟩:=hf it (by simp)
  have W:Walks X.prog X.w X.A it [it] [it] x.cps.size (SignAt x) (fun i h=>h.IsStrIter it ty x t i):=by
   rcases hty with e | e
   ·subst e;exact Walks.strAscii (I.ok.hd hc) it x t
   ·subst e;exact Walks.strWide (I.ok.hd hc) it x t
  have hg':x.cps.size<=i:=hg
  have ei:i=x.cps.size:=Nat.le_antisymm st.2 hg'
  exact zCM (W.done s _ _ (ei ▸ st.1) fun h' tk kk hk=>⟨rfl,I.turned (fun b o hb e=>kk b o (by simpa using hb) e) f0 f1 f3 f4 f5 (Nat.le_trans I.tk hk)⟩)
 self:=fun A i s Q E st h=>by
  rcases hty with e | e
  ·subst e;exact wpAny_pyIter_striter_ascii st.1 h
  ·subst e;exact wpAny_pyIter_striter_wide st.1 h
section
variable {X:Cx} {tg:Expr}
def zHL (tl:TE):TI:=fun σ H R=>tl σ H fun x H1=>∃ z,x=.str z/\R (Its z) H1
theorem zEd {l:Expr} {tl:TE} (hl:PE X l tl):PI X tg l (zHL tl):=by
 intro pins s σ H R I h
 refine thn (hl pins s σ H _ I h) fun v s1 ⟨x,H1,I1,r1,q1⟩=>?_
 obtain⟨z,e,q⟩:=q1
 subst e
 obtain⟨t,rfl⟩:=r1
 have fin:∀ (ty:String),(ty = "str_ascii_iterator" \/ ty = "str_iterator")->PIE X pins σ tg R (.ref s1.heap.objs.size) { s1 with heap:=s1.heap.push { cls:=.type ty,data:=.fields #[.str z (t+1),.int 0 0] } }:=fun ty hty=>by
  refine⟨s1.heap.objs.size,[s1.heap.objs.size],_,_,H1,rfl,I1.kept (t':=s1.toks) fun b o e=>Heap.get?_push_of_some _ e,zEg z (t+1) _ ty hty,⟨⟨_,Heap.get?_push_size _ rfl,rfl,rfl⟩,Nat.zero_le _⟩,fun b hb=>?_,q⟩
  have e:b=s1.heap.objs.size:=by simpa using hb
  subst e
  exact I1.fpOk (Nat.le_refl _) (I1.hok.fresh (Nat.le_refl _))
 cases ha:z.cps.all (· < 128)
 ·exact wpAny_pyIter_wide ha (fin _ (.inr rfl))
 ·exact wpAny_pyIter_ascii ha (fin _ (.inl rfl))
theorem zBZ {z:Str} {g:TG} {tb:TS} {D:Ends} {σ:St} {H:Hp} (Pv:Nat->St->Hp->Prop) (h0:Pv 0 σ H)
  (hs:∀ (i:Nat) (c:Nat) σ H,z.cps.toList[i]? = some c->Pv i σ H->g (one c) σ H fun σ2 H2=>tb { D with nx:=Pv (i+1),ct:=Pv (i+1),bk:=D.nx } σ2 H2) (hd:∀ σ H,Pv z.cps.size σ H->D.nx σ H):zBh (Its z) g tb D σ H:=by
 refine⟨fun i m σ H=>m=z.cps.size - i/\i<=z.cps.size/\Pv i σ H,⟨z.cps.size,by simp,Nat.zero_le _,h0⟩,?_⟩
 rintro i m σ H ⟨rfl,hi,p⟩
 by_cases hlt:i < z.cps.size
 ·refine .inr ⟨hlt,Pv (i+1),fun σ' H' p'=>⟨z.cps.size - (i+1),by omega,rfl,hlt,p'⟩,fun x H' y=>?_⟩
  obtain⟨e,c,hc,rfl⟩:=y
  subst e
  exact hs i c σ _ (by simpa using hc) p
 ·have e:i=z.cps.size:=by omega
  subst e
  exact .inl ⟨Nat.le_refl _,hd σ H p⟩
theorem WT {lo:Int} {n:Nat} {tc:TT} {te:TE} {τ:St} {fin:List V->Hp->Prop} {H:Hp} (Pv:Nat->List V->Hp->Prop) (h0:Pv 0 [] H) (hz:∀ i ys H,i < n->Pv i ys H->ys.length < sizeLine)
  (hs:∀ i ys H,i < n->Pv i ys H->tc (some (.int (lo+i))::τ) H fun b H2=>if b=true then te (some (.int (lo+i))::τ) H2 (fun y H3=>Pv (i+1) (ys++[y]) H3) else Pv (i+1) ys H2) (hd:∀ ys H,Pv n ys H->fin ys H):zAE (Itr lo n) tc te τ fin H:=by
 refine⟨fun i m ys H=>m=n - i/\i<=n/\Pv i ys H,⟨n,by simp,Nat.zero_le _,h0⟩,?_⟩
 rintro i m ys H ⟨rfl,hi,p⟩
 by_cases hlt:i < n
 ·refine .inr ⟨hlt,hz i ys H hlt p,Pv (i+1),fun ys' H' p'=>⟨n - (i+1),by omega,rfl,hlt,p'⟩,fun x H' y=>?_⟩
  obtain⟨e,y⟩:=y
  subst e y
  exact hs i ys _ hlt p
 ·have e:i=n:=by omega
  subst e
  exact .inl ⟨Nat.le_refl _,hd ys H p⟩
theorem YS {K:W.Frag} {a:Addr} {xs:List V} {tc:TT} {te:TE} {τ:St} {fin:List V->Hp->Prop} {H:Hp} (Pv:Nat->List V->Hp->Prop) (h0:Pv 0 [] H) (hl:∀ i ys H,i<=xs.length->Pv i ys H->SqL K H a xs) (hz:∀ i ys H,i < xs.length->Pv i ys H->ys.length < sizeLine)
  (hs:∀ (i:Nat) x ys H,xs[i]? = some x->Pv i ys H->tc (some x::τ) H fun b H2=>if b=true then te (some x::τ) H2 (fun y H3=>Pv (i+1) (ys++[y]) H3) else Pv (i+1) ys H2) (hd:∀ ys H,Pv xs.length ys H->fin ys H):zAE (Itl K a) tc te τ fin H:=by
 refine⟨fun i m ys H=>m=xs.length - i/\i<=xs.length/\Pv i ys H,⟨xs.length,by simp,Nat.zero_le _,h0⟩,?_⟩
 rintro i m ys H ⟨rfl,hi,p⟩
 have q:=hl i ys H hi p
 by_cases hlt:i < xs.length
 ·refine .inr ⟨⟨xs,xs[i],q,by simp[hlt]⟩,hz i ys H hlt p,Pv (i+1),fun ys' H' p'=>⟨xs.length - (i+1),by omega,rfl,hlt,p'⟩,fun x H' y=>?_⟩
  obtain⟨e,y⟩:=y
  subst e
  exact hs i x ys _ (y xs q) p
 ·have e:i=xs.length:=by omega
  subst e
  exact .inl ⟨⟨xs,q,Nat.le_refl _⟩,hd ys H p⟩
def zIH:V->Option Int->Option Int->Hp->VK->Prop:=fun x lo hi H Q=>∃ z,x=.str z/\z.length<=sizeLine/\Q (.str (Txt.slice z lo hi)) H
theorem zFD {s:Shared} {c:Prop} [Decidable c] {y z:Str} {t:Nat} {Q:Value->Shared->Prop} (ht:1<=s.toks) (h:(if c then y else z).length<=sizeLine/\∀ t' k,s.toks<=k->Q (.str (if c then y else z) (t'+1)) { s with toks:=k }) :
  (if c then Made.val (.str y (t+1)) else Made.str z).post Q s:=by
 by_cases hc:c
 ·rw[if_pos hc];have h':=h.2 t s.toks (Nat.le_refl _);rw[if_pos hc] at h';exact h'
 ·rw[if_neg hc];have h':=h.2 (s.toks - 1) (s.toks+1) (Nat.le_succ _);have h1:=h.1;rw[if_neg hc,Nat.sub_add_cancel ht] at h';rw[if_neg hc] at h1;exact⟨h1,h'⟩
theorem zEr:SlR X zIH:=by
 intro pins s σ H x v vl vu lo hi sl Q I rx hs pl pu h
 obtain⟨z,rfl,hz,q⟩:=h
 obtain⟨t,rfl⟩:=rx
 have fin:(if ((1:Int) == 1 && (Builtin.Str.strSliceIndices lo hi 1 z.length).length == z.length)=true then Made.val (.str z (t+1)) else Made.str ⟨((Builtin.Str.strSliceIndices lo hi 1 z.length).filterMap (z.cps[·]?)).toArray⟩).post (EP X pins σ Q) s :=
  zFD I.tk ⟨Nat.le_trans (Txt.slice_le z lo hi) hz,fun t' k hk=>⟨.str (Txt.slice z lo hi),H,I.tok _ (Nat.le_trans I.tk hk),⟨t',rfl⟩,q⟩⟩
 refine⟨"str",_,PySem.F.slot_str_getitem.lookup,typeIs_str _ _ _,?_⟩
 cases pl with
 | none =>
  cases pu with
  | none=>exact wpAny_getItem_str_slice (l:=none) (u:=none) (st:=none) hs rfl fin
  | int j tj=>exact wpAny_getItem_str_slice (l:=none) (u:=some (j,tj)) (st:=none) hs rfl fin
 | int i ti =>
  cases pu with
  | none=>exact wpAny_getItem_str_slice (l:=some (i,ti)) (u:=none) (st:=none) hs rfl fin
  | int j tj=>exact wpAny_getItem_str_slice (l:=some (i,ti)) (u:=some (j,tj)) (st:=none) hs rfl fin
end
end L2
namespace L2
open PySem PySem.Spec PyProof.Rows
theorem zFW {c d:Nat}:(one c=one d)=(c=d):=by
 unfold one
 refine propext ⟨fun h=>?_,fun h=>by rw[h]⟩
 injection h with h1
 injection h1 with h2
 simpa using h2
def zHU:List V->Hp->VK->Prop:=fun xs H Q=>∃ c:Nat,xs=[one c]/\Q (.int c) H
theorem zAD {X:Cx}:Q9 X (.builtin "ord") zHU:=by
 intro pins s σ H xs us Q I r h
 obtain⟨c,rfl,q⟩:=h
 exact zE0 pins s σ H _ us Q I r ⟨⟨#[c]⟩,rfl,rfl,q⟩
def tst (cs:List Nat):Int:=cs.foldl (fun (h:Int) (c:Nat)=>(31*h+(c:Int)) % 2147483647) 7
theorem zCA (cs:List Nat):∀ h:Int,0<=h->h < 2147483647->0<=cs.foldl (fun (h:Int) (c:Nat)=>(31*h+(c:Int)) % 2147483647) h/\cs.foldl (fun (h:Int) (c:Nat)=>(31*h+(c:Int)) % 2147483647) h < 2147483647:=by
 induction cs with
 | nil=>intro h h0 h1;exact⟨h0,h1⟩
 | cons c r ih =>
  intro h h0 h1
  rw[List.foldl_cons]
  exact ih _ (by omega) (by omega)
theorem zDg (cs:List Nat):0<=tst cs/\tst cs < 2147483647:=zCA cs 7 (by decide) (by decide)
theorem zBJ (cs:List Nat) (c:Nat):tst (cs++[c])=(31*tst cs+(c:Int)) % 2147483647:=by unfold tst;rw[List.foldl_append];rfl
theorem ZL {α:Type} {l:List α} {i:Nat} {c:α} (h:l[i]? = some c):l.take (i+1)=l.take i++[c]:=by
 rw[List.take_add_one,h];rfl
inductive Kd where
 | num (i:Int)
 | txt (x:Str)
 | tup (ks:List Kd)
mutual
def Kd.st:Kd->Int
 | .num i=>i % 2147483647
 | .txt x=>tst x.cps.toList
 | .tup ks=>Kd.stL 11 ks
def Kd.stL:Int->List Kd->Int
 | h,[]=>h
 | h,k::r=>Kd.stL ((Builtin.bitXor (1000003*h) k.st) % 2147483647) r
end
mutual
def Kd.deep:Kd->Nat
 | .num _=>0
 | .txt _=>0
 | .tup ks=>Kd.deepL ks+1
def Kd.deepL:List Kd->Nat
 | []=>0
 | k::r=>max k.deep (Kd.deepL r)
end
mutual
def IsK (H:Hp):Kd->V->Prop
 | .num i,v=>v=.int i
 | .txt x,v=>v=.str x
 | .tup ks,v=>∃ a vs,v=.ref a/\H a=some (.tup vs)/\vs.length<=1000/\IsKs H ks vs
def IsKs (H:Hp):List Kd->List V->Prop
 | [],vs=>vs=[]
 | k::r,vs=>∃ v vr,vs=v::vr/\IsK H k v/\IsKs H r vr
end
def TupS (H H':Hp):Prop:=∀ b xs,H b=some (.tup xs)->H' b=some (.tup xs)
theorem Same.tups {H H':Hp} (s:Same H H'):TupS H H':=fun b xs h=>s b _ h
theorem TupS.trans {H H1 H2:Hp} (a:TupS H H1) (b:TupS H1 H2):TupS H H2:=fun c xs h=>b c xs (a c xs h)
theorem Zf {H:Hp} {a:Addr} {o:HO} {ys:List V} (h:H a=some (.lst ys)):TupS H (upd H a o):=fun b xs e=>by
 rw[QQ (zHa e h (by intro z;cases z))];exact e
theorem QE {H:Hp} {a:Addr} {o:HO} (h:H a=none):Same H (upd H a o):=fun b u e=>by rw[QQ (QO e h)];exact e
theorem Same.upd {H0 H:Hp} {a:Addr} {o:HO} (s:Same H0 H) (h:H0 a=none):Same H0 (upd H a o):=fun b u e=>by rw[QQ (QO e h)];exact s b u e
mutual
theorem IsK.same {H H':Hp} (s:TupS H H'):∀ {k:Kd} {v:V},IsK H k v->IsK H' k v
 | .num _,_,h=>by unfold IsK at h ⊢;exact h
 | .txt _,_,h=>by unfold IsK at h ⊢;exact h
 | .tup ks,_,h=>by
  unfold IsK at h ⊢
  obtain⟨a,vs,e,ha,hz,hk⟩:=h
  exact⟨a,vs,e,s _ _ ha,hz,IsKs.same s hk⟩
theorem IsKs.same {H H':Hp} (s:TupS H H'):∀ {ks:List Kd} {vs:List V},IsKs H ks vs->IsKs H' ks vs
 | [],_,h=>by unfold IsKs at h ⊢;exact h
 | k::r,_,h=>by
  unfold IsKs at h ⊢
  obtain⟨v,vr,e,h1,h2⟩:=h
  exact⟨v,vr,e,IsK.same s h1,IsKs.same s h2⟩
end
theorem IsKs.length {H:Hp}:∀ {ks:List Kd} {vs:List V},IsKs H ks vs->vs.length=ks.length
 | [],_,h=>by unfold IsKs at h;rw[h];rfl
 | k::r,_,h=>by
  unfold IsKs at h
  obtain⟨v,vr,rfl,_,h2⟩:=h
  rw[List.length_cons,List.length_cons,IsKs.length h2]
theorem IsKs.get {H:Hp}:∀ {ks:List Kd} {vs:List V} {i:Nat} {v:V},IsKs H ks vs->vs[i]? = some v->∃ k,ks[i]? = some k/\IsK H k v
 | [],_,i,v,h,e=>by unfold IsKs at h;rw[h] at e;simp at e
 | k::r,_,0,v,h,e=>by
  unfold IsKs at h
  obtain⟨w,vr,rfl,h1,_⟩:=h
  simp at e;subst e
  exact⟨k,rfl,h1⟩
 | k::r,_,i+1,v,h,e=>by
  unfold IsKs at h
  obtain⟨w,vr,rfl,_,h2⟩:=h
  obtain⟨k',e1,e2⟩:=IsKs.get (i:=i) h2 (by simpa using e)
  exact⟨k',by simpa using e1,e2⟩
theorem IsKs.snoc {H:Hp} {k:Kd} {v:V}:∀ {ks:List Kd} {vs:List V},IsKs H ks vs->IsK H k v->IsKs H (ks++[k]) (vs++[v])
 | [],_,h,q=>by
  unfold IsKs at h;subst h
  show IsKs H [k] [v]
  unfold IsKs
  exact⟨v,[],rfl,q,by unfold IsKs;rfl⟩
 | k'::r,_,h,q=>by
  unfold IsKs at h
  obtain⟨w,vr,rfl,h1,h2⟩:=h
  show IsKs H (k'::(r++[k])) (w::(vr++[v]))
  unfold IsKs
  exact⟨w,vr++[v],rfl,h1,h2.snoc q⟩
theorem IsKs.nil {H:Hp}:IsKs H [] []:=by unfold IsKs;rfl
theorem Kd.deep_le {k:Kd}:∀ {ks:List Kd},k∈ks->k.deep<=Kd.deepL ks
 | [],h=>by cases h
 | k'::r,h=>by
  unfold Kd.deepL
  rcases List.mem_cons.mp h with e | e
  ·subst e;exact Nat.le_max_left _ _
  ·exact Nat.le_trans (Kd.deep_le e) (Nat.le_max_right _ _)
theorem Kd.deepL_le {n:Nat}:∀ {ks:List Kd},(∀ k∈ks,k.deep<=n)->Kd.deepL ks<=n
 | [],_=>by unfold Kd.deepL;exact Nat.zero_le _
 | k::r,h=>by
  unfold Kd.deepL
  exact Nat.max_le.mpr ⟨h k List.mem_cons_self,Kd.deepL_le fun k' hk=>h k' (List.mem_cons_of_mem _ hk)⟩
theorem Kd.stL_snoc (k:Kd):∀ (ks:List Kd) (h:Int),Kd.stL h (ks++[k])=(Builtin.bitXor (1000003*Kd.stL h ks) k.st) % 2147483647
 | [],h=>by rw[List.nil_append];unfold Kd.stL;unfold Kd.stL;rfl
 | k'::r,h=>by
  rw[List.cons_append]
  show Kd.stL _ (r++[k])=_
  rw[Kd.stL_snoc k r]
  rfl
theorem Kd.stL_range:∀ (ks:List Kd) (h:Int),0<=h->h < 2147483647->0<=Kd.stL h ks/\Kd.stL h ks < 2147483647
 | [],h,h0,h1=>by unfold Kd.stL;exact⟨h0,h1⟩
 | k::r,h,h0,h1=>by unfold Kd.stL;exact Kd.stL_range r _ (by omega) (by omega)
theorem Kd.st_range (k:Kd):0<=k.st/\k.st < 2147483647:=by
 cases k with
 | num i=>unfold Kd.st;omega
 | txt x=>unfold Kd.st;exact zDg _
 | tup ks=>unfold Kd.st;exact Kd.stL_range ks 11 (by decide) (by decide)
end L2
namespace L2
open PySem PySem.Spec PyProof.Rows
section
variable {X:Cx}
def W7 (n:Nat) (lo hi:Option Int):Prop:=HT.sIx n 0 lo=0/\HT.sIx n n hi=n
instance {n:Nat} {lo hi:Option Int}:Decidable (W7 n lo hi):=by unfold W7;exact inferInstance
end
end L2
namespace L2
open PySem PySem.Spec PyProof.Rows
def RowAt (H:Hp) (r:Addr) (ks:List Kd):Prop:=∃ vs,H r=some (.lst vs)/\IsKs H ks vs
structure Stk (H0 H:Hp) (R:Addr) (rs:List Addr) (kss:List (List Kd)):Prop where
 hR:H R=some (.lst (rs.map V.ref))
 R0:H0 R=none
 rs0:∀ r∈rs,H0 r=none
 nR:R ∉ rs
 nd:rs.Nodup
 rows:Paired (RowAt H) rs kss
 same:Same H0 H
section
variable {H0 H H':Hp} {R r:Addr} {rs:List Addr} {kss:List (List Kd)} {ks:List Kd} {k:Kd} {v:V} {vs:List V}
theorem RowAt.ts (h:RowAt H r ks) (e:∀ vs,H r=some (.lst vs)->H' r=some (.lst vs)) (t:TupS H H'):RowAt H' r ks:=by
 obtain⟨vs,h1,h2⟩:=h
 exact⟨vs,e vs h1,h2.same t⟩
end
structure Shape (kss:List (List Kd)):Prop where
 lo:1<=kss.length
 hi:kss.length<=3
 deep:∀ (j:Nat) ks,kss[j]? = some ks->∀ k∈ks,k.deep+j<=2
 len:∀ (j:Nat) ks,kss[j]? = some ks->ks.length<=6
 room:∀ (j:Nat) ks,kss[j]? = some ks->j+1 < kss.length->ks.length<=5
end L2
namespace L2
open PySem PySem.Spec PyProof.Rows
theorem zGY {α:Type} {l:List α} {i:Int} (h0:0<=i) (h1:i < l.length):∃ c,atI l i=some c:=by
 have hk:i.toNat < l.length:=by omega
 refine⟨l[i.toNat],?_⟩
 have e:i=((i.toNat:Nat):Int):=by omega
 have q:atI l ((i.toNat:Nat):Int)=some l[i.toNat]:=Qn (by simp[hk])
 rw[← e] at q
 exact q
end L2
namespace L2
open PySem PySem.Spec PyProof.Rows
def zBj:List V->Hp->VK->Prop
 | [.ref p],H,Q=>match H p with
  | some (.lst xs)=>Q (.int xs.length) H
  | some (.tup xs)=>Q (.int xs.length) H
  | _=>False
 | [.str z],H,Q=>z.length<=sizeLine/\Q (.int z.length) H
 | _,_,_=>False
def ixC:R2
 | .ref p,.int i,H,Q=>match H p with
  | some (.lst xs)=>(match atI xs i with | some v=>Q v H | none=>False)
  | some (.tup xs)=>(match atI xs i with | some v=>Q v H | none=>False)
  | _=>False
 | _,_,_,_=>False
def zGi:V->List V->Hp->VK->Prop
 | .ref l,[y],H,Q=>match H l with
  | some (.lst xs)=>xs.length < sizeLine/\Q .non (upd H l (.lst (xs++[y])))
  | _=>False
 | _,_,_,_=>False
def zFs:List V->Hp->VK->Prop
 | [.ref p],H,Q=>match H p with
  | some (.lst ys)=>∀ t,H t=none->Q (.ref t) (upd H t (.tup ys))
  | some (.tup _)=>Q (.ref p) H
  | _=>False
 | _,_,_=>False
section
variable {X:Cx}
theorem Qb:Q9 X (.builtin "len") zBj:=by
 intro pins s σ H xs us Q I r h
 match xs,h with
 | [.ref p],h =>
  have h':(match H p with | some (.lst xs)=>Q (.int xs.length) H | some (.tup xs)=>Q (.int xs.length) H | _=>False):=h
  cases e:H p with
  | none=>rw[e] at h';exact h'.elim
  | some o =>
   rw[e] at h'
   cases o with
   | lst ys=>exact Yy pins s σ H _ us Q I r ⟨p,ys,rfl,.inl (SqL.of e),h'⟩
   | tup ys=>exact Yy pins s σ H _ us Q I r ⟨p,ys,rfl,.inr (SqT.of e),h'⟩
   | _=>exact h'.elim
 | [.str z],h =>
  have h':z.length<=sizeLine/\Q (.int z.length) H:=h
  exact zAG pins s σ H _ us Q I r ⟨z,rfl,h'.1,h'.2⟩
theorem YL:IxR X ixC:=by
 intro value slice pins s σ H x y v u Q I rx ry h hs
 match x,y,h with
 | .ref p,.int i,h =>
  have h':(match H p with | some (.lst xs)=>(match atI xs i with | some v=>Q v H | none=>False) | some (.tup xs)=>(match atI xs i with | some v=>Q v H | none=>False) | _=>False):=h
  cases e:H p with
  | none=>rw[e] at h';exact h'.elim
  | some o =>
   rw[e] at h'
   cases o with
   | lst ys =>
    have h2:(match atI ys i with | some v=>Q v H | none=>False):=h'
    cases e2:atI ys i with
    | none=>rw[e2] at h2;exact h2.elim
    | some z=>rw[e2] at h2;exact zCt value slice pins s σ H _ _ v u Q I rx ry ⟨p,ys,i,z,rfl,rfl,SqL.of e,e2,h2⟩ hs
   | tup ys =>
    have h2:(match atI ys i with | some v=>Q v H | none=>False):=h'
    cases e2:atI ys i with
    | none=>rw[e2] at h2;exact h2.elim
    | some z=>rw[e2] at h2;exact zG5 value slice pins s σ H _ _ v u Q I rx ry ⟨p,ys,i,z,rfl,rfl,SqT.of e,e2,h2⟩ hs
   | _=>exact h'.elim
theorem Wf:MtR X "list.append" zGi:=by
 intro pins s σ H x xs v us Q I rx rv h
 match x,xs,h with
 | .ref l,[y],h =>
  have h':(match H l with | some (.lst xs)=>xs.length < sizeLine/\Q .non (upd H l (.lst (xs++[y]))) | _=>False):=h
  cases e:H l with
  | none=>rw[e] at h';exact h'.elim
  | some o =>
   rw[e] at h'
   cases o with
   | lst ys=>exact zDE pins s σ H _ _ v us Q I rx rv ⟨l,ys,y,rfl,rfl,e,h'.1,h'.2⟩
   | _=>exact h'.elim
theorem Jy:Q9 X (.type "tuple") zFs:=by
 intro pins s σ H xs us Q I r h
 match xs,h with
 | [.ref p],h =>
  have h':(match H p with | some (.lst ys)=>∀ t,H t=none->Q (.ref t) (upd H t (.tup ys)) | some (.tup _)=>Q (.ref p) H | _=>False):=h
  cases e:H p with
  | none=>rw[e] at h';exact h'.elim
  | some o =>
   rw[e] at h'
   cases o with
   | lst ys=>exact ZR pins s σ H _ us Q I r ⟨p,ys,rfl,.inl ⟨SqL.of e,h'⟩⟩
   | tup ys=>exact ZR pins s σ H _ us Q I r ⟨p,ys,rfl,.inr ⟨SqT.of e,h'⟩⟩
   | _=>exact h'.elim
end
section
variable {H:Hp} {Q:VK} {p:Addr} {xs:List V} {i:Int} {v y:V} {K:W.Frag}
theorem Qi (h:H p=some (.lst xs)):zBj [.ref p] H Q=Q (.int xs.length) H:=by
 show (match H p with | some (.lst xs)=>Q (.int xs.length) H | some (.tup xs)=>Q (.int xs.length) H | _=>False)=_
 rw[h]
theorem Qe (h:H p=some (.lst xs)) (e:atI xs i=some v):ixC (.ref p) (.int i) H Q=Q v H:=by
 show (match H p with | some (.lst xs)=>(match atI xs i with | some v=>Q v H | none=>False) | some (.tup xs)=>(match atI xs i with | some v=>Q v H | none=>False) | _=>False)=_
 rw[h];dsimp only;rw[e]
theorem zCr (h:H p=some (.tup xs)) (e:atI xs i=some v):ixC (.ref p) (.int i) H Q=Q v H:=by
 show (match H p with | some (.lst xs)=>(match atI xs i with | some v=>Q v H | none=>False) | some (.tup xs)=>(match atI xs i with | some v=>Q v H | none=>False) | _=>False)=_
 rw[h];dsimp only;rw[e]
theorem W6 (h:H p=some (.lst xs)):zGi (.ref p) [y] H Q=(xs.length < sizeLine/\Q .non (upd H p (.lst (xs++[y])))):=by
 show (match H p with | some (.lst xs)=>xs.length < sizeLine/\Q .non (upd H p (.lst (xs++[y]))) | _=>False)=_
 rw[h]
theorem JA (h:H p=some (.lst xs)):zFs [.ref p] H Q=∀ t,H t=none->Q (.ref t) (upd H t (.tup xs)):=by
 show (match H p with | some (.lst ys)=>∀ t,H t=none->Q (.ref t) (upd H t (.tup ys)) | some (.tup _)=>Q (.ref p) H | _=>False)=_
 rw[h]
theorem zFi (h:H p=some (.lst xs)):tyV K "list" (.ref p) H=True:=eq_true (.inl ⟨rfl,xs,SqL.of h⟩)
theorem zF3 {z:Str}:tyV K "str" (.str z) H=True:=eq_true rfl
end
end L2
namespace L2
open PySem PySem.Spec PyProof.Rows
theorem zDF (bs:List Bool):(List.range bs.length).all (fun i=>bs.getD i true)=bs.all id:=by
 rw[Bool.eq_iff_iff,List.all_eq_true,List.all_eq_true]
 constructor
 ·intro h b hb
  obtain⟨i,hi,e⟩:=List.mem_iff_getElem.mp hb
  have:=h i (List.mem_range.mpr hi)
  rw[List.getD_eq_getElem?_getD,List.getElem?_eq_getElem hi] at this
  rw[← e];exact this
 ·intro h i hi
  have hi':=List.mem_range.mp hi
  rw[List.getD_eq_getElem?_getD,List.getElem?_eq_getElem hi']
  exact h _ (List.getElem_mem hi')
section
variable {X:Cx}
def zGy (K:W.Frag):List V->Hp->VK->Prop:=fun xs H Q=>∃ (l:Addr) (bs:List Bool),xs=[.ref l]/\SqL K H l (bs.map V.bl)/\Q (.bl (bs.all id)) H
theorem JU (hc:X.calm=true):Q9 X (.builtin "all") (zGy X.K):=by
 intro pins s σ H xs us Q I r h
 obtain⟨l,bs,rfl,hq,q⟩:=h
 obtain⟨u,rfl,rx⟩:=Y3 r
 cases rx
 obtain⟨its,r',pl,hz⟩:=I.list hq
 have hl:s.heap.IsList l its.toArray:=pl.isList
 have hlt:l < s.heap.objs.size:=by obtain⟨_,e,_⟩:=hl;exact Heap.lt_size e
 have hlen:=r'.length
 rw[List.length_map] at hlen
 refine zCM (call_all_walk (wpAny_pyIter_list hl ?_))
 refine⟨s.heap.objs.size,_,_,_,_,_,fun i=>bs.getD i true,rfl,Walks.list (A:=X.A.in1) (I.ok.hd hc) s.heap.objs.size l (Nat.ne_of_lt hlt) its.toArray,⟨⟨_,Heap.get?_push_size _ rfl,rfl,rfl⟩,?_⟩,?_,?_⟩
 ·obtain⟨o,e,r⟩:=hl
  exact⟨o,Heap.get?_push_of_some _ e,r⟩
 ·intro i v s' Q' E' hv hQ
  have hv':its[i]? = some v:=by simpa using hv
  have hi:i < its.length:=(List.getElem?_eq_some_iff.mp hv').1
  obtain⟨u,e1,e2⟩:=r'.get (i:=i) (x:=V.bl (bs.getD i true)) (by
   rw[List.getElem?_map,List.getElem?_eq_getElem (by omega),List.getD_eq_getElem?_getD,List.getElem?_eq_getElem (by omega)];rfl)
  rw[e1] at hv'
  cases hv'
  cases e2
  exact wpAny_truthy_bool hQ
 ·intro h' tk hk hh
  have e:its.toArray.size=bs.length:=by simp[hlen]
  rw[e,zDF]
  refine⟨.bl (bs.all id),H,I.kept (t':=tk) (fun b o e=>hk b o ?_ (Heap.get?_push_of_some _ e)) (Nat.le_trans I.tk hh),rfl,q⟩
  intro hb
  rw[List.mem_singleton.mp hb] at e
  exact Nat.lt_irrefl _ (Heap.lt_size e)
end
mutual
def Kd.eqb:Kd->Kd->Bool
 | .num i,.num j=>i == j
 | .txt x,.txt y=>x == y
 | .tup ks,.tup ls=>Kd.eqbL ks ls
 | .num _,.txt _=>false
 | .num _,.tup _=>false
 | .txt _,.num _=>false
 | .txt _,.tup _=>false
 | .tup _,.num _=>false
 | .tup _,.txt _=>false
def Kd.eqbL:List Kd->List Kd->Bool
 | [],[]=>true
 | k::r,l::q=>k.eqb l && Kd.eqbL r q
 | [],_::_=>false
 | _::_,[]=>false
end
mutual
theorem Kd.eqb_eq:∀ {k l:Kd},k.eqb l=true->k=l
 | .num i,.num j,h=>by unfold Kd.eqb at h;rw[eq_of_beq h]
 | .txt i,.txt j,h=>by unfold Kd.eqb at h;rw[eq_of_beq h]
 | .tup ks,.tup ls,h=>by unfold Kd.eqb at h;rw[Kd.eqbL_eq h]
 | .num _,.txt _,h=>by unfold Kd.eqb at h;cases h
 | .num _,.tup _,h=>by unfold Kd.eqb at h;cases h
 | .txt _,.num _,h=>by unfold Kd.eqb at h;cases h
 | .txt _,.tup _,h=>by unfold Kd.eqb at h;cases h
 | .tup _,.num _,h=>by unfold Kd.eqb at h;cases h
 | .tup _,.txt _,h=>by unfold Kd.eqb at h;cases h
theorem Kd.eqbL_eq:∀ {k l:List Kd},Kd.eqbL k l=true->k=l
 | [],[],_=>rfl
 | k::r,l::q,h=>by
  unfold Kd.eqbL at h
  rw[Bool.and_eq_true] at h
  rw[Kd.eqb_eq h.1,Kd.eqbL_eq h.2]
 | [],_::_,h=>by unfold Kd.eqbL at h;cases h
 | _::_,[],h=>by unfold Kd.eqbL at h;cases h
end
mutual
theorem IsK.inj {H:Hp}:∀ {k l:Kd} {v:V},IsK H k v->IsK H l v->k.eqb l=true
 | .num i,.num j,v,h,h'=>by unfold IsK at h h';subst h;cases h';unfold Kd.eqb;exact beq_self_eq_true _
 | .txt i,.txt j,v,h,h'=>by unfold IsK at h h';subst h;cases h';unfold Kd.eqb;exact beq_self_eq_true _
 | .tup ks,.tup ls,v,h,h'=>by
  unfold IsK at h h'
  obtain⟨a,vs,rfl,e,_,q⟩:=h
  obtain⟨a',vs',e1,e',_,q'⟩:=h'
  cases e1
  rw[e] at e'
  cases e'
  unfold Kd.eqb
  exact IsKs.inj q q'
 | .num _,.txt _,v,h,h'=>by unfold IsK at h h';subst h;cases h'
 | .num _,.tup _,v,h,h'=>by unfold IsK at h h';subst h;obtain⟨_,_,e,_⟩:=h';cases e
 | .txt _,.num _,v,h,h'=>by unfold IsK at h h';subst h;cases h'
 | .txt _,.tup _,v,h,h'=>by unfold IsK at h h';subst h;obtain⟨_,_,e,_⟩:=h';cases e
 | .tup _,.num _,v,h,h'=>by unfold IsK at h h';subst h';obtain⟨_,_,e,_⟩:=h;cases e
 | .tup _,.txt _,v,h,h'=>by unfold IsK at h h';subst h';obtain⟨_,_,e,_⟩:=h;cases e
theorem IsKs.inj {H:Hp}:∀ {k l:List Kd} {v:List V},IsKs H k v->IsKs H l v->Kd.eqbL k l=true
 | [],[],_,_,_=>by unfold Kd.eqbL;rfl
 | k::r,l::q,v,h,h'=>by
  unfold IsKs at h h'
  obtain⟨a,vr,rfl,h1,h2⟩:=h
  obtain⟨a',vr',e,h1',h2'⟩:=h'
  obtain⟨rfl,rfl⟩:=List.cons.inj e
  unfold Kd.eqbL
  rw[IsK.inj h1 h1',IsKs.inj h2 h2'];rfl
 | [],_::_,v,h,h'=>by unfold IsKs at h h';subst h;obtain⟨_,_,e,_⟩:=h';cases e
 | _::_,[],v,h,h'=>by unfold IsKs at h h';subst h';obtain⟨_,_,e,_⟩:=h;cases e
end
def Wt (ks ls:List Kd) (j:Nat):Bool:=match ks[j]?,ls[j]? with
 | some k,some l=>k.eqb l
 | _,_=>true
theorem Ju:∀ (ks ls:List Kd),((List.range (min ks.length ls.length)).all (Wt ks ls) && ks.length == ls.length)=Kd.eqbL ks ls
 | [],[]=>by unfold Kd.eqbL;rfl
 | [],l::q=>by unfold Kd.eqbL;simp
 | k::r,[]=>by unfold Kd.eqbL;simp
 | k::r,l::q=>by
  unfold Kd.eqbL
  rw[← Ju r q]
  have e:min (k::r).length (l::q).length=min r.length q.length+1:=by simp only[List.length_cons];omega
  rw[e,List.range_succ_eq_map,List.all_cons,List.all_map]
  have e1:Wt (k::r) (l::q) 0=k.eqb l:=rfl
  have e2:(Wt (k::r) (l::q) ∘ Nat.succ)=Wt r q:=by funext j;rfl
  have e3:((k::r).length == (l::q).length)=(r.length == q.length):=by
   rw[Bool.eq_iff_iff,beq_iff_eq,beq_iff_eq];simp
  rw[e1,e2,e3,Bool.and_assoc]
section
variable {X:Cx} {pins:List (Addr × Obj)} {σ:St} {H:Hp} {s:Shared}
theorem J6 (I:Inv X pins σ H s) {A:Around} {a b:Addr} {ks ls:List Kd} {vs ws:List V} (ha:H a=some (.tup vs)) (hb:H b=some (.tup ws)) (hk:IsKs H ks vs) (hl:IsKs H ls ws) (hu:A.units < cLine)
  (ih:∀ {k k':Kd} {x y:V} {u v:Value},k∈ks->IsK H k x->IsK H k' y->RelV x u->RelV y v->SeqAt.EqAt A.in1 s u v (k.eqb k')):SeqAt.RcAt A s (.ref a) (.ref b) (Kd.eqbL ks ls):=by
 obtain⟨its,r1,p1,_⟩:=I.tuple (SqT.of ha)
 obtain⟨its',r2,p2,_⟩:=I.tuple (SqT.of hb)
 have n1:=r1.length
 have n2:=r2.length
 have m1:=hk.length
 have m2:=hl.length
 have z:=SeqAt.RcAt.tuples (A:=A) (s:=s) (l:=a) (b:=b) (e:=Wt ks ls) p1 p2 hu (fun j h1 h2=>?_)
 ·have e1:its.toArray.size=ks.length:=by rw[List.size_toArray];omega
  have e2:its'.toArray.size=ls.length:=by rw[List.size_toArray];omega
  rw[e1,e2,Ju] at z
  exact z
 ·rw[List.size_toArray] at h1 h2
  have g1:vs[j]? = some vs[j]:=List.getElem?_eq_getElem (by omega)
  have g2:ws[j]? = some ws[j]:=List.getElem?_eq_getElem (by omega)
  obtain⟨u,eu,ru⟩:=r1.get g1
  obtain⟨v,ev,rv⟩:=r2.get g2
  obtain⟨k,ek,ik⟩:=hk.get g1
  obtain⟨l,el,il⟩:=hl.get g2
  have q:=ih (List.mem_of_getElem? ek) ik il ru rv
  have f1:its.toArray[j]=u:=by
   have:=(List.getElem?_eq_some_iff.mp eu).2
   simpa using this
  have f2:its'.toArray[j]=v:=by
   have:=(List.getElem?_eq_some_iff.mp ev).2
   simpa using this
  have f3:Wt ks ls j=k.eqb l:=by unfold Wt;rw[ek,el]
  rw[f1,f2,f3]
  exact q
theorem zBl (I:Inv X pins σ H s):∀ (n:Nat) {k k':Kd} {x y:V} {u v:Value} {A:Around},k.deep<=n->IsK H k x->IsK H k' y->RelV x u->RelV y v->A.units+n < cLine->SeqAt.EqAt A s u v (k.eqb k'):=by
 intro n
 induction n with
 | zero =>
  intro k k' x y u v A hd hk hk' rx ry hu
  cases k with
  | num i =>
   unfold IsK at hk;subst hk;obtain⟨t,rfl⟩:=rx
   cases k' with
   | num j=>unfold IsK at hk';subst hk';obtain⟨t',rfl⟩:=ry;unfold Kd.eqb;exact SeqAt.EqAt.int_int _ _ _ _
   | txt j=>unfold IsK at hk';subst hk';obtain⟨t',rfl⟩:=ry;unfold Kd.eqb;exact SeqAt.EqAt.int_str _ _ _ _
   | tup ls =>
    unfold IsK at hk';obtain⟨b,ws,rfl,hb,_,_⟩:=hk';cases ry
    obtain⟨its',r2,p2,_⟩:=I.tuple (SqT.of hb)
    unfold Kd.eqb;exact SeqAt.EqAt.int_tuple _ _ p2 (by omega)
  | txt i =>
   unfold IsK at hk;subst hk;obtain⟨t,rfl⟩:=rx
   cases k' with
   | num j=>unfold IsK at hk';subst hk';obtain⟨t',rfl⟩:=ry;unfold Kd.eqb;exact SeqAt.EqAt.str_int _ _ _ _
   | txt j=>unfold IsK at hk';subst hk';obtain⟨t',rfl⟩:=ry;unfold Kd.eqb;exact SeqAt.EqAt.str_str _ _ _ _
   | tup ls =>
    unfold IsK at hk';obtain⟨b,ws,rfl,hb,_,_⟩:=hk';cases ry
    obtain⟨its',r2,p2,_⟩:=I.tuple (SqT.of hb)
    unfold Kd.eqb;exact SeqAt.EqAt.str_tuple _ _ p2 (by omega)
  | tup ks=>unfold Kd.deep at hd;omega
 | succ n ih =>
  intro k k' x y u v A hd hk hk' rx ry hu
  cases k with
  | num i=>exact ih (by unfold Kd.deep;omega) hk hk' rx ry (by omega)
  | txt i=>exact ih (by unfold Kd.deep;omega) hk hk' rx ry (by omega)
  | tup ks =>
   have hk0:=hk
   unfold IsK at hk;obtain⟨a,vs,rfl,ha,_,hks⟩:=hk;cases rx
   obtain⟨its,r1,p1,_⟩:=I.tuple (SqT.of ha)
   cases k' with
   | num j=>unfold IsK at hk';subst hk';obtain⟨t',rfl⟩:=ry;unfold Kd.eqb;exact SeqAt.EqAt.tuple_int _ _ p1 (by omega)
   | txt j=>unfold IsK at hk';subst hk';obtain⟨t',rfl⟩:=ry;unfold Kd.eqb;exact SeqAt.EqAt.tuple_str _ _ p1 (by omega)
   | tup ls =>
    have hk1:=hk'
    unfold IsK at hk';obtain⟨b,ws,rfl,hb,_,hls⟩:=hk';cases ry
    by_cases e:a=b
    ·subst e
     rw[hk0.inj hk1]
     exact SeqAt.EqAt.same _
    ·unfold Kd.eqb
     unfold Kd.deep at hd
     exact SeqAt.EqAt.of_refs e (J6 I ha hb hks hls (by omega) fun hm i1 i2 q1 q2=>ih (Nat.le_trans (Kd.deep_le hm) (by omega)) i1 i2 q1 q2 (by show A.units+1+n < cLine;omega))
theorem zEq (I:Inv X pins σ H s) {n:Nat} {k k':Kd} {x y:V} {u v:Value} {A:Around} (hd:k.deep<=n) (hk:IsK H k x) (hk':IsK H k' y) (rx:RelV x u) (ry:RelV y v) (hu:A.units+n < cLine):SeqAt.RcAt A s u v (k.eqb k'):=by
 cases k with
 | num i =>
  unfold IsK at hk;subst hk;obtain⟨t,rfl⟩:=rx
  cases k' with
  | num j=>unfold IsK at hk';subst hk';obtain⟨t',rfl⟩:=ry;unfold Kd.eqb;exact SeqAt.RcAt.int_int _ _ _ _
  | txt j=>unfold IsK at hk';subst hk';obtain⟨t',rfl⟩:=ry;unfold Kd.eqb;exact SeqAt.RcAt.int_str _ _ _ _
  | tup ls =>
   unfold IsK at hk';obtain⟨b,ws,rfl,hb,_,_⟩:=hk';cases ry
   obtain⟨its',r2,p2,_⟩:=I.tuple (SqT.of hb)
   unfold Kd.eqb;exact SeqAt.RcAt.int_tuple _ _ p2 (by omega)
 | txt i =>
  unfold IsK at hk;subst hk;obtain⟨t,rfl⟩:=rx
  cases k' with
  | num j=>unfold IsK at hk';subst hk';obtain⟨t',rfl⟩:=ry;unfold Kd.eqb;exact SeqAt.RcAt.str_int _ _ _ _
  | txt j=>unfold IsK at hk';subst hk';obtain⟨t',rfl⟩:=ry;unfold Kd.eqb;exact SeqAt.RcAt.str_str _ _ _ _
  | tup ls =>
   unfold IsK at hk';obtain⟨b,ws,rfl,hb,_,_⟩:=hk';cases ry
   obtain⟨its',r2,p2,_⟩:=I.tuple (SqT.of hb)
   unfold Kd.eqb;exact SeqAt.RcAt.str_tuple _ _ p2 (by omega)
 | tup ks =>
  unfold IsK at hk;obtain⟨a,vs,rfl,ha,_,hks⟩:=hk;cases rx
  obtain⟨its,r1,p1,_⟩:=I.tuple (SqT.of ha)
  cases k' with
  | num j=>unfold IsK at hk';subst hk';obtain⟨t',rfl⟩:=ry;unfold Kd.eqb;exact SeqAt.RcAt.tuple_int _ _ p1 (by omega)
  | txt j=>unfold IsK at hk';subst hk';obtain⟨t',rfl⟩:=ry;unfold Kd.eqb;exact SeqAt.RcAt.tuple_str _ _ p1 (by omega)
  | tup ls =>
   unfold IsK at hk';obtain⟨b,ws,rfl,hb,_,hls⟩:=hk';cases ry
   unfold Kd.eqb
   unfold Kd.deep at hd
   exact J6 I ha hb hks hls (by omega) fun hm i1 i2 q1 q2=>zBl I (n - 1) (Nat.le_trans (Kd.deep_le hm) (by omega)) i1 i2 q1 q2 (by show A.units+1+(n - 1) < cLine;omega)
end
def zHz:R2:=fun x y H Q=>∃ k k',IsK H k x/\IsK H k' y/\k.deep<=20/\Q (.bl (k.eqb k')) H
theorem zEI {X:Cx} (hu:X.A.units+64 < cLine):OpR X (compareOp .Eq) zHz:=by
 intro pins s σ H x y v u Q I rx ry h
 obtain⟨k,k',hk,hk',hd,q⟩:=h
 exact zEq I hd hk hk' rx ry (by omega) X.prog X.w _ _ ⟨.bl (k.eqb k'),H,I,rfl,q⟩
theorem zCy {xs:List V} {n:Nat}:zBE xs (some (n:Int)) none=xs.drop n:=by
 unfold zBE
 have e1:HT.sIx xs.length xs.length none=xs.length:=rfl
 have e2:HT.sIx xs.length 0 (some (n:Int))=min n xs.length:=by
  show (if (n:Int) < 0 then ((n:Int)+(xs.length:Int)).toNat else min (n:Int).toNat xs.length)=_
  rw[if_neg (by omega)];simp
 rw[e1,e2]
 by_cases h:n<=xs.length
 ·rw[Nat.min_eq_left h,List.take_of_length_le (by rw[List.length_drop];exact Nat.le_refl _)]
 ·rw[Nat.min_eq_right (by omega),List.drop_of_length_le (Nat.le_refl _),List.drop_of_length_le (by omega),List.take_nil]
end L2
namespace L2
open PySem PySem.Spec PyProof.Rows
mutual
theorem Kd.eqb_refl:∀ k:Kd,k.eqb k=true
 | .num i=>by unfold Kd.eqb;exact beq_self_eq_true _
 | .txt x=>by unfold Kd.eqb;exact beq_self_eq_true _
 | .tup ks=>by unfold Kd.eqb;exact Kd.eqbL_refl ks
theorem Kd.eqbL_refl:∀ ks:List Kd,Kd.eqbL ks ks=true
 | []=>by unfold Kd.eqbL;rfl
 | k::r=>by unfold Kd.eqbL;rw[Kd.eqb_refl k,Kd.eqbL_refl r];rfl
end
instance instDecKd:DecidableEq Kd:=fun k l=>if h:k.eqb l=true then .isTrue (Kd.eqb_eq h) else .isFalse fun e=>h (e ▸ Kd.eqb_refl k)
theorem Kd.eqb_dec (k l:Kd):k.eqb l=decide (k=l):=by
 by_cases h:k=l
 ·subst h;rw[Kd.eqb_refl,decide_eq_true rfl]
 ·rw[decide_eq_false h]
  cases e:k.eqb l with
  | false=>rfl
  | true=>exact absurd (Kd.eqb_eq e) h
def IsKo (H:Hp):Option Kd->V->Prop
 | none,v=>v=.non
 | some k,v=>IsK H k v
def YJ (n:Nat):Option Kd->Prop
 | none=>True
 | some k=>k.deep<=n
theorem IsKo.same {H H':Hp} (s:TupS H H') {o:Option Kd} {v:V} (h:IsKo H o v):IsKo H' o v:=by
 cases o with
 | none=>exact h
 | some k=>exact IsK.same s h
theorem IsK.num_eq {H:Hp} {i:Int} {v:V} (h:IsK H (.num i) v):v=.int i:=by unfold IsK at h;exact h
theorem IsKo.inj {H:Hp} {o o':Option Kd} {v:V} (h:IsKo H o v) (h':IsKo H o' v):o=o':=by
 cases o with
 | none =>
  cases o' with
  | none=>rfl
  | some k =>
   cases (show v=.non from h)
   cases k with
   | num i=>have z:IsK H (.num i) .non:=h';unfold IsK at z;cases z
   | txt i=>have z:IsK H (.txt i) .non:=h';unfold IsK at z;cases z
   | tup i=>have z:IsK H (.tup i) .non:=h';unfold IsK at z;obtain⟨_,_,e,_⟩:=z;cases e
 | some k =>
  cases o' with
  | none =>
   cases (show v=.non from h')
   cases k with
   | num i=>have z:IsK H (.num i) .non:=h;unfold IsK at z;cases z
   | txt i=>have z:IsK H (.txt i) .non:=h;unfold IsK at z;cases z
   | tup i=>have z:IsK H (.tup i) .non:=h;unfold IsK at z;obtain⟨_,_,e,_⟩:=z;cases e
  | some l=>rw[Kd.eqb_eq (IsK.inj (show IsK H k v from h) (show IsK H l v from h'))]
def IsKos (H:Hp) (os:List (Option Kd)) (xs:List V):Prop:=xs.length=os.length/\∀ (i:Nat) o x,os[i]? = some o->xs[i]? = some x->IsKo H o x
theorem IsKos.nil {H:Hp}:IsKos H [] []:=⟨rfl,fun i o x h=>by simp at h⟩
theorem IsKos.len {H:Hp} {os:List (Option Kd)} {xs:List V} (h:IsKos H os xs):xs.length=os.length:=h.1
theorem IsKos.get {H:Hp} {os:List (Option Kd)} {xs:List V} (h:IsKos H os xs) {i:Nat} {x:V} (e:xs[i]? = some x):∃ o,os[i]? = some o/\IsKo H o x:=by
 have hi:i < os.length:=by rw[← h.1];exact (List.getElem?_eq_some_iff.mp e).1
 exact⟨os[i],List.getElem?_eq_getElem hi,h.2 i _ _ (List.getElem?_eq_getElem hi) e⟩
theorem IsKos.get' {H:Hp} {os:List (Option Kd)} {xs:List V} (h:IsKos H os xs) {i:Nat} {o:Option Kd} (e:os[i]? = some o):∃ x,xs[i]? = some x/\IsKo H o x:=by
 have hi:i < xs.length:=by rw[h.1];exact (List.getElem?_eq_some_iff.mp e).1
 exact⟨xs[i],List.getElem?_eq_getElem hi,h.2 i _ _ e (List.getElem?_eq_getElem hi)⟩
theorem IsKos.same {H H':Hp} (s:TupS H H') {os:List (Option Kd)} {xs:List V} (h:IsKos H os xs):IsKos H' os xs:=⟨h.1,fun i o x e1 e2=>(h.2 i o x e1 e2).same s⟩
theorem IsKos.app {H:Hp} {os os':List (Option Kd)} {xs xs':List V} (h:IsKos H os xs) (h':IsKos H os' xs'):IsKos H (os++os') (xs++xs'):=by
 refine⟨by rw[List.length_append,List.length_append,h.1,h'.1],fun i o x e1 e2=>?_⟩
 by_cases c:i < os.length
 ·rw[List.getElem?_append_left c] at e1
  rw[List.getElem?_append_left (by rw[h.1];exact c)] at e2
  exact h.2 i o x e1 e2
 ·rw[List.getElem?_append_right (by omega)] at e1
  rw[List.getElem?_append_right (by rw[h.1];omega),h.1] at e2
  exact h'.2 _ o x e1 e2
theorem IsKos.one {H:Hp} {o:Option Kd} {x:V} (h:IsKo H o x):IsKos H [o] [x]:=⟨rfl,fun i o' x' e1 e2=>by
 cases i with
 | zero=>cases e1;cases e2;exact h
 | succ i=>simp at e1⟩
theorem IsKos.snoc {H:Hp} {os:List (Option Kd)} {xs:List V} {o:Option Kd} {x:V} (h:IsKos H os xs) (h':IsKo H o x):IsKos H (os++[o]) (xs++[x]):=h.app (.one h')
def cz (ns:List Int):List (Option Kd):=ns.map fun i=>some (.num i)
theorem Yl {H:Hp} (ns:List Int):IsKos H (cz ns) (ns.map V.int):=by
 refine⟨by unfold cz;rw[List.length_map,List.length_map],fun i o x e1 e2=>?_⟩
 unfold cz at e1
 rw[List.getElem?_map] at e1 e2
 cases e:ns[i]? with
 | none=>rw[e] at e1;cases e1
 | some n=>rw[e] at e1 e2;cases e1;cases e2;show IsK H (.num n) _;unfold IsK;rfl
section
variable {X:Cx} {pins:List (Addr × Obj)} {σ:St} {H:Hp} {s:Shared}
theorem zE4 (I:Inv X pins σ H s) {n:Nat} {o o':Option Kd} {x y:V} {u v:Value} {A:Around} (hd:YJ n o) (hk:IsKo H o x) (hk':IsKo H o' y) (rx:RelV x u) (ry:RelV y v) (hu:A.units+n < cLine):SeqAt.EqAt A s u v (decide (o=o')):=by
 cases o with
 | none =>
  cases (show x=.non from hk)
  cases rx
  cases o' with
  | none=>cases (show y=.non from hk');cases ry;exact SeqAt.EqAt.same _
  | some k =>
   rw[decide_eq_false (by intro z;cases z)]
   cases k with
   | num j=>have z:IsK H (.num j) y:=hk';unfold IsK at z;subst z;obtain⟨t',rfl⟩:=ry;exact SeqAt.EqAt.none_int _ _
   | txt j=>have z:IsK H (.txt j) y:=hk';unfold IsK at z;subst z;obtain⟨t',rfl⟩:=ry;exact SeqAt.EqAt.none_str _ _
   | tup ls =>
    have z:IsK H (.tup ls) y:=hk'
    unfold IsK at z;obtain⟨b,ws,rfl,hb,_,_⟩:=z;cases ry
    obtain⟨its',r2,p2,_⟩:=I.tuple (SqT.of hb)
    exact SeqAt.EqAt.none_tuple p2 (by omega)
 | some k =>
  cases o' with
  | none =>
   cases (show y=.non from hk')
   cases ry
   rw[decide_eq_false (by intro z;cases z)]
   cases k with
   | num j=>have z:IsK H (.num j) x:=hk;unfold IsK at z;subst z;obtain⟨t',rfl⟩:=rx;exact SeqAt.EqAt.int_none _ _
   | txt j=>have z:IsK H (.txt j) x:=hk;unfold IsK at z;subst z;obtain⟨t',rfl⟩:=rx;exact SeqAt.EqAt.str_none _ _
   | tup ls =>
    have z:IsK H (.tup ls) x:=hk
    unfold IsK at z;obtain⟨b,ws,rfl,hb,_,_⟩:=z;cases rx
    obtain⟨its',r2,p2,_⟩:=I.tuple (SqT.of hb)
    exact SeqAt.EqAt.tuple_none p2 (by omega)
  | some l =>
   have h:=zBl I n hd hk hk' rx ry hu
   rw[Kd.eqb_dec] at h
   have e:decide (some k=some l)=decide (k=l):=decide_eq_decide.mpr ⟨fun z=>by cases z;rfl,fun z=>by rw[z]⟩
   rw[e]
   exact h
noncomputable def eO (H:Hp) (o:Option Kd) (u:Value):Bool:=@decide (∃ x,RelV x u/\IsKo H o x) (Classical.propDecidable _)
theorem zGE {o o':Option Kd} {x:V} {u:Value} (r:RelV x u) (h:IsKo H o' x):eO H o u=decide (o'=o):=by
 unfold eO
 rw[Bool.eq_iff_iff,@decide_eq_true_iff _ (Classical.propDecidable _),decide_eq_true_iff]
 refine⟨fun ⟨y,ry,hy⟩=>?_,fun e=>⟨x,r,e ▸ h⟩⟩
 cases RelV.inj ry r
 exact h.inj hy
theorem zEl {o:Option Kd} {os:List (Option Kd)} {xs:List V} {its:List Value} (r:Vals xs its) (h:IsKos H os xs):its.map (eO H o)=os.map (fun o'=>decide (o'=o)):=by
 refine List.ext_getElem? fun i=>?_
 rw[List.getElem?_map,List.getElem?_map]
 have hl:=r.length
 have hl2:=h.1
 by_cases c:i < xs.length
 ·have e1:xs[i]? = some xs[i]:=List.getElem?_eq_getElem c
  obtain⟨u,e2,ru⟩:=r.get e1
  obtain⟨o',e3,ho⟩:=h.get e1
  rw[e2,e3]
  show some (eO H o u)=some _
  rw[zGE ru ho]
 ·rw[List.getElem?_eq_none (by omega),List.getElem?_eq_none (by omega)];rfl
theorem zGe {o:Option Kd} {os:List (Option Kd)} {xs:List V} {its:List Value} (r:Vals xs its) (h:IsKos H os xs):its.any (eO H o)=decide (o∈os):=by
 have e:its.any (eO H o)=(its.map (eO H o)).any id:=by rw[List.any_map];rfl
 rw[e,zEl r h,List.any_map,Bool.eq_iff_iff,List.any_eq_true,decide_eq_true_iff]
 constructor
 ·rintro ⟨z,hz,e⟩
  have e':z=o:=by simpa using e
  exact e' ▸ hz
 ·intro hz
  exact⟨o,hz,by simp⟩
theorem zEZ {o:Option Kd} {os:List (Option Kd)} {xs:List V} {its:List Value} (r:Vals xs its) (h:IsKos H os xs):its.countP (eO H o)=os.count o:=by
 have e:its.countP (eO H o)=(its.map (eO H o)).countP id:=by rw[List.countP_map];rfl
 rw[e,zEl r h,List.countP_map,List.count]
 congr 1
 funext x
 show decide (x=o)=(x == o)
 rw[Bool.eq_iff_iff,decide_eq_true_iff,beq_iff_eq]
theorem Jn (I:Inv X pins σ H s) {n:Nat} {A:Around} {o:Option Kd} {os:List (Option Kd)} {xs:List V} {its:List Value} {x:V} {v:Value} (r:Vals xs its) (h:IsKos H os xs) (hd:∀ o∈os,YJ n o) (ho:IsKo H o x) (rx:RelV x v) (hu:A.units+n < cLine) :
  ∀ u∈its,SeqAt.EqAt A s u v (eO H o u):=by
 intro u hm
 obtain⟨i,hi,e⟩:=List.mem_iff_getElem.mp hm
 have hl:=r.length
 have e1:xs[i]? = some xs[i]:=List.getElem?_eq_getElem (by omega)
 obtain⟨u',e2,ru⟩:=r.get e1
 obtain⟨o',e3,ho'⟩:=h.get e1
 rw[List.getElem?_eq_getElem hi,e] at e2
 cases e2
 rw[zGE ru ho']
 exact zE4 I (hd _ (List.mem_of_getElem? e3)) ho' ho ru rx hu
end
section
variable {X:Cx}
def zIF (K:W.Frag) (neg:Bool):R2:=fun x y H Q=>∃ p xs os o,y=.ref p/\SqL K H p xs/\IsKos H os xs/\IsKo H o x/\(∀ o∈os,YJ 20 o)/\Q (.bl (if neg then !decide (o∈os) else decide (o∈os))) H
theorem zG2 (hu:X.A.units+64 < cLine):OpR X (compareOp .In) (zIF X.K false):=by
 intro pins s σ H x y v u Q I rx ry h
 obtain⟨p,xs,os,o,rfl,hq,hs,ho,hd,q⟩:=h
 cases ry
 obtain⟨its,r,pl,hz⟩:=I.list hq
 refine SeqAt.in_listAt (eO H o) pl.isList (fun w hw=>Jn I (n:=20) r hs hd ho rx (by show X.A.units+1+20 < cLine;omega) w (by simpa using hw)) ⟨.bl _,H,I,rfl,?_⟩
 rw[show its.toArray.any (eO H o)=its.any (eO H o) by simp,zGe r hs]
 exact q
def zFJ:V->List V->Hp->VK->Prop:=fun l vs H Q=>∃ p xs os o x,l=.ref p/\vs=[x]/\H p=some (.lst xs)/\IsKos H os xs/\IsKo H o x/\(∀ o∈os,YJ 20 o)/\Q (.int (os.count o:Nat)) H
theorem YP (hu:X.A.units+64 < cLine):MtR X "list.count" zFJ:=by
 intro pins s σ H x vs v us Q I rx rv h
 obtain⟨p,xs,os,o,y,rfl,rfl,hH,hs,ho,hd,q⟩:=h
 cases rx
 obtain⟨u,rfl,ru⟩:=rv.one
 obtain⟨z,its,n,r,hl,e⟩:=I.lstM hH
 refine call_meets F.slot_list_count ⟨_,e,rfl⟩ F.entry_list_count (F.args_list_count_2 _ _) (SeqAt.list_countAt p its.toArray n none #[] u (eO H o)) ⟨e,fun w hw=>Jn I (n:=20) r hs hd ho ru (by show X.A.units+1+20 < cLine;omega) w (by simpa using hw),?_⟩
 rw[show its.toArray.toList.countP (eO H o)=os.count o by simp only[zEZ r hs]]
 exact⟨.int _,H,I.tok _,I.rI,q⟩
theorem zEQ {os ps:List (Option Kd)} (h:os.length=ps.length):(List.range os.length).all (fun j=>decide (os[j]? = ps[j]?))=decide (os=ps):=by
 rw[Bool.eq_iff_iff,List.all_eq_true,decide_eq_true_iff]
 constructor
 ·intro a
  refine List.ext_getElem? fun i=>?_
  by_cases c:i < os.length
  ·simpa using a i (List.mem_range.mpr c)
  ·rw[List.getElem?_eq_none (by omega),List.getElem?_eq_none (by omega)]
 ·rintro rfl j _
  simp
theorem zD4 {pins:List (Addr × Obj)} {σ:St} {H:Hp} {s:Shared} (I:Inv X pins σ H s) {A:Around} {os ps:List (Option Kd)} {xs ys:List V} {its its2:List Value} (r:Vals xs its) (r2:Vals ys its2) (h:IsKos H os xs) (h2:IsKos H ps ys) (hd:∀ o∈os,YJ 20 o) (hu:A.units+21 < cLine) :
  ∀ j (h1:j < its.toArray.size) (h2:j < its2.toArray.size),SeqAt.EqAt A.in1 s its.toArray[j] its2.toArray[j] (decide (os[j]? = ps[j]?)):=by
 intro j j1 j2
 rw[List.size_toArray] at j1 j2
 have l1:=r.length
 have l2:=r2.length
 have e1:xs[j]? = some xs[j]:=List.getElem?_eq_getElem (by omega)
 have e2:ys[j]? = some ys[j]:=List.getElem?_eq_getElem (by omega)
 obtain⟨u1,g1,q1⟩:=r.get e1
 obtain⟨u2,g2,q2⟩:=r2.get e2
 obtain⟨o1,f1,k1⟩:=h.get e1
 obtain⟨o2,f2,k2⟩:=h2.get e2
 rw[List.getElem?_eq_getElem j1] at g1
 rw[List.getElem?_eq_getElem j2] at g2
 have w1:its.toArray[j]=u1:=by simpa using g1
 have w2:its2.toArray[j]=u2:=by simpa using g2
 rw[w1,w2,f1,f2]
 have z:=zE4 I (n:=20) (A:=A.in1) (hd _ (List.mem_of_getElem? f1)) k1 k2 q1 q2 (by show A.units+1+20 < cLine;omega)
 have e:decide (some o1=some o2)=decide (o1=o2):=decide_eq_decide.mpr ⟨fun z=>by cases z;rfl,fun z=>by rw[z]⟩
 rw[e]
 exact z
theorem zF4 {pins:List (Addr × Obj)} {σ:St} {H:Hp} {s:Shared} (I:Inv X pins σ H s) {A:Around} {a b:Addr} {os ps:List (Option Kd)} {xs ys:List V} (ha:H a=some (.lst xs)) (hb:H b=some (.lst ys)) (h:IsKos H os xs) (h2:IsKos H ps ys) (hd:∀ o∈os,YJ 20 o) (hu:A.units+21 < cLine) :
  SeqAt.RcAt A s (.ref a) (.ref b) (decide (os=ps)):=by
 obtain⟨_,its,n,r,hl,e⟩:=I.lstM ha
 obtain⟨_,its2,n2,r2,hl2,e2⟩:=I.lstM hb
 have L1:s.heap.IsList a its.toArray:=⟨_,e,rfl,n,rfl⟩
 have L2:s.heap.IsList b its2.toArray:=⟨_,e2,rfl,n2,rfl⟩
 have m1:=h.1
 have m2:=h2.1
 by_cases hz:os.length=ps.length
 ·have z:=SeqAt.RcAt.lists (A:=A) L1 L2 (by simp;omega) (by omega) (zD4 I r r2 h h2 hd hu)
  rw[show its.toArray.size=os.length by rw[List.size_toArray];omega,zEQ hz] at z
  exact z
 ·rw[decide_eq_false (fun z=>hz (by rw[z]))]
  exact SeqAt.RcAt.lists_lengths L1 L2 (by simp;omega) (by omega)
theorem zDd {pins:List (Addr × Obj)} {σ:St} {H:Hp} {s:Shared} (I:Inv X pins σ H s) {A:Around} {a b:Addr} {os ps:List (Option Kd)} {xs ys:List V} (ha:H a=some (.lst xs)) (hb:H b=some (.lst ys)) (h:IsKos H os xs) (h2:IsKos H ps ys) (hd:∀ o∈os,YJ 20 o) (hu:A.units+21 < cLine) :
  SeqAt.RcNeAt A s (.ref a) (.ref b) (!decide (os=ps)):=by
 obtain⟨_,its,n,r,hl,e⟩:=I.lstM ha
 obtain⟨_,its2,n2,r2,hl2,e2⟩:=I.lstM hb
 have L1:s.heap.IsList a its.toArray:=⟨_,e,rfl,n,rfl⟩
 have L2:s.heap.IsList b its2.toArray:=⟨_,e2,rfl,n2,rfl⟩
 have m1:=h.1
 have m2:=h2.1
 by_cases hz:os.length=ps.length
 ·have z:=SeqAt.RcNeAt.lists (A:=A) L1 L2 (by simp;omega) (by omega) (zD4 I r r2 h h2 hd hu)
  rw[show its.toArray.size=os.length by rw[List.size_toArray];omega,zEQ hz] at z
  exact z
 ·rw[decide_eq_false (fun z=>hz (by rw[z]))]
  exact SeqAt.RcNeAt.lists_lengths L1 L2 (by simp;omega) (by omega)
def zGS (neg:Bool):R2:=fun x y H Q=>∃ a b xs ys os ps,x=.ref a/\y=.ref b/\H a=some (.lst xs)/\H b=some (.lst ys)/\IsKos H os xs/\IsKos H ps ys/\(∀ o∈os,YJ 20 o)/\Q (.bl (if neg then !decide (os=ps) else decide (os=ps))) H
theorem zFZ (hu:X.A.units+64 < cLine):OpR X (compareOp .Eq) (zGS false):=by
 intro pins s σ H x y v u Q I rx ry h
 obtain⟨a,b,xs,ys,os,ps,rfl,rfl,ha,hb,h1,h2,hd,q⟩:=h
 cases rx
 cases ry
 exact zF4 I ha hb h1 h2 hd (by omega) X.prog X.w _ _ ⟨.bl _,H,I,rfl,q⟩
theorem zFp (hu:X.A.units+64 < cLine):OpR X (compareOp .NotEq) (zGS true):=by
 intro pins s σ H x y v u Q I rx ry h
 obtain⟨a,b,xs,ys,os,ps,rfl,rfl,ha,hb,h1,h2,hd,q⟩:=h
 cases rx
 cases ry
 exact zDd I ha hb h1 h2 hd (by omega) X.prog X.w _ _ ⟨.bl _,H,I,rfl,q⟩
end
end L2
namespace L2
open PySem PySem.Spec PyProof.Rows
theorem zAr {K:W.Frag} {H:Hp} {Q:VK} {a:Addr} {xs:List V} (e:H a=some (.lst xs)):Qz K [.ref a,.ty "list"] H Q=Q (.bl true) H:=QY (.lst e) (Z1 e) rfl
theorem Zn {n:Nat} {ns:List Int}:∀ o∈cz ns,YJ n o:=fun o ho=>by
 unfold cz at ho
 obtain⟨i,_,rfl⟩:=List.mem_map.mp ho
 show (Kd.num i).deep<=n
 unfold Kd.deep
 exact Nat.zero_le _
theorem Zq {H:Hp} {i:Int}:IsKo H (some (.num i)) (.int i):=by show IsK H (.num i) _;unfold IsK;rfl
end L2
namespace L2
open PySem PySem.Spec PyProof.Rows
theorem IsKs.set {H:Hp} {k:Kd} {v:V} (h:IsK H k v):∀ {ks:List Kd} {vs:List V} (i:Nat),IsKs H ks vs->IsKs H (ks.set i k) (vs.set i v)
 | [],_,_,h'=>by unfold IsKs at h';subst h';exact IsKs.nil
 | k0::r,_,0,h'=>by
  unfold IsKs at h'
  obtain⟨v0,vr,rfl,h1,h2⟩:=h'
  show IsKs H (k::r) (v::vr)
  unfold IsKs
  exact⟨v,vr,rfl,h,h2⟩
 | k0::r,_,i+1,h'=>by
  unfold IsKs at h'
  obtain⟨v0,vr,rfl,h1,h2⟩:=h'
  show IsKs H (k0::r.set i k) (v0::vr.set i v)
  unfold IsKs
  exact⟨v0,_,rfl,h1,IsKs.set h i h2⟩
theorem IsKs.drop {H:Hp}:∀ {ks:List Kd} {vs:List V} (n:Nat),IsKs H ks vs->IsKs H (ks.drop n) (vs.drop n)
 | _,_,0,h=>h
 | [],_,n+1,h=>by unfold IsKs at h;subst h;exact IsKs.nil
 | k::r,_,n+1,h=>by
  unfold IsKs at h
  obtain⟨v,vr,rfl,h1,h2⟩:=h
  exact IsKs.drop n h2
theorem IsKs.two {H:Hp} {k l:Kd} {v w:V} (h:IsK H k v) (h':IsK H l w):IsKs H [k,l] [v,w]:=by
 unfold IsKs
 refine⟨v,[w],rfl,h,?_⟩
 unfold IsKs
 exact⟨w,[],rfl,h',IsKs.nil⟩
theorem IsKs.one {H:Hp} {k:Kd} {v:V} (h:IsK H k v):IsKs H [k] [v]:=by
 unfold IsKs
 exact⟨v,[],rfl,h,IsKs.nil⟩
theorem zEo {z:Str} {H:Hp} {Q:VK} (h:z.length<=sizeLine):zBj [.str z] H Q=Q (.int z.length) H:=by
 show (z.length<=sizeLine/\Q (.int z.length) H)=_
 exact propext ⟨fun x=>x.2,fun x=>⟨h,x⟩⟩
end L2
namespace L2
open PySem PySem.Spec PyProof.Rows
theorem zCY {α:Type} {ys:List α} {c:Nat} (h:ys.length=c+1):atI ys (-1)=ys[c]? := by
 have e:ys ≠ []:=fun e=>by rw[e] at h;cases h
 have z:=zEi ys.dropLast (ys.getLast e)
 rw[List.dropLast_concat_getLast] at z
 rw[z,List.getLast_eq_getElem,List.getElem?_eq_getElem (by omega)]
 congr 1
 congr 1
 omega
end L2
theorem L2.shal_mono {o:Option L2.Kd} (h:L2.YJ 3 o):L2.YJ 20 o:=by
 cases o with
 | none=>trivial
 | some k=>exact Nat.le_trans (show k.deep<=3 from h) (by decide)
namespace L2
open PySem PySem.Spec PyProof.Rows
theorem IsKo.non {H:Hp} {o:Option Kd} {y:V} (h:IsKo H o y):decide (y=V.non)=o.isNone:=by
 cases o with
 | none=>rw[decide_eq_true (show y=V.non from h)];rfl
 | some k =>
  refine decide_eq_false fun e=>?_
  have h':IsKo H none y:=e
  have:=h.inj h'
  cases this
def plc (os:List (Option Kd)) (i:Nat):List Int:=((List.range i).filter fun j=>(os[j]?.getD none).isSome).map fun j=>((j:Nat):Int)
theorem YX {os:List (Option Kd)} {i:Nat}:(plc os i).length<=i:=by
 unfold plc
 rw[List.length_map]
 have:=List.length_filter_le (fun j=>(os[j]?.getD none).isSome) (List.range i)
 rwa [List.length_range] at this
theorem Zy {os:List (Option Kd)} {i:Nat} {o:Option Kd} (h:os[i]? = some o):plc os (i+1)=if o.isNone=true then plc os i else plc os i++[((i:Nat):Int)]:=by
 unfold plc
 rw[List.range_succ,List.filter_append,List.map_append]
 cases o with
 | none=>simp[h]
 | some k=>simp[h]
theorem zFH {os:List (Option Kd)} {i:Nat} {v:Int} (h:v∈plc os i):∃ k,0<=v/\v < (i:Int)/\os[v.toNat]? = some (some k):=by
 unfold plc at h
 obtain⟨j,hj,rfl⟩:=List.mem_map.mp h
 obtain⟨h1,h2⟩:=List.mem_filter.mp hj
 have h1:=List.mem_range.mp h1
 cases e:os[j]? with
 | none=>rw[e] at h2;cases h2
 | some o =>
  cases o with
  | none=>rw[e] at h2;cases h2
  | some k=>exact⟨k,by omega,by omega,by rw[Int.toNat_natCast];exact e⟩
theorem zCo {ns:List Int} {lo hi:Option Int}:∃ cells:List Int,zBE (ns.map V.int) lo hi=cells.map V.int/\cells.length<=ns.length/\∀ x∈cells,x∈ns:=by
 unfold zBE
 rw[← List.map_drop,← List.map_take]
 exact⟨_,rfl,by rw[List.length_take,List.length_drop];omega,fun x hx=>List.mem_of_mem_drop (List.mem_of_mem_take hx)⟩
end L2
namespace L2
open PySem PySem.Spec PyProof.Rows
structure M1 (X:Cx) (o:Expr) (m:Str) (apos:Pos) (e:Expr) (cpos:Pos):Prop where
 base:attributeBase o m X.env (eval o X.env)=eval o X.env
 few:((backTo cpos (starEach [e] X.env)).all (fun x => !x.1) && (backToKw cpos (keywordEach [] X.env)).all (fun x=>x.1.isSome)
  && decide (([e]:List Expr).length+([]:List Keyword).length+(if ([]:List Keyword).isEmpty then 0 else 1) < 30))=true
 line:(apos.endLine == cpos.line)=true
 trees:backTo cpos (starEach [e] X.env)=[(false,eval e X.env)]
end L2
namespace L2
open PySem PySem.Spec PyProof.Rows
section
variable {X:Cx}
def zGg:zFG
 | .ref p,.int k,v,H,Q=>match H p with
  | some (.lst xs)=>match ixN xs.length k with
   | some j=>Q (upd H p (.lst (xs.set j v)))
   | none=>False
  | _=>False
 | _,_,_,_,_=>False
theorem J4:zHF X zGg:=by
 intro pins s σ H o i v ov iv u Q I ro ri rv h
 match o,i,h with
 | .ref p,.int k,h =>
  have h':(match H p with | some (.lst xs)=>(match ixN xs.length k with | some j=>Q (upd H p (.lst (xs.set j v))) | none=>False) | _=>False):=h
  cases e:H p with
  | none=>rw[e] at h';exact h'.elim
  | some ob =>
   rw[e] at h'
   cases ob with
   | lst xs =>
    have h2:(match ixN xs.length k with | some j=>Q (upd H p (.lst (xs.set j v))) | none=>False):=h'
    cases e2:ixN xs.length k with
    | none=>rw[e2] at h2;exact h2.elim
    | some j=>rw[e2] at h2;exact zEe pins s σ H _ _ v ov iv u Q I ro ri rv ⟨p,xs,k,j,rfl,rfl,e,e2,h2⟩
   | _=>exact h'.elim
theorem zFo {n k:Nat} (h:k < n):ixN n (k:Int)=some k:=by
 unfold ixN
 first
  | (rw[if_pos (by omega)];simp;omega)
  | (simp;omega)
  | (split <;> simp <;> omega)
theorem ZH {H:Hp} {p:Addr} {xs:List V} {k:Int} {j:Nat} {v:V} {Q:Hp->Prop} (h:H p=some (.lst xs)) (e:k=(j:Int)) (hj:j < xs.length):zGg (.ref p) (.int k) v H Q=Q (upd H p (.lst (xs.set j v))):=by
 subst e
 show (match H p with | some (.lst xs)=>(match ixN xs.length (j:Int) with | some j=>Q (upd H p (.lst (xs.set j v))) | none=>False) | _=>False)=_
 rw[h]
 show (match ixN xs.length (j:Int) with | some j=>Q (upd H p (.lst (xs.set j v))) | none=>False)=_
 rw[zFo hj]
end
def Ite (K:W.Frag) (a:Addr):It :=
 ⟨fun i H=>∃ xs x,SqL K H a xs/\xs[i]? = some x,fun i H v H'=>∃ p x,v=.ref p/\H p=none/\H'=upd H p (.tup [.int (i:Nat),x])/\∀ xs,SqL K H a xs->xs[i]? = some x,fun i H=>∃ xs,SqL K H a xs/\xs.length<=i⟩
section
variable {X:Cx} {pins:List (Addr × Obj)} {σ:St} {H:Hp} {s:Shared} {h':Heap}
theorem Inv.turnedT {t':Nat} {e it:Addr} {ys:List V} {its:List Value} (I:Inv X pins σ H s) (k:∀ b o,b ≠ e->b ≠ it->s.heap.get? b=some o->h'.get? b=some o) (fe:ZO X pins H e) (fi:ZO X pins H it)
  (ht:IsTup h' s.heap.objs.size its.toArray) (hv:Vals ys its) (hz:ys.length<=sizeLine) (htk:1<=t':=by first | exact Nat.le_add_left _ _ | exact Inv.tk (by assumption) | assumption | omega):Inv X pins σ (upd H s.heap.objs.size (.tup ys)) { s with heap:=h',toks:=t' }:=by
 have hn:H s.heap.objs.size=none:=I.hok.fresh (Nat.le_refl _)
 obtain⟨f0,f1,f2,f3,f4,f5⟩:=fe
 obtain⟨g0,g1,g2,g3,g4,g5⟩:=fi
 have ne:∀ b u,H b=some u->b ≠ e:=fun b u e z=>by rw[z,f0] at e;cases e
 have nit:∀ b u,H b=some u->b ≠ it:=fun b u e z=>by rw[z,g0] at e;cases e
 refine I.step (g':=s.gens) (d':=s.drawn) (ch:=[e,it]) (fun b hb=>?_) (fun b o _ _ hc q _=>k b o (fun z=>hc (by simp[z])) (fun z=>hc (by simp[z])) q) (fun b o _ _ hc q _=>⟨o.slots,k b o (fun z=>hc (by simp[z])) (fun z=>hc (by simp[z])) q⟩) (fun b o _ q n=>?_)
  (fun b o hc q=>⟨o,k b o (fun z=>hc (by simp[z])) (fun z=>hc (by simp[z])) q⟩) (fun b xs q=>?_) (fun b _ _ q=>?_) (fun b ps q=>⟨#[],?_⟩) (fun m hm=>?_) (fun b u q=>?_) I.bare htk
 ·rcases List.mem_cons.mp hb with z | z
  ·subst z;exact⟨f3,f1,f4,f5⟩
  ·have z:=List.mem_singleton.mp z
   subst z;exact⟨g3,g1,g4,g5⟩
 ·rw[QQ (Nat.ne_of_lt (Heap.lt_size q))];exact n
 ·rw[QQ (QO q hn)];exact q
 ·rw[QQ (QO q hn)];exact q
 ·rw[QQ (QO q hn),q];simp
 ·obtain⟨o,es,ep,ho,r⟩:=hm
  exact⟨o,es,ep,k _ o (Ne.symm f1) (Ne.symm g1) ho,r⟩
 ·by_cases hb:b=s.heap.objs.size
  ·subst hb
   rw[QH] at q
   cases q
   exact⟨hz,its,hv,ht⟩
  ·rw[QQ hb] at q
   refine (I.hok b u q).stay (fun c v hc q2=>k c v ?_ ?_ q2) (fun c q=>by rw[QQ (QO q hn)];exact q) fun c xs q=>by rw[QQ (QO q hn)];exact q
   ·rcases hc with z | z
    ·rw[z];exact ne b u q
    ·exact ne c _ z
   ·rcases hc with z | z
    ·rw[z];exact nit b u q
    ·exact nit c _ z
end
theorem zDb {P:Program} {w:World} {K:W.Frag} {elts:List Expr} {x1:Nat} {tp:Pos} (a e it:Addr) (hne:e ≠ it):Turn P w K (.Tuple elts x1 tp) (Ite K a) [e,it] e (fun i h=>(∃ old,IsEnum h e it (i:Nat) old)/\h.IsListIter it a i) where
 mem:=by simp
 obj:=fun i h st b hb=>by
  obtain⟨⟨old,he⟩,hi⟩:=st
  rcases List.mem_cons.mp hb with z | z
  ·subst z
   exact⟨_,he,fun v z=>by cases z⟩
  ·have z:=List.mem_singleton.mp z
   subst z
   obtain⟨o,e,c,d⟩:=hi
   exact⟨o,e,fun v z=>by rw[d] at z;cases z⟩
 keep:=fun i h h' st k=>⟨st.1.imp fun old he=>k e (by simp) _ he,st.2.at fun o q=>k it (by simp) o q⟩
 item:=by
  intro X hP hw hK hc i pins s σ H E I hf st hg
  subst hP hw hK
  obtain⟨xs,x,hq,hx⟩:=hg
  obtain⟨its,rv,p,hz⟩:=I.list hq
  obtain⟨u,hu,ru⟩:=rv.get hx
  have fe:=hf e (by simp)
  have fi:=hf it (by simp)
  obtain⟨⟨old,he⟩,hi⟩:=st
  have hel:e < s.heap.objs.size:=Heap.lt_size he
  have hil:it < s.heap.objs.size:=by obtain⟨o,q,_⟩:=hi;exact Heap.lt_size q
  refine wpAny_pyNext_enum_item he hi p.isList (x:=u) (by simpa using hu) hne fun h1 ho hi1 ht hsz hk=>?_
  refine⟨_,rfl,wpAny_letOwnedTupleGo_enum ho fun h2 he2 hs2=>?_⟩
  have hk2:∀ b o,b ≠ e->b ≠ it->s.heap.get? b=some o->h2.get? b=some o:=fun b o b1 b2 q=>(hs2.2 b b1).trans (hk b o b1 b2 q)
  have ht2:h2.get? s.heap.objs.size=some { cls:=.type "tuple",data:=.seq #[.int i s.toks,u] }:=(hs2.2 _ (Nat.ne_of_gt hel)).trans ht
  have hf2:∀ b∈[e,it],upd H s.heap.objs.size (HO.tup [V.int i,x]) b=none:=fun b hb=>by
   have hb2:b < s.heap.objs.size:=by
    rcases List.mem_cons.mp hb with z | z
    ·rw[z];exact hel
    ·rw[List.mem_singleton.mp z];exact hil
   rw[QQ (Nat.ne_of_lt hb2)]
   exact (hf b hb).1
  have z1:IsEnum h2 e it ((i+1:Nat):Int) u:=by
   have z:((i+1:Nat):Int)=(i:Int)+1:=by omega
   rw[z];exact he2
  refine⟨.ref s.heap.objs.size,_,Inv.turnedT (s:=s) (t':=s.toks+1) I (its:=[.int i s.toks,u]) (ys:=[.int i,x]) hk2 fe fi ⟨_,ht2,rfl,_,rfl⟩ (.cons I.rI (.cons ru .nil)) (by show 2<=sizeLine;decide),rfl,
   ⟨_,x,rfl,I.hok.fresh (Nat.le_refl _),rfl,fun ys hy=>by rw[I.list_inj hy hq];exact hx⟩,⟨⟨u,z1⟩,hi1.at fun o q=>(hs2.2 it (Ne.symm hne)).trans q⟩,hf2⟩
 done:=by
  intro X hP hw hK hc i pins s σ H E I hf st hg
  subst hP hw hK
  obtain⟨xs,hq,hx⟩:=hg
  obtain⟨its,rv,p,hz⟩:=I.list hq
  obtain⟨⟨old,he⟩,hi⟩:=st
  obtain⟨f0,f1,f2,f3,f4,f5⟩:=hf it (by simp)
  have hl:=rv.length
  exact wpAny_pyNext_enum_end (I.ok.hd hc) he hi p.isList (by simp;omega) fun h' eb=>⟨rfl,I.turned (t':=s.toks) (fun b o hb e=>eb b o hb e) f0 f1 f3 f4 f5⟩
 self:=fun _ _ _ _ _ st h=>by
  obtain⟨⟨old,he⟩,_⟩:=st
  exact wpAny_pyIter_enum he h
section
variable {X:Cx} {elts:List Expr} {x1:Nat} {tp:Pos}
def zGD (K:W.Frag) (tl:TE):TI:=fun σ H R=>tl σ H fun x H1=>∃ a,x=.ref a/\(∃ xs,SqL K H1 a xs)/\R (Ite K a) H1
theorem Wj {l:Expr} {tl:TE} {p pos:Pos} (hc:X.calm=true) (hg:Gl X "enumerate") (hm:X.mg "enumerate" = none) (hl:PE X l tl) (hs:starEach [l] X.env=[(false,eval l X.env)]:=by rfl):PI X (.Tuple elts x1 tp) (.Call (.Name "enumerate" p) [l] [] pos) (zGD X.K tl):=by
 intro pins s σ H R I h
 refine Call_ (JG I hg hm boot_enumerate (PyProof.Rows.callWith_type1 (thn ((QA hl QD hs) pos pins s σ H (fun vs H1=>match vs with | [x]=>∃ a,x=.ref a/\(∃ xs,SqL X.K H1 a xs)/\R (Ite X.K a) H1 | _=>False) I h) fun us s1 ⟨vs,H1,I1,r1,q1⟩=>?_) hs rfl))
 match vs,r1,q1 with
 | [x],r1,q1 =>
 obtain⟨a,rfl,⟨xs,hq⟩,q⟩:=q1
 obtain⟨u,rfl,ru⟩:=r1.one
 cases ru
 obtain⟨its,rv,p,hz⟩:=I1.list hq
 refine call_enumerate_list p.isList fun h' he hi hsz hk=>?_
 have I2:Inv X pins σ H1 { s1 with heap:=h' }:=I1.kept (t':=s1.toks) hk
 refine wpAny_pyIter_enum he ?_
 refine⟨s1.heap.objs.size+1,[s1.heap.objs.size+1,s1.heap.objs.size],_,_,H1,rfl,I2,zDb a _ _ (Nat.succ_ne_self _),⟨⟨_,he⟩,hi⟩,fun b hb=>?_,q⟩
 have hb2:s1.heap.objs.size<=b:=by
  rcases List.mem_cons.mp hb with z | z
  ·rw[z];exact Nat.le_succ _
  ·rw[List.mem_singleton.mp z];exact Nat.le_refl _
 exact I1.fpOk hb2 (I1.hok.fresh hb2)
theorem Jp {K:W.Frag} {a:Addr} {xs:List V} {g:TG} {tb:TS} {D:Ends} {σ:St} {H:Hp} (Pv:Nat->St->Hp->Prop) (h0:Pv 0 σ H) (hl:∀ i σ H,i<=xs.length->Pv i σ H->SqL K H a xs)
  (hs:∀ (i:Nat) x p σ H,xs[i]? = some x->Pv i σ H->H p=none->g (.ref p) σ (upd H p (.tup [.int (i:Nat),x])) fun σ2 H2=>tb { D with nx:=Pv (i+1),ct:=Pv (i+1),bk:=D.nx } σ2 H2) (hd:∀ σ H,Pv xs.length σ H->D.nx σ H):zBh (Ite K a) g tb D σ H:=by
 refine⟨fun i m σ H=>m=xs.length - i/\i<=xs.length/\Pv i σ H,⟨xs.length,by simp,Nat.zero_le _,h0⟩,?_⟩
 rintro i m σ H ⟨rfl,hi,p⟩
 have q:=hl i σ H hi p
 by_cases hlt:i < xs.length
 ·refine .inr ⟨⟨xs,xs[i],q,by simp[hlt]⟩,Pv (i+1),fun σ' H' p'=>⟨xs.length - (i+1),by omega,rfl,hlt,p'⟩,fun x H' y=>?_⟩
  obtain⟨b,z,rfl,hb,rfl,y⟩:=y
  exact hs i z b σ H (y xs q) p hb
 ·have e:i=xs.length:=by omega
  subst e
  exact .inl ⟨⟨xs,q,Nat.le_refl _⟩,hd σ H p⟩
end
end L2
namespace L2
open PySem PySem.Spec PyProof.Rows
section
variable {X:Cx}
theorem JL {i:Nat} {y:Str} {py spos:Pos} (hN:X.N.Nodup) (hi':X.N[i]? = some y) (hy:Loc X.env.scope y) (x:Str) (cs:List Str) (js:List Nat) {sc scope:Scope} {qual:Str} {L f:Addr} {cd:Value} {elt iter t:Expr} {px pos:Pos} {wi:TI} {tc:TT} {te:TE} (hE:X.env=envOfC qual sc L f cd) (c:CompOk sc scope X.N x cs js) (hc:X.calm=true) (hi:PI X (.Name x px) iter wi)
  (ht:∀ C s₁ H₁ fp,PT (cxC X scope (Q4 X.env scope.names []) x cs C s₁ H₁ fp) t tc) (he:∀ C s₁ H₁ fp,PE (cxC X scope (Q4 X.env scope.names []) x cs C s₁ H₁ fp) elt te)
  (hsw:swapsWith (.ListComp elt [⟨.Name x px,iter,[t],0⟩] scope pos) (some (.Name y py)) spos.line X.env=pure true:=by rfl)
  (hf:X.fn y=true\/X.env.scope.names.lookup y=some .local:=by first | exact .inl rfl | exact .inr rfl | assumption)
  (hs:∀ x,foldedSetIterable iter X.env x=pure x:=by intro _;rfl):PS X (.Assign [.Name y py] (.ListComp elt [⟨.Name x px,iter,[t],0⟩] scope pos) spos) (Wy (Wv wi js tc te) (YW i)) :=
 zA0 hN hi' hy hc (Zb hE c) hi (fun _ _ _ _=>W9 (ht _ _ _ _)) he hsw hf hs
end
end L2
namespace L2
open PySem PySem.Spec PyProof.Rows
end L2
namespace L2
open PySem PySem.Spec PyProof.Rows
section
variable {X:Cx}
def WO:List V->Hp->VK->Prop
 | [.ref p],H,Q=>match H p with
  | some (.lst ys)=>∀ t,H t=none->Q (.ref t) (upd H t (.lst ys))
  | _=>False
 | _,_,_=>False
theorem YE:Q9 X (.type "list") WO:=by
 intro pins s σ H xs us Q I r h
 match xs,h with
 | [.ref p],h =>
  have h':(match H p with | some (.lst ys)=>∀ t,H t=none->Q (.ref t) (upd H t (.lst ys)) | _=>False):=h
  cases e:H p with
  | none=>rw[e] at h';exact h'.elim
  | some o =>
   rw[e] at h'
   cases o with
   | lst ys=>exact zAR pins s σ H _ us Q I r ⟨p,ys,rfl,.inl (SqL.of e),h'⟩
   | _=>exact h'.elim
theorem YO {H:Hp} {Q:VK} {p:Addr} {xs:List V} (h:H p=some (.lst xs)):WO [.ref p] H Q=∀ t,H t=none->Q (.ref t) (upd H t (.lst xs)):=by
 show (match H p with | some (.lst ys)=>∀ t,H t=none->Q (.ref t) (upd H t (.lst ys)) | _=>False)=_
 rw[h]
end
end L2
namespace L2
open PySem PySem.Spec PyProof.Rows
theorem zES {H:Hp} {a b:Int} {x:V} (h:IsKo H (some (.tup [.num a,.num b])) x):∃ t,x=.ref t/\H t=some (.tup [.int a,.int b]):=by
 have h:IsK H (.tup [.num a,.num b]) x:=h
 unfold IsK at h
 obtain⟨t,vs,rfl,ht,_,hk⟩:=h
 unfold IsKs at hk
 obtain⟨v,vr,rfl,h1,h2⟩:=hk
 unfold IsKs at h2
 obtain⟨w,wr,rfl,h3,h4⟩:=h2
 unfold IsKs at h4
 subst h4
 rw[IsK.num_eq h1,IsK.num_eq h3] at ht
 exact⟨t,rfl,ht⟩
end L2
namespace L2
open PySem PySem.Spec PyProof.Rows
end L2
namespace PySem
structure KeyAt (prog:Program) (w:World) (A:Around) (s:Shared) (es:Array DictEntry) (key:Value) (hs:Int) (b:Nat->Bool):Prop where
 eq:∀ i e tk,es[i]? = some e->SeqAt.EqAt A { s with toks:=tk } e.key key (b i)
 hash:∀ i e,es[i]? = some e->b i=true->e.hash=hs
 uni:∀ i j,i < es.size->j < es.size->b i=true->b j=true->i=j
 quiet:∀ (E:Value->Shared->Prop) (Q:Bool->Shared->Prop) tk,Q true { s with toks:=tk }->wpAny (model prog w) A (eqIsQuiet 8 key) Q E { s with toks:=tk }
 quiets:∀ e∈es,∀ (E:Value->Shared->Prop) (Q:Bool->Shared->Prop) tk,Q true { s with toks:=tk }->wpAny (model prog w) A (eqIsQuiet 8 e.key) Q E { s with toks:=tk }
 ref:∀ e∈es,e.key=key->carriedByValue key=false->e.hash=hs
 kind:(∃ i t,key=.int i t)\/(∃ x t,key=.str x t/\∀ i e,es[i]? = some e->isExactStrKey e.key=true->e.key.isStr x=b i)\/∃ a,key=.ref a
 py:∀ (E:Value->Shared->Prop) (Q:Int->Shared->Prop) tk,(∀ tk',Q hs { s with toks:=tk' })->wpAny (model prog w) A (pyHash key) Q E { s with toks:=tk }
end PySem
namespace PySem
end PySem
namespace L2
open PySem PySem.Spec PyProof.Rows
mutual
def Kd.hsh (w:World):Kd->Int
 | .num i=>hashInt i
 | .txt x=>hashStr w x
 | .tup ks=>reduceHash (Builtin.Tuple.tupleHashOf (Kd.hshL w ks))
def Kd.hshL (w:World):List Kd->List Int
 | []=>[]
 | k::r=>k.hsh w::Kd.hshL w r
end
theorem Kd.hshL_snoc (w:World) (k:Kd):∀ ks:List Kd,Kd.hshL w (ks++[k])=Kd.hshL w ks++[k.hsh w]
 | []=>by show Kd.hshL w [k]=_;unfold Kd.hshL Kd.hshL;rfl
 | j::r=>by show Kd.hshL w (j::(r++[k]))=_;unfold Kd.hshL;rw[Kd.hshL_snoc w k r];rfl
def TK (H:Hp) (ks:List Kd) (us:List Value):Prop:=∃ vs,IsKs H ks vs/\Vals vs us
theorem TK.cons_inv {H:Hp} {ks:List Kd} {u:Value} {us:List Value} (t:TK H ks (u::us)):∃ k kr x,ks=k::kr/\IsK H k x/\RelV x u/\TK H kr us:=by
 obtain⟨vs,h,r⟩:=t
 cases r with
 | @cons x _ xr _ rx rr =>
  cases ks with
  | nil=>unfold IsKs at h;cases h
  | cons k kr =>
   unfold IsKs at h
   obtain⟨v,vr,e,h1,h2⟩:=h
   obtain⟨rfl,rfl⟩:=List.cons.inj e
   exact⟨k,kr,x,rfl,h1,rx,xr,h2,rr⟩
theorem TK.nil_inv {H:Hp} {ks:List Kd} (t:TK H ks []):ks=[]:=by
 obtain⟨vs,h,r⟩:=t
 cases r
 cases ks with
 | nil=>rfl
 | cons k kr=>unfold IsKs at h;obtain⟨v,vr,e,_⟩:=h;cases e
section
variable {X:Cx} {pins:List (Addr × Obj)} {σ:St} {H:Hp} {s:Shared}
theorem zHy (I:Inv X pins σ H s):∀ (n:Nat) {k:Kd} {x:V} {u:Value} {A:Around},k.deep<=n->IsK H k x->RelV x u->A.units+n < cLine ->
  ∀ (E:Value->Shared->Prop) (Q:Int->Shared->Prop) tk,(∀ tk',Q (k.hsh X.w) { s with toks:=tk' })->wpAny (model X.prog X.w) A (pyHash u) Q E { s with toks:=tk }:=by
 intro n
 induction n with
 | zero =>
  intro k x u A hd hk rx hu E Q tk h
  cases k with
  | num i=>unfold IsK at hk;subst hk;obtain⟨t,rfl⟩:=rx;unfold Kd.hsh at h;exact wpAny_pyHash_int (h _)
  | txt i=>unfold IsK at hk;subst hk;obtain⟨t,rfl⟩:=rx;unfold Kd.hsh at h;exact wpAny_pyHash_str (h _)
  | tup ks=>unfold Kd.deep at hd;omega
 | succ n ih =>
  intro k x u A hd hk rx hu E Q tk h
  cases k with
  | num i=>exact ih (by unfold Kd.deep;omega) hk rx (by omega) E Q tk h
  | txt i=>exact ih (by unfold Kd.deep;omega) hk rx (by omega) E Q tk h
  | tup ks =>
   unfold IsK at hk;obtain⟨a,vs,rfl,ha,_,hks⟩:=hk;cases rx
   obtain⟨its,r1,⟨o,ho,hc,m,hdt⟩,_⟩:=I.tuple (SqT.of ha)
   have hT:({ s with toks:=tk }:Shared).TypeIs (.ref a) "tuple" := ⟨o,ho,hc⟩
   unfold Kd.deep at hd
   have hdk:∀ j∈ks,j.deep<=n:=fun j hj=>Nat.le_trans (Kd.deep_le hj) (by omega)
   unfold pyHash
   first | unfold pyHashByItsType | skip
   first | refine wpAny_bind (wpAny_cRoomFor_or (.inr (by omega)) ?_) | skip
   refine wpAny_bind (wpAny_specialOf hT F.slot_tuple_hash.lookup ?_)
   show wpAny _ _ (if (some (Value.builtin "tuple.__hash__") == some Value.none)=true then _ else _) Q E _
   rw[if_neg (by rw[beq_builtin_none];exact Bool.false_ne_true)]
   refine wpAny_bind (wpAny_specialOf hT F.slot_tuple_hash.lookup ?_)
   show wpAny _ _ (callSpecialIfBoundUnlessNone? (.ref a) "__hash__" _ >>= _) Q E _
   refine wpAny_bind (wpAny_callSpecialIfBoundUnlessNone?_slot hT F.slot_tuple_hash (wpAny_call_entry F.slot_tuple_hash hT F.entry_tuple_hash ?_ (F.args_tuple_hash_1 _)))
   show wpAny _ _ (Builtin.Tuple.tupleItemsOf (.ref a) >>= _) _ _ _
   refine wpAny_bind (wpAny_tupleItemsOf (s:={ s with toks:=tk }) ho hdt ?_)
   refine wpAny_bind ?_
   rw[← Array.forIn_toList]
   refine wpAny_forIn_list _ (fun Qq (b:Array Int) s'=>∃ dn lf,ks=dn++lf/\TK H lf Qq/\b.toList=Kd.hshL X.w dn/\∃ t,s'={ s with toks:=t }) _ ?_ ?_ _ _ ⟨[],ks,rfl,⟨vs,hks,by simpa using r1⟩,by unfold Kd.hshL;rfl,tk,rfl⟩
   ·rintro y Qq b s' ⟨dn,lf,e1,t1,hb,t,rfl⟩
    obtain⟨k,kr,x,rfl,hk,rx,t2⟩:=t1.cons_inv
    refine wpAny_bind (ih (hdk k (by rw[e1];simp)) hk rx (by show A.units+1+n < cLine;omega) _ _ t fun t'=>?_)
    first
     | exact wpAny_pure ⟨dn++[k],kr,by rw[e1];simp,t2,by rw[Kd.hshL_snoc];simp[hb],t',rfl⟩
     | exact wpAny_bind (wpAny_pure (wpAny_pure ⟨dn++[k],kr,by rw[e1];simp,t2,by rw[Kd.hshL_snoc];simp[hb],t',rfl⟩))
   ·rintro b s' ⟨dn,lf,e1,t1,hb,t,rfl⟩
    have e2:=t1.nil_inv
    subst e2
    rw[List.append_nil] at e1
    subst e1
    show wpAny _ _ (retInt (Builtin.Tuple.tupleHashOf b.toList)) _ _ _
    rw[hb]
    refine wpAny_ret_mkInt ?_
    unfold Kd.hsh reduceHash at h
    generalize Builtin.Tuple.tupleHashOf (Kd.hshL X.w ks)=z at h
    show wpAny _ _ (if (decide (-(2:Int) ^ 63<=z) && decide (z < 2 ^ 63))=true then _ else _) Q E _
    split
    ·rename_i hr
     rw[if_pos hr] at h
     exact wpAny_pure (h _)
    ·rename_i hr
     rw[if_neg hr] at h
     exact wpAny_bind (wpAny_rule (wpAny_pure (h _)))
theorem zCi (I:Inv X pins σ H s):∀ (n:Nat) {k:Kd} {x:V} {u:Value} {A:Around},k.deep<=n->IsK H k x->RelV x u ->
  ∀ (E:Value->Shared->Prop) (Q:Bool->Shared->Prop) tk,Q true { s with toks:=tk }->wpAny (model X.prog X.w) A (eqIsQuiet n u) Q E { s with toks:=tk }:=by
 intro n
 induction n with
 | zero =>
  intro k x u A hd hk rx E Q tk h
  cases k with
  | num i=>unfold IsK at hk;subst hk;obtain⟨t,rfl⟩:=rx;rw[eqIsQuiet_byValue _ rfl];exact wpAny_pure h
  | txt i=>unfold IsK at hk;subst hk;obtain⟨t,rfl⟩:=rx;rw[eqIsQuiet_byValue _ rfl];exact wpAny_pure h
  | tup ks=>unfold Kd.deep at hd;omega
 | succ n ih =>
  intro k x u A hd hk rx E Q tk h
  cases k with
  | num i=>unfold IsK at hk;subst hk;obtain⟨t,rfl⟩:=rx;rw[eqIsQuiet_byValue _ rfl];exact wpAny_pure h
  | txt i=>unfold IsK at hk;subst hk;obtain⟨t,rfl⟩:=rx;rw[eqIsQuiet_byValue _ rfl];exact wpAny_pure h
  | tup ks =>
   unfold IsK at hk;obtain⟨a,vs,rfl,ha,_,hks⟩:=hk;cases rx
   obtain⟨its,r1,⟨o,ho,hc,m,hdt⟩,_⟩:=I.tuple (SqT.of ha)
   have hT:({ s with toks:=tk }:Shared).TypeIs (.ref a) "tuple" := ⟨o,ho,hc⟩
   unfold Kd.deep at hd
   have hdk:∀ j∈ks,j.deep<=n:=fun j hj=>Nat.le_trans (Kd.deep_le hj) (by omega)
   unfold eqIsQuiet
   refine wpAny_bind (wpAny_specialOf hT F.slot_tuple_eq.lookup ?_)
   show wpAny _ _ (isInstance (.ref a) (.type "tuple") >>= _) _ _ _
   refine wpAny_bind (wpAny_isInstance hT isSubtype_tuple_tuple ?_)
   rw[if_neg (by decide)]
   refine wpAny_bind (wpAny_seqItems (s:={ s with toks:=tk }) ho hdt ?_)
   refine wpAny_bind ?_
   show wpAny _ _ (forIn its.toArray _ _) _ _ _
   rw[← Array.forIn_toList]
   refine wpAny_forIn_list _ (fun Qq r s'=>r.1=none/\s'={ s with toks:=tk }/\∃ lf,(∀ j∈lf,j.deep<=n)/\TK H lf Qq) _ ?_ ?_ _ _ ⟨rfl,rfl,ks,hdk,vs,hks,by simpa using r1⟩
   ·rintro y Qq r s' ⟨hr,rfl,lf,hl,t1⟩
    obtain⟨k,kr,x,rfl,hk,rx,t2⟩:=t1.cons_inv
    refine wpAny_bind (ih (hl k List.mem_cons_self) hk rx _ _ tk ?_)
    rw[if_neg (by decide)]
    exact wpAny_pure ⟨rfl,rfl,kr,fun j hj=>hl j (List.mem_cons_of_mem _ hj),t2⟩
   ·rintro ⟨r1,r2⟩ s' ⟨hr,rfl,_⟩
    simp only at hr
    subst hr
    exact wpAny_pure h
end
end L2
namespace L2
open PySem
def Wa (xs:Array Nat):Prop:=∀ i k a b:Nat,i < k->xs[i]? = some a->xs[k]? = some b->a < b
theorem zEK {xs:Array Nat} {j:Nat} (hr:Wa xs):∀ fuel lo hi:Nat,lo<=hi->hi<=xs.size->hi - lo<=fuel->(∀ i a:Nat,i < lo->xs[i]? = some a->a < j)->(∀ i a:Nat,hi<=i->xs[i]? = some a->j<=a)->SetTable.below.go xs j fuel lo hi<=xs.size/\(∀ i a:Nat,i < SetTable.below.go xs j fuel lo hi->xs[i]? = some a->a < j)/\(∀ i a:Nat,SetTable.below.go xs j fuel lo hi<=i->xs[i]? = some a->j<=a):=by
 intro fuel
 induction fuel with
 | zero =>
  intro lo hi h1 h2 h3 h4 h5
  have e:lo=hi:=by omega
  subst e
  exact⟨h2,h4,h5⟩
 | succ fuel ih =>
  intro lo hi h1 h2 h3 h4 h5
  unfold SetTable.below.go
  by_cases hl:lo < hi
  ·rw[if_pos hl]
   have hm:(lo+hi) / 2 < xs.size:=by omega
   have e1:xs.getD ((lo+hi) / 2) j=xs[(lo+hi) / 2]:=by simp[Array.getD,hm]
   have e2:xs[(lo+hi) / 2]? = some xs[(lo+hi) / 2]:=Array.getElem?_eq_getElem hm
   dsimp only
   rw[e1]
   by_cases hv:xs[(lo+hi) / 2] < j
   ·rw[if_pos hv]
    refine ih _ _ (by omega) h2 (by omega) (fun i a hq ha=>?_) h5
    by_cases hx:i=(lo+hi) / 2
    ·subst hx;rw[e2] at ha;cases ha;exact hv
    ·exact Nat.lt_trans (hr i _ a _ (by omega) ha e2) hv
   ·rw[if_neg hv]
    refine ih _ _ (by omega) (by omega) (by omega) h4 (fun i a hq ha=>?_)
    by_cases hx:i=(lo+hi) / 2
    ·subst hx;rw[e2] at ha;cases ha;omega
    ·have:=hr _ i _ a (by omega) e2 ha;omega
  ·rw[if_neg hl]
   have e:lo=hi:=by omega
   subst e
   exact⟨h2,h4,h5⟩
theorem Z4 {xs:Array Nat} (hr:Wa xs) (j:Nat):SetTable.below xs j<=xs.size/\(∀ i a:Nat,i < SetTable.below xs j->xs[i]? = some a->a < j)/\(∀ i a:Nat,SetTable.below xs j<=i->xs[i]? = some a->j<=a) :=
 zEK hr xs.size 0 xs.size (Nat.zero_le _) (Nat.le_refl _) (by omega) (fun i a h=>by omega) (fun i a h ha=>by
  rw[Array.getElem?_eq_none h] at ha;cases ha)
theorem JQ {xs:Array Nat} (hr:Wa xs) {i j:Nat} (h:xs[i]? = some j):SetTable.below xs j=i:=by
 obtain⟨h1,h2,h3⟩:=Z4 hr j
 rcases Nat.lt_trichotomy (SetTable.below xs j) i with c | c | c
 ·have hi:i < xs.size:=by
   rcases Nat.lt_or_ge i xs.size with q | q
   ·exact q
   ·rw[Array.getElem?_eq_none q] at h;cases h
  have hb:SetTable.below xs j < xs.size:=by omega
  have e:=Array.getElem?_eq_getElem hb
  have:=hr _ _ _ _ c e h
  have:=h3 _ _ (Nat.le_refl _) e
  omega
 ·exact c
 ·have:=h2 i j c h;omega
theorem W2 {xs:Array Nat} (hr:Wa xs) {i k a:Nat} (h1:xs[i]? = some a) (h2:xs[k]? = some a):i=k:=by
 rw[← JQ hr h1,JQ hr h2]
theorem J9 {t:SetTable} (hr:Wa t.place) (hd:t.dummies = #[]) {i j:Nat} (h:t.place[i]? = some j):t.slot j=.live i:=by
 unfold SetTable.slot
 rw[JQ hr h]
 dsimp only
 rw[h]
 simp
theorem zCC {t:SetTable} (hd:t.dummies = #[]) {j:Nat} (h:∀ i:Nat,t.place[i]? ≠ some j):t.slot j=.empty:=by
 unfold SetTable.slot
 dsimp only
 have e:(t.place[SetTable.below t.place j]? == some j)=false:=by
  cases he:(t.place[SetTable.below t.place j]? == some j) with
  | false=>rfl
  | true=>exact absurd (eq_of_beq he) (h _)
 rw[e,hd]
 simp[SetTable.has]
theorem Qc {α:Type} (xs:Array α) (p:Nat) (x:α) (hp:p<=xs.size) (i:Nat):(SetTable.insertAt xs p x)[i]? = if i < p then xs[i]? else if i=p then some x else xs[i - 1]? := by
 have e:(SetTable.insertAt xs p x).toList=xs.toList.take p++x::xs.toList.drop p:=by
  simp[SetTable.insertAt,List.extract_eq_take_drop,List.take_of_length_le]
 have e2:(SetTable.insertAt xs p x)[i]? = (xs.toList.take p++x::xs.toList.drop p)[i]? := by rw[← e,Array.getElem?_toList]
 have hl:(xs.toList.take p).length=p:=by rw[List.length_take,Array.length_toList];omega
 rw[e2]
 by_cases h1:i < p
 ·rw[if_pos h1,List.getElem?_append_left (by omega),List.getElem?_take_of_lt h1,Array.getElem?_toList]
 ·rw[if_neg h1,List.getElem?_append_right (by omega),hl]
  by_cases h2:i=p
  ·subst h2;simp
  ·rw[if_neg h2]
   obtain⟨d,hd⟩:∃ d,i - p=d+1:=⟨i - p - 1,by omega⟩
   rw[hd,List.getElem?_cons_succ,List.getElem?_drop,Array.getElem?_toList]
   congr 1
   omega
theorem Q0 {α:Type} (xs:Array α) (p:Nat) (x:α):(SetTable.insertAt xs p x).size=xs.size+1:=by
 have e:(SetTable.insertAt xs p x).toList=xs.toList.take p++x::xs.toList.drop p:=by
  simp[SetTable.insertAt,List.extract_eq_take_drop,List.take_of_length_le]
 rw[← Array.length_toList,e,List.length_append,List.length_cons,List.length_take,List.length_drop,Array.length_toList]
 omega
def At (place:Array Nat) {α:Type} (es:Array α) (j:Nat) (e:α):Prop:=∃ i:Nat,place[i]? = some j/\es[i]? = some e
theorem zDz {xs:Array Nat} (hr:Wa xs) {j:Nat} (h:∀ i:Nat,xs[i]? ≠ some j):Wa (SetTable.insertAt xs (SetTable.below xs j) j):=by
 obtain⟨h1,h2,h3⟩:=Z4 hr j
 have h3':∀ i a:Nat,SetTable.below xs j<=i->xs[i]? = some a->j < a:=fun i a hi ha=>by
  have:=h3 i a hi ha
  have:j ≠ a:=fun e=>h i (by rw[ha,e])
  omega
 generalize SetTable.below xs j=p at h1 h2 h3 h3'
 intro i k a b hik ha hb
 rw[Qc _ _ _ h1] at ha hb
 split at ha
 ·split at hb
  ·exact hr i k a b hik ha hb
  ·split at hb
   ·cases hb;exact h2 i a (by assumption) ha
   ·have:=h2 i a (by assumption) ha
    have:=h3' (k - 1) b (by omega) hb
    omega
 ·split at ha
  ·cases ha
   rw[if_neg (by omega),if_neg (by omega)] at hb
   exact h3' (k - 1) b (by omega) hb
  ·rw[if_neg (by omega),if_neg (by omega)] at hb
   exact hr _ _ a b (by omega) ha hb
theorem zHJ {α:Type} {xs:Array Nat} {es:Array α} (hr:Wa xs) (hs:xs.size=es.size) {j:Nat} (h:∀ i:Nat,xs[i]? ≠ some j) (x:α) (j':Nat) (e:α):At (SetTable.insertAt xs (SetTable.below xs j) j) (SetTable.insertAt es (SetTable.below xs j) x) j' e ↔ (j'=j/\e=x)\/At xs es j' e:=by
 obtain⟨h1,-,-⟩:=Z4 hr j
 generalize SetTable.below xs j=p at h1
 constructor
 ·rintro ⟨i,ha,hb⟩
  rw[Qc _ _ _ h1] at ha
  rw[Qc _ _ _ (by omega)] at hb
  split at ha
  ·rw[if_pos (by assumption)] at hb
   exact .inr ⟨i,ha,hb⟩
  ·rw[if_neg (by assumption)] at hb
   split at ha
   ·rw[if_pos (by assumption)] at hb
    cases ha;cases hb;exact .inl ⟨rfl,rfl⟩
   ·rw[if_neg (by assumption)] at hb
    exact .inr ⟨i - 1,ha,hb⟩
 ·rintro (⟨rfl,rfl⟩ | ⟨i,ha,hb⟩)
  ·exact⟨p,by rw[Qc _ _ _ h1,if_neg (by omega),if_pos rfl],by rw[Qc _ _ _ (by omega),if_neg (by omega),if_pos rfl]⟩
  ·by_cases hi:i < p
   ·exact⟨i,by rw[Qc _ _ _ h1,if_pos hi,ha],by rw[Qc _ _ _ (by omega),if_pos hi,hb]⟩
   ·refine⟨i+1,?_,?_⟩
    ·rw[Qc _ _ _ h1,if_neg (by omega),if_neg (by omega)];simpa using ha
    ·rw[Qc _ _ _ (by omega),if_neg (by omega),if_neg (by omega)];simpa using hb
def adv (mask:Nat) (p:SetTable.Probe):SetTable.Probe :=
 if p.more > 0 then { p with j:=p.j+1,more:=p.more - 1 } else
 { p with j:=(SetTable.leap mask p.i p.perturb).1,more:=SetTable.runEnd mask (SetTable.leap mask p.i p.perturb).1 - (SetTable.leap mask p.i p.perturb).1,i:=(SetTable.leap mask p.i p.perturb).1,perturb:=(SetTable.leap mask p.i p.perturb).2 }
theorem zBf (t:SetTable) (p:SetTable.Probe):t.advance p=adv t.mask p:=rfl
def sta (mask i q:Nat):SetTable.Probe:={ j:=i,more:=SetTable.runEnd mask i - i,i:=i,perturb:=q,dummy:=none }
def sq (mask:Nat) (h:Int):Nat->SetTable.Probe
 | 0=>sta mask (SetTable.bits h % (mask+1)) (SetTable.bits h)
 | n+1=>adv mask (sq mask h n)
theorem zEj (t:SetTable) (h:Int):t.probeStart h=sq t.mask h 0:=rfl
def itr (mask:Nat):Nat->SetTable.Probe->SetTable.Probe
 | 0,p=>p
 | n+1,p=>itr mask n (adv mask p)
theorem Wo (mask m:Nat):∀ (n:Nat) (p:SetTable.Probe),itr mask m (itr mask n p)=itr mask (n+m) p
 | 0,p=>by rw[Nat.zero_add];rfl
 | n+1,p=>by
  rw[show n+1+m=(n+m)+1 by omega]
  exact Wo mask m n (adv mask p)
theorem zAf (mask:Nat) (h:Int) (n:Nat):∀ m,sq mask h (n+m)=itr mask m (sq mask h n):=by
 intro m
 induction m generalizing n with
 | zero=>rfl
 | succ m ih =>
  rw[show n+(m+1)=(n+1)+m by omega,ih]
  rfl
theorem zFf (mask i:Nat):SetTable.runEnd mask i - i<=9:=by unfold SetTable.runEnd;split <;> omega
structure Ok (mask:Nat) (p:SetTable.Probe):Prop where
 jle:p.j+p.more<=mask
 ile:p.i<=mask
 mle:p.more<=9
 per:p.perturb < 2 ^ 64
 dum:p.dummy=none
theorem zAL {mask i q:Nat} (hi:i<=mask) (hq:q < 2 ^ 64):Ok mask (sta mask i q):=by
 refine⟨?_,hi,zFf _ _,hq,rfl⟩
 show i+(SetTable.runEnd mask i - i)<=mask
 unfold SetTable.runEnd
 split <;> omega
theorem Zl {mask:Nat} {p:SetTable.Probe} (h:0 < p.more):adv mask p={ p with j:=p.j+1,more:=p.more - 1 }:=by
 unfold adv;rw[if_pos h]
theorem zA2 {mask:Nat} {p:SetTable.Probe} (h:p.more=0) (hd:p.dummy=none):adv mask p=sta mask ((p.i*5+1+p.perturb / 32) % (mask+1)) (p.perturb / 32):=by
 unfold adv
 rw[if_neg (by omega)]
 unfold sta
 rw[← hd]
 rfl
theorem zCV {mask:Nat} {p:SetTable.Probe} (h:Ok mask p):Ok mask (adv mask p):=by
 by_cases c:p.more=0
 ·rw[zA2 c h.dum]
  exact zAL (by have:=Nat.mod_lt (p.i*5+1+p.perturb / 32) (show 0 < mask+1 by omega);omega) (by have:=h.per;omega)
 ·rw[Zl (by omega)]
  have h1:=h.jle
  have h2:=h.mle
  exact⟨by show p.j+1+(p.more - 1)<=mask;omega,h.ile,by show p.more - 1<=9;omega,h.per,h.dum⟩
theorem W4 (h:Int):SetTable.bits h < 2 ^ 64:=by
 unfold SetTable.bits
 have h1:0<=h % (2 ^ 64:Int):=Int.emod_nonneg _ (by decide)
 have h2:h % (2 ^ 64:Int) < 2 ^ 64:=Int.emod_lt_of_pos _ (by decide)
 omega
theorem JP (mask:Nat) (h:Int):∀ n,Ok mask (sq mask h n)
 | 0=>zAL (by have:=Nat.mod_lt (SetTable.bits h) (show 0 < mask+1 by omega);omega) (W4 h)
 | n+1=>zCV (JP mask h n)
theorem We {mask:Nat}:∀ (d:Nat) (p:SetTable.Probe),p.more=d->Ok mask p->itr mask (d+1) p=sta mask ((p.i*5+1+p.perturb / 32) % (mask+1)) (p.perturb / 32)
 | 0,p,e,h=>zA2 e h.dum
 | d+1,p,e,h=>by
  have e2:=We d (adv mask p) (by rw[Zl (by omega)];show p.more - 1=d;omega) (zCV h)
  show itr mask (d+1) (adv mask p)=_
  rw[e2,Zl (by omega)]
def lps (mask:Nat):Nat->Nat × Nat->Nat × Nat
 | 0,x=>x
 | r+1,x=>lps mask r ((x.1*5+1+x.2 / 32) % (mask+1),x.2 / 32)
theorem zC5 (mask m:Nat):∀ (n:Nat) (x:Nat × Nat),lps mask m (lps mask n x)=lps mask (n+m) x
 | 0,x=>by rw[Nat.zero_add];rfl
 | n+1,x=>by
  rw[show n+1+m=(n+m)+1 by omega]
  exact zC5 mask m n _
theorem zCl (mask:Nat):∀ (r:Nat) (x:Nat × Nat),(lps mask r x).2=x.2 / 32 ^ r
 | 0,x=>by simp[lps]
 | r+1,x=>by
  show (lps mask r _).2=_
  rw[zCl mask r,Nat.div_div_eq_div_mul,Nat.pow_succ,Nat.mul_comm]
theorem zCh {mask:Nat}:∀ (r i q:Nat),i<=mask->q < 2 ^ 64->∃ n,n<=10*r/\itr mask n (sta mask i q)=sta mask (lps mask r (i,q)).1 (lps mask r (i,q)).2
 | 0,i,q,_,_=>⟨0,Nat.le_refl _,rfl⟩
 | r+1,i,q,hi,hq=>by
  have h0:=zAL hi hq
  have e:=We _ _ rfl h0
  obtain⟨n,hn,en⟩:=zCh (mask:=mask) r ((i*5+1+q / 32) % (mask+1)) (q / 32) (by have:=Nat.mod_lt (i*5+1+q / 32) (show 0 < mask+1 by omega);omega) (by omega)
  refine⟨(sta mask i q).more+1+n,by have:=h0.mle;omega,?_⟩
  rw[← Wo,e]
  exact en
def lc (mask:Nat):Nat->Nat->Nat
 | 0,i=>i
 | r+1,i=>lc mask r ((i*5+1) % (mask+1))
theorem zFB (mask:Nat):∀ (r i:Nat),lps mask r (i,0)=(lc mask r i,0)
 | 0,i=>rfl
 | r+1,i=>by
  show lps mask r ((i*5+1+0 / 32) % (mask+1),0 / 32)=_
  rw[show (0:Nat) / 32=0 by decide,Nat.add_zero,zFB]
  rfl
def M3 (mask:Nat):Prop:=mask=7\/mask=31\/mask=127
theorem zAS (mask m:Nat):∀ (n i:Nat),lc mask m (lc mask n i)=lc mask (n+m) i
 | 0,i=>by rw[Nat.zero_add];rfl
 | n+1,i=>by
  rw[show n+1+m=(n+m)+1 by omega]
  exact zAS mask m n _
def zH7 (mask:Nat):Bool:=(List.range (mask+1)).all fun j=>(List.range (mask+1)).any fun r=>lc mask r 0 == j
theorem zFE {mask:Nat} (h:M3 mask):zH7 mask=true/\lc mask (mask+1) 0=0:=by
 rcases h with rfl | rfl | rfl <;> exact⟨by decide +kernel,by decide +kernel⟩
end L2
namespace L2
open PySem
theorem zED {mask:Nat} (hm:M3 mask) {i j:Nat} (hi:i<=mask) (hj:j<=mask):∃ r,r<=mask/\lc mask r i=j:=by
 obtain⟨h1,h2⟩:=zFE hm
 have z:∀ i:Nat,i<=mask->∃ a,a<=mask/\lc mask a 0=i:=fun i hi=>by
  have:=List.all_eq_true.mp h1 i (List.mem_range.mpr (by omega))
  obtain⟨a,ha,e⟩:=List.any_eq_true.mp this
  exact⟨a,by have:=List.mem_range.mp ha;omega,eq_of_beq e⟩
 obtain⟨a,ha,ea⟩:=z i hi
 obtain⟨b,hb,eb⟩:=z j hj
 by_cases c:a<=b
 ·refine⟨b - a,by omega,?_⟩
  rw[← ea,zAS,show a+(b - a)=b by omega,eb]
 ·refine⟨mask+1 - a+b,by omega,?_⟩
  rw[← ea,zAS,show a+(mask+1 - a+b)=(mask+1)+b by omega,← zAS,h2,eb]
theorem J5 {mask:Nat} (hm:M3 mask) {i q j:Nat} (hi:i<=mask) (hq:q < 2 ^ 64) (hj:j<=mask):∃ r,r<=13+mask/\(lps mask r (i,q)).1=j:=by
 have e1:(lps mask 13 (i,q)).2=0:=by
  rw[zCl]
  exact Nat.div_eq_of_lt (Nat.lt_of_lt_of_le hq (by decide))
 have hle:∀ (r:Nat) (x:Nat × Nat),x.1<=mask->(lps mask r x).1<=mask:=by
  intro r
  induction r with
  | zero=>exact fun x h=>h
  | succ r ih=>exact fun x h=>ih _ (by have:=Nat.mod_lt (x.1*5+1+x.2 / 32) (show 0 < mask+1 by omega);show (x.1*5+1+x.2 / 32) % (mask+1)<=mask;omega)
 obtain⟨r,hr,e⟩:=zED hm (hle 13 (i,q) hi) hj
 refine⟨13+r,by omega,?_⟩
 rw[← zC5]
 have e2:lps mask 13 (i,q)=((lps mask 13 (i,q)).1,0):=Prod.ext rfl e1
 rw[e2,zFB]
 exact e
theorem zDM {mask:Nat} (hm:M3 mask) {p:SetTable.Probe} (hp:Ok mask p) {j:Nat} (hj:j<=mask):∃ n,n < 10*SetTable.turns mask/\(itr mask n p).j=j:=by
 have e:=We _ p rfl hp
 have hi:(p.i*5+1+p.perturb / 32) % (mask+1)<=mask:=by have:=Nat.mod_lt (p.i*5+1+p.perturb / 32) (show 0 < mask+1 by omega);omega
 have hq:p.perturb / 32 < 2 ^ 64:=by have:=hp.per;omega
 obtain⟨r,hr,er⟩:=J5 hm hi hq hj
 obtain⟨n,hn,en⟩:=zCh (mask:=mask) r _ _ hi hq
 refine⟨p.more+1+n,?_,?_⟩
 ·have:=hp.mle
  unfold SetTable.turns
  omega
 ·rw[← Wo,e,en,er]
  rfl
theorem zHY {P:Nat->Prop}:∀ {n:Nat},P n->∃ m,m<=n/\P m/\∀ k,k < m->¬P k:=by
 intro n
 induction n using Nat.strongRecOn with
 | _ n ih =>
  intro h
  by_cases c:∃ k,k < n/\P k
  ·obtain⟨k,hk,hP⟩:=c
   obtain⟨m,h1,h2,h3⟩:=ih k hk hP
   exact⟨m,by omega,h2,h3⟩
  ·exact⟨n,Nat.le_refl _,h,fun k hk hP=>c ⟨k,hk,hP⟩⟩
theorem zC8 {xs:Array Nat} (hr:Wa xs) {mask:Nat} (hs:xs.size<=mask):∃ j,j<=mask/\∀ i:Nat,xs[i]? ≠ some j:=by
 refine Classical.byContradiction fun hno=>?_
 have h:∀ j,j<=mask->∃ i:Nat,xs[i]? = some j:=fun j hj=>Classical.byContradiction fun hn=>hno ⟨j,hj,fun i e=>hn ⟨i,e⟩⟩
 have z:∀ j,j<=mask->∀ i:Nat,xs[i]? = some j->j<=i:=by
  intro j
  induction j with
  | zero=>intros;omega
  | succ j ih =>
   intro hj i hi
   obtain⟨i',hi'⟩:=h j (by omega)
   have:=ih (by omega) i' hi'
   rcases Nat.lt_trichotomy i i' with c | c | c
   ·have:=hr _ _ _ _ c hi hi';omega
   ·subst c;rw[hi] at hi';cases hi'
   ·omega
 obtain⟨i,hi⟩:=h mask (Nat.le_refl _)
 have:=z mask (Nat.le_refl _) i hi
 rw[Array.getElem?_eq_none (by omega)] at hi
 cases hi
theorem zC3 {t:SetTable} (hr:Wa t.place) (hd:t.dummies = #[]) (hashAt:Nat->Int) (h:Int):∀ (fuel:Nat) (p:SetTable.Probe),Ok t.mask p->∀ N,N < fuel->(∀ i:Nat,t.place[i]? ≠ some (itr t.mask N p).j)->(∀ m,m < N->∃ i:Nat,t.place[i]? = some (itr t.mask m p).j) ->
  (SetTable.probe.go t hashAt h fuel p=some (.empty (itr t.mask N p).j none)/\∀ m,m < N->∀ i:Nat,t.place[i]? = some (itr t.mask m p).j->hashAt i ≠ h) \/
  (∃ m i:Nat,m < N/\t.place[i]? = some (itr t.mask m p).j/\hashAt i=h/\SetTable.probe.go t hashAt h fuel p=some (.candidate (itr t.mask m p).j i (itr t.mask (m+1) p))/\∀ m',m' < m->∀ i:Nat,t.place[i]? = some (itr t.mask m' p).j->hashAt i ≠ h):=by
 intro fuel
 induction fuel with
 | zero=>intro p _ N hN;omega
 | succ fuel ih =>
  intro p hp N hN he hl
  cases N with
  | zero =>
   refine .inl ⟨?_,fun m hm=>by omega⟩
   unfold SetTable.probe.go
   have e:t.slot p.j=.empty:=zCC hd he
   rw[e]
   show some (SetTable.Met.empty p.j p.dummy)=some (SetTable.Met.empty p.j none)
   rw[hp.dum]
  | succ N =>
   obtain⟨i,hi⟩:=hl 0 (by omega)
   have hi:t.place[i]? = some p.j:=hi
   have e:t.slot p.j=.live i:=J9 hr hd hi
   unfold SetTable.probe.go
   rw[e]
   dsimp only
   by_cases c:hashAt i=h
   ·refine .inr ⟨0,i,by omega,hi,c,?_,fun m' hm'=>by omega⟩
    rw[c,if_pos (by simp)]
    rfl
   ·rw[if_neg (by simpa using c),zBf]
    rcases ih (adv t.mask p) (zCV hp) N (by omega) he (fun m hm=>hl (m+1) (by omega)) with ⟨a1,a2⟩ | ⟨m,i',a1,a2,a3,a4,a5⟩
    ·refine .inl ⟨a1,fun m hm i' hi'=>?_⟩
     cases m with
     | zero =>
      have:=W2 hr hi hi'
      subst this
      exact c
     | succ m=>exact a2 m (by omega) i' hi'
    ·refine .inr ⟨m+1,i',by omega,a2,a3,a4,fun m' hm' i'' hi''=>?_⟩
     cases m' with
     | zero =>
      have:=W2 hr hi hi''
      subst this
      exact c
     | succ m'=>exact a5 m' (by omega) i'' hi''
structure TInv (t:SetTable) (es:Array (Int × Value)):Prop where
 m3:M3 t.mask
 dum:t.dummies = #[]
 rise:Wa t.place
 size:t.place.size=es.size
 le:∀ i j:Nat,t.place[i]? = some j->j<=t.mask
 reach:∀ (j:Nat) (e:Int × Value),At t.place es j e->∃ n,(sq t.mask e.1 n).j=j/\∀ m,m < n->∃ i:Nat,t.place[i]? = some (sq t.mask e.1 m).j
 room:es.size<=t.mask
def zEL (t:SetTable) (h:Int) (N:Nat):Prop:=(∀ i:Nat,t.place[i]? ≠ some (sq t.mask h N).j)/\∀ m,m < N->∃ i:Nat,t.place[i]? = some (sq t.mask h m).j
theorem zCj {t:SetTable} {es:Array (Int × Value)} (I:TInv t es) (h:Int):∃ N,zEL t h N/\∀ n,n<=N->N - n < 10*SetTable.turns t.mask:=by
 obtain⟨j,hj,hb⟩:=zC8 I.rise (mask:=t.mask) (by rw[I.size];exact I.room)
 have z:∀ n,∃ m,m < 10*SetTable.turns t.mask/\(sq t.mask h (n+m)).j=j:=fun n=>by
  obtain⟨m,h1,h2⟩:=zDM I.m3 (JP t.mask h n) hj
  exact⟨m,h1,by rw[zAf];exact h2⟩
 obtain⟨m0,_,e0⟩:=z 0
 obtain⟨N,h1,h2,h3⟩:=zHY (P:=fun n=>∀ i:Nat,t.place[i]? ≠ some (sq t.mask h n).j) (n:=0+m0) (by rw[e0];exact hb)
 refine⟨N,⟨h2,fun m hm=>Classical.byContradiction fun hn=>h3 m hm fun i e=>hn ⟨i,e⟩⟩,fun n hn=>?_⟩
 obtain⟨m,hm,em⟩:=z n
 have:N<=n+m:=Classical.byContradiction fun hc=>h3 (n+m) (by omega) (by rw[em];exact hb)
 omega
theorem zFz {t:SetTable} {es:Array (Int × Value)} (I:TInv t es) (h:Int) (N:Nat):(sq t.mask h N).j<=t.mask:=by
 have:=(JP t.mask h N).jle;omega
theorem zGc {t:SetTable} {es:Array (Int × Value)} (I:TInv t es) {N j:Nat} {e:Int × Value} (hb:zEL t e.1 N) (ha:At t.place es j e):∃ n,n < N/\(sq t.mask e.1 n).j=j:=by
 obtain⟨n,h1,h2⟩:=I.reach j e ha
 obtain⟨i,hi,_⟩:=ha
 refine⟨n,?_,h1⟩
 rcases Nat.lt_trichotomy n N with c | c | c
 ·exact c
 ·subst c;exact absurd hi (h1 ▸ hb.1 i)
 ·obtain⟨i',hi'⟩:=h2 N c;exact absurd hi' (hb.1 i')
theorem zD3 {t:SetTable} (hd:t.dummies = #[]) (j:Nat):t.put j=({ t with place:=SetTable.insertAt t.place (SetTable.below t.place j) j },SetTable.below t.place j):=by
 unfold SetTable.put
 dsimp only
 rw[hd]
 simp[SetTable.has]
theorem zCg {t:SetTable} {es:Array (Int × Value)} (I:TInv t es) {h:Int} {N:Nat} (hb:zEL t h N) (x:Value) (hroom:es.size+1<=t.mask):TInv { t with place:=SetTable.insertAt t.place (SetTable.below t.place (sq t.mask h N).j) (sq t.mask h N).j } (SetTable.insertAt es (SetTable.below t.place (sq t.mask h N).j) (h,x)):=by
 have hat:=zHJ I.rise I.size hb.1 (h,x)
 obtain⟨hp,-,-⟩:=Z4 I.rise (sq t.mask h N).j
 have hmono:∀ j:Nat,(∃ i:Nat,t.place[i]? = some j)->∃ i:Nat,(SetTable.insertAt t.place (SetTable.below t.place (sq t.mask h N).j) (sq t.mask h N).j)[i]? = some j:=fun j ⟨i,hi⟩=>by
  have hlt:i < es.size:=by
   rw[← I.size]
   rcases Nat.lt_or_ge i t.place.size with q | q
   ·exact q
   ·rw[Array.getElem?_eq_none q] at hi;cases hi
  obtain⟨i',h1,_⟩:=(hat j es[i]).mpr (.inr ⟨i,hi,Array.getElem?_eq_getElem hlt⟩)
  exact⟨i',h1⟩
 refine⟨I.m3,I.dum,zDz I.rise hb.1,?_,?_,?_,?_⟩
 ·rw[Q0,Q0,I.size]
 ·intro i j hi
  have hi:(SetTable.insertAt t.place (SetTable.below t.place (sq t.mask h N).j) (sq t.mask h N).j)[i]? = some j:=hi
  rw[Qc _ _ _ hp] at hi
  split at hi
  ·exact I.le _ _ hi
  ·split at hi
   ·cases hi;exact zFz I h N
   ·exact I.le _ _ hi
 ·intro j e ha
  rcases (hat j e).mp ha with ⟨rfl,rfl⟩ | ha
  ·exact⟨N,rfl,fun m hm=>hmono _ (hb.2 m hm)⟩
  ·obtain⟨n,h1,h2⟩:=I.reach j e ha
   exact⟨n,h1,fun m hm=>hmono _ (h2 m hm)⟩
 ·rw[Q0];exact hroom
theorem Q6 {t:SetTable} {es:Array (Int × Value)} (I:TInv t es):t.fits es.size=true:=by
 unfold SetTable.fits SetTable.fill
 rw[I.dum,I.size]
 simpa using I.room
theorem zEp {t:SetTable} {es:Array (Int × Value)} (I:TInv t es):t.gaveWay=false:=by
 unfold SetTable.gaveWay
 rcases I.m3 with e | e | e <;> rw[e] <;> decide
theorem zAw {t:SetTable} {es:Array (Int × Value)} (I:TInv t es) {h:Int} {N:Nat} (hb:zEL t h N) (hN:N < 10*SetTable.turns t.mask):t.freeSlot h=some ((sq t.mask h N).j,false):=by
 unfold SetTable.freeSlot SetTable.probe
 rw[zEj]
 have e0:∀ m,sq t.mask h m=itr t.mask m (sq t.mask h 0):=fun m=>by rw[← zAf,Nat.zero_add]
 rcases zC3 I.rise I.dum (fun _=>h+1) h (10*SetTable.turns t.mask) (sq t.mask h 0) (JP _ _ _) N hN (by rw[← e0];exact hb.1) (fun m hm=>by rw[← e0];exact hb.2 m hm) with ⟨a,_⟩ | ⟨m,i,_,_,hc,_⟩
 ·rw[a,← e0];rfl
 ·exact absurd hc (by omega)
end L2
namespace L2
open PySem
theorem zCn {mask:Nat}:∀ (k:Nat) (p:SetTable.Probe),k<=p.more->itr mask k p={ p with j:=p.j+k,more:=p.more - k }
 | 0,p,_=>rfl
 | k+1,p,h=>by
  show itr mask k (adv mask p)=_
  rw[Zl (by omega),zCn k _ (by show k<=p.more - 1;omega)]
  show ({ p with j:=p.j+1+k,more:=p.more - 1 - k }:SetTable.Probe)=_
  rw[show p.j+1+k=p.j+(k+1) by omega,show p.more - 1 - k=p.more - (k+1) by omega]
theorem zDS {mask:Nat} {owner:Array (Option Nat)} (hs:owner.size=mask+1):∀ (fuel i q:Nat),i<=mask->q < 2 ^ 64->(∃ r,r < fuel/\owner[(lps mask r (i,q)).1]? = some none) ->
  ∃ N,SetTable.layClean.free mask owner fuel i q=some (itr mask N (sta mask i q)).j/\owner[(itr mask N (sta mask i q)).j]? = some none/\∀ m,m < N->owner[(itr mask m (sta mask i q)).j]? ≠ some none:=by
 intro fuel
 induction fuel with
 | zero=>rintro i q _ _ ⟨r,hr,_⟩;omega
 | succ fuel ih =>
  rintro i q hi hq ⟨r,hr,er⟩
  have h0:=zAL hi hq
  have hle:i<=SetTable.runEnd mask i:=by unfold SetTable.runEnd;split <;> omega
  have hend:SetTable.runEnd mask i<=mask:=by unfold SetTable.runEnd;split <;> omega
  have hmore:(sta mask i q).more=SetTable.runEnd mask i - i:=rfl
  have hrun:∀ k,k<=SetTable.runEnd mask i - i->(itr mask k (sta mask i q)).j=i+k:=fun k hk=>by
   rw[zCn k _ hk];rfl
  have hnone:∀ k,k<=SetTable.runEnd mask i - i->((owner.getD (i+k) (some 0)).isNone=true ↔ owner[i+k]? = some none):=fun k hk=>by
   have hlt:i+k < owner.size:=by omega
   have e:owner.getD (i+k) (some 0)=owner[i+k]:=by simp[Array.getD,hlt]
   rw[e,Array.getElem?_eq_getElem hlt]
   constructor
   ·intro h;rw[Option.isNone_iff_eq_none.mp h]
   ·intro h;injection h with h;rw[h];rfl
  unfold SetTable.layClean.free
  cases hf:(List.range (SetTable.runEnd mask i+1 - i)).find? fun k=>(owner.getD (i+k) (some 0)).isNone with
  | some k =>
   obtain⟨a1,a2,a3⟩:=List.find?_range_eq_some.mp hf
   have hk:k<=SetTable.runEnd mask i - i:=by have:=List.mem_range.mp a2;omega
   refine⟨k,?_,?_,fun m hm=>?_⟩
   ·rw[hrun k hk]
   ·rw[hrun k hk];exact (hnone k hk).mp a1
   ·rw[hrun m (by omega)]
    intro e
    have:=a3 m hm
    rw[(hnone m (by omega)).mpr e] at this
    cases this
  | none =>
   have a:=List.find?_range_eq_none.mp hf
   have hocc:∀ k,k<=SetTable.runEnd mask i - i->owner[i+k]? ≠ some none:=fun k hk e=>by
    have:=a k (by omega)
    rw[(hnone k hk).mpr e] at this
    cases this
   cases r with
   | zero=>exact absurd er (hocc 0 (by omega))
   | succ r =>
    have e:=We _ _ rfl h0
    obtain⟨N,b1,b2,b3⟩:=ih ((i*5+1+q / 32) % (mask+1)) (q / 32) (by have:=Nat.mod_lt (i*5+1+q / 32) (show 0 < mask+1 by omega);omega) (by omega) ⟨r,by omega,er⟩
    have e':∀ m,itr mask (SetTable.runEnd mask i - i+1+m) (sta mask i q)=itr mask m (sta mask ((i*5+1+q / 32) % (mask+1)) (q / 32)):=fun m=>by
     rw[← Wo]
     have e:itr mask (SetTable.runEnd mask i - i+1) (sta mask i q)=_:=e
     rw[e]
     rfl
    refine⟨SetTable.runEnd mask i - i+1+N,?_,?_,fun m hm=>?_⟩
    ·rw[e'];exact b1
    ·rw[e'];exact b2
    ·by_cases c:m<=SetTable.runEnd mask i - i
     ·rw[hrun m c];exact hocc m c
     ·obtain⟨d,hd⟩:∃ d,m=SetTable.runEnd mask i - i+1+d:=⟨m - (SetTable.runEnd mask i - i+1),by omega⟩
      subst hd
      rw[e']
      exact b3 d (by omega)
structure OInv (mask:Nat) (owner:Array (Option Nat)) (hs:List Int):Prop where
 size:owner.size=mask+1
 cnt:owner.toList.count none=mask+1 - hs.length
 all:∀ k,k < hs.length->∃ j:Nat,owner[j]? = some (some k)
 one:∀ j j' k:Nat,owner[j]? = some (some k)->owner[j']? = some (some k)->j=j'
 reach:∀ j k:Nat,owner[j]? = some (some k)->∃ (h:Int) (n:Nat),hs[k]? = some h/\(sq mask h n).j=j/\∀ m,m < n->owner[(sq mask h m).j]? ≠ some none
theorem zE3 (mask:Nat):OInv mask (Array.replicate (mask+1) none) []:=by
 refine⟨by simp,?_,fun k hk=>by simp at hk,fun j j' k h=>?_,fun j k h=>?_⟩
 ·simp
 ·simp[Array.getElem?_replicate] at h
 ·simp[Array.getElem?_replicate] at h
theorem zEx {mask:Nat} (hm:M3 mask) {owner:Array (Option Nat)} {hs:List Int} (I:OInv mask owner hs) (hl:hs.length<=mask) (h:Int):∃ j,SetTable.layClean.free mask owner (SetTable.turns mask) (SetTable.bits h % (mask+1)) (SetTable.bits h)=some j/\OInv mask (owner.setIfInBounds j (some hs.length)) (hs++[h]):=by
 have hpos:0 < owner.toList.count none:=by rw[I.cnt];omega
 obtain⟨j0,hj0⟩:=List.mem_iff_getElem?.mp (List.count_pos_iff.mp hpos)
 rw[Array.getElem?_toList] at hj0
 have hj0':j0<=mask:=by
  rcases Nat.lt_or_ge j0 owner.size with q | q
  ·rw[I.size] at q;omega
  ·rw[Array.getElem?_eq_none q] at hj0;cases hj0
 have hi:SetTable.bits h % (mask+1)<=mask:=by have:=Nat.mod_lt (SetTable.bits h) (show 0 < mask+1 by omega);omega
 obtain⟨r,hr,er⟩:=J5 hm hi (W4 h) hj0'
 obtain⟨N,b1,b2,b3⟩:=zDS I.size (SetTable.turns mask) _ _ hi (W4 h) ⟨r,by unfold SetTable.turns;omega,by rw[er];exact hj0⟩
 have e0:∀ m,itr mask m (sta mask (SetTable.bits h % (mask+1)) (SetTable.bits h))=sq mask h m:=fun m=>by
  have:=zAf mask h 0 m
  rw[Nat.zero_add] at this
  rw[this]
  rfl
 rw[e0] at b1 b2
 simp only[e0] at b3
 have hlt:(sq mask h N).j < owner.size:=by have:=(JP mask h N).jle;rw[I.size];omega
 refine⟨_,b1,?_⟩
 generalize hj:(sq mask h N).j=j at *
 have hget:∀ j':Nat,(owner.setIfInBounds j (some hs.length))[j']? = if j=j' then some (some hs.length) else owner[j']? := fun j'=>by
  rw[Array.getElem?_setIfInBounds]
  by_cases c:j=j'
  ·subst c;rw[if_pos rfl,if_pos rfl,if_pos hlt]
  ·rw[if_neg c,if_neg c]
 have hkeep:∀ j' k:Nat,owner[j']? = some (some k)->(owner.setIfInBounds j (some hs.length))[j']? = some (some k):=fun j' k e=>by
  rw[hget,if_neg (fun c=>by subst c;rw[b2] at e;cases e)]
  exact e
 have hocc:∀ j':Nat,owner[j']? ≠ some none->(owner.setIfInBounds j (some hs.length))[j']? ≠ some none:=fun j' e=>by
  rw[hget]
  by_cases c:j=j'
  ·rw[if_pos c];intro q;cases q
  ·rw[if_neg c];exact e
 have hklt:∀ j' k:Nat,owner[j']? = some (some k)->k < hs.length:=fun j' k e=>by
  obtain⟨h',n,e1,_⟩:=I.reach j' k e
  rcases Nat.lt_or_ge k hs.length with q | q
  ·exact q
  ·rw[List.getElem?_eq_none q] at e1;cases e1
 refine⟨?_,?_,?_,?_,?_⟩
 ·rw[Array.size_setIfInBounds];exact I.size
 ·have hlt':j < owner.toList.length:=by rw[Array.length_toList];exact hlt
  have ej:owner.toList[j]=none:=by
   have:owner.toList[j]? = some none:=by rw[Array.getElem?_toList];exact b2
   rw[List.getElem?_eq_getElem hlt'] at this
   injection this
  rw[Array.toList_setIfInBounds,List.count_set hlt',ej,I.cnt,List.length_append]
  simp
  omega
 ·intro k hk
  rw[List.length_append,List.length_singleton] at hk
  by_cases c:k=hs.length
  ·subst c;exact⟨j,by rw[hget,if_pos rfl]⟩
  ·obtain⟨j',e⟩:=I.all k (by omega)
   exact⟨j',hkeep j' k e⟩
 ·intro j1 j2 k e1 e2
  rw[hget] at e1 e2
  split at e1
  ·split at e2
   ·omega
   ·injection e1 with e1;injection e1 with e1;subst e1
    have:=hklt _ _ e2;omega
  ·split at e2
   ·injection e2 with e2;injection e2 with e2;subst e2
    have:=hklt _ _ e1;omega
   ·exact I.one _ _ _ e1 e2
 ·intro j' k e
  rw[hget] at e
  split at e
  ·injection e with e;injection e with e;subst e
   rename_i c
   subst c
   exact⟨h,N,by rw[List.getElem?_append_right (Nat.le_refl _)];simp,hj,fun m hm=>hocc _ (b3 m hm)⟩
  ·obtain⟨h',n,e1,e2,e3⟩:=I.reach j' k e
   exact⟨h',n,by rw[List.getElem?_append_left (hklt _ _ e)];exact e1,e2,fun m hm=>hocc _ (e3 m hm)⟩
def Zm (mask:Nat) (acc:Option (Array (Option Nat) × Nat)) (h:Int):Option (Array (Option Nat) × Nat):=do
  let (owner,k) ← acc
  let j ← SetTable.layClean.free mask owner (SetTable.turns mask) (SetTable.bits h % (mask+1)) (SetTable.bits h)
  pure (owner.setIfInBounds j (some k),k+1)
theorem zA5 {mask:Nat} (hm:M3 mask):∀ (l hs:List Int) (owner:Array (Option Nat)),OInv mask owner hs->hs.length+l.length<=mask->∃ owner',l.foldl (Zm mask) (some (owner,hs.length))=some (owner',(hs++l).length)/\OInv mask owner' (hs++l)
 | [],hs,owner,I,_=>⟨owner,by simp,by simpa using I⟩
 | h::l,hs,owner,I,hl=>by
  rw[List.length_cons] at hl
  obtain⟨j,e,I'⟩:=zEx hm I (by omega) h
  obtain⟨owner',e2,I2⟩:=zA5 hm l (hs++[h]) _ I' (by rw[List.length_append,List.length_singleton];omega)
  refine⟨owner',?_,by rw[List.append_assoc] at I2;exact I2⟩
  rw[List.foldl_cons]
  have e1:Zm mask (some (owner,hs.length)) h=some (owner.setIfInBounds j (some hs.length),(hs++[h]).length):=by
   unfold Zm
   show (SetTable.layClean.free mask owner (SetTable.turns mask) (SetTable.bits h % (mask+1)) (SetTable.bits h) >>= _)=_
   rw[e,List.length_append,List.length_singleton]
   rfl
  rw[e1,e2,List.append_assoc]
  rfl
theorem Jj {mask:Nat} (hm:M3 mask) (hs:Array Int) (hl:hs.size<=mask):∃ owner,SetTable.layClean mask hs=some owner/\OInv mask owner hs.toList:=by
 obtain⟨owner,e,I⟩:=zA5 hm hs.toList [] _ (zE3 mask) (by simpa using hl)
 refine⟨owner,?_,by simpa using I⟩
 unfold SetTable.layClean
 have e:hs.toList.foldl (Zm mask) (some (Array.replicate (mask+1) none,0))=_:=e
 rw[← Array.foldl_toList]
 show (hs.toList.foldl (Zm mask) (some (Array.replicate (mask+1) none,0))).map (·.1)=_
 rw[e]
 rfl
def Ql (mask:Nat) (owner:Array (Option Nat)):List (Nat × Nat):=(List.range (mask+1)).filterMap fun j=>(owner.getD j none).map (j,·)
theorem getD_none {owner:Array (Option Nat)} {j k:Nat}:owner.getD j none=some k ↔ owner[j]? = some (some k):=by
 rw[Array.getD_eq_getD_getElem?]
 cases owner[j]? with
 | none=>simp
 | some o=>simp
theorem YF {mask:Nat} {owner:Array (Option Nat)} (hs:owner.size=mask+1) {j k:Nat}:(j,k)∈Ql mask owner ↔ owner[j]? = some (some k):=by
 unfold Ql
 rw[List.mem_filterMap]
 constructor
 ·rintro ⟨a,_,e⟩
  cases ho:owner.getD a none with
  | none=>rw[ho] at e;cases e
  | some k' =>
   rw[ho] at e
   injection e with e
   injection e with e1 e2
   subst e1;subst e2
   exact getD_none.mp ho
 ·intro e
  refine⟨j,List.mem_range.mpr ?_,by rw[getD_none.mpr e];rfl⟩
  rw[← hs]
  rcases Nat.lt_or_ge j owner.size with q | q
  ·exact q
  ·rw[Array.getElem?_eq_none q] at e;cases e
theorem JW (mask:Nat) (owner:Array (Option Nat)):(Ql mask owner).Pairwise fun a b=>a.1 < b.1:=by
 unfold Ql
 rw[List.pairwise_filterMap]
 refine List.Pairwise.imp ?_ (List.pairwise_lt_range (n:=mask+1))
 intro a b hab x hx y hy
 have z:∀ (a:Nat) (x:Nat × Nat),(owner.getD a none).map (a,·)=some x->x.1=a:=fun a x h=>by
  cases ho:owner.getD a none with
  | none=>rw[ho] at h;cases h
  | some k=>rw[ho] at h;injection h with h;rw[← h]
 rw[z a x hx,z b y hy]
 exact hab
theorem Y6 {mask:Nat} {owner:Array (Option Nat)} (i:Nat):(((Ql mask owner).map (·.1)).toArray)[i]? = (Ql mask owner)[i]?.map (·.1)/\(((Ql mask owner).map (·.2)).toArray)[i]? = (Ql mask owner)[i]?.map (·.2):=by
 constructor <;> simp
theorem zCB (mask:Nat) (owner:Array (Option Nat)):Wa ((Ql mask owner).map (·.1)).toArray:=by
 intro i k a b hik ha hb
 rw[(Y6 i).1] at ha
 rw[(Y6 k).1] at hb
 cases h1:(Ql mask owner)[i]? with
 | none=>rw[h1] at ha;cases ha
 | some x =>
  cases h2:(Ql mask owner)[k]? with
  | none=>rw[h2] at hb;cases hb
  | some y =>
   rw[h1] at ha;rw[h2] at hb
   injection ha with ha;injection hb with hb
   subst ha;subst hb
   obtain⟨l1,e1⟩:=List.getElem?_eq_some_iff.mp h1
   obtain⟨l2,e2⟩:=List.getElem?_eq_some_iff.mp h2
   rw[← e1,← e2]
   exact List.pairwise_iff_getElem.mp (JW mask owner) i k l1 l2 hik
theorem zB3 {mask:Nat} {owner:Array (Option Nat)} {hs:List Int} (I:OInv mask owner hs):((Ql mask owner).map (·.2)).Perm (List.range hs.length):=by
 refine (List.perm_ext_iff_of_nodup ?_ List.nodup_range).mpr fun k=>?_
 ·rw[List.Nodup,List.pairwise_map]
  have h1:=JW mask owner
  refine List.Pairwise.imp_of_mem ?_ h1
  intro a b ha hb hab e
  have q1:=(YF I.size (j:=a.1) (k:=a.2)).mp ha
  have q2:=(YF I.size (j:=b.1) (k:=b.2)).mp hb
  rw[← e] at q2
  have:=I.one _ _ _ q1 q2
  omega
 ·rw[List.mem_map,List.mem_range]
  constructor
  ·rintro ⟨x,hx,rfl⟩
   obtain⟨h,n,e,_⟩:=I.reach _ _ ((YF I.size (j:=x.1) (k:=x.2)).mp hx)
   rcases Nat.lt_or_ge x.2 hs.length with q | q
   ·exact q
   ·rw[List.getElem?_eq_none q] at e;cases e
  ·intro hk
   obtain⟨j,e⟩:=I.all k hk
   exact⟨(j,k),(YF I.size).mpr e,rfl⟩
theorem zEX {α β:Type} (f:α->Option β):∀ (l:List α),(∀ a,a∈l->∃ b,f a=some b)->∀ i:Nat,(l.filterMap f)[i]? = l[i]?.bind f
 | [],_,i=>by simp
 | a::l,h,i=>by
  obtain⟨b,hb⟩:=h a (List.mem_cons_self ..)
  rw[List.filterMap_cons_some hb]
  cases i with
  | zero=>simp[hb]
  | succ i =>
   rw[List.getElem?_cons_succ,List.getElem?_cons_succ]
   exact zEX f l (fun a ha=>h a (List.mem_cons_of_mem _ ha)) i
theorem zET {α β:Type} (f:α->Option β):∀ (l:List α),(∀ a,a∈l->∃ b,f a=some b)->(l.filterMap f).length=l.length
 | [],_=>by simp
 | a::l,h=>by
  obtain⟨b,hb⟩:=h a (List.mem_cons_self ..)
  rw[List.filterMap_cons_some hb,List.length_cons,List.length_cons,zET f l (fun a ha=>h a (List.mem_cons_of_mem _ ha))]
theorem zEN {α:Type} (l:List α):(List.range l.length).filterMap (fun i=>l[i]?)=l:=by
 induction l with
 | nil=>simp
 | cons a t ih =>
  rw[List.length_cons,List.range_succ_eq_map,List.filterMap_cons_some (b:=a) (by simp),List.filterMap_map]
  have e:((fun i=>(a::t)[i]?) ∘ Nat.succ)=fun i=>t[i]? := by funext i;simp
  rw[e,ih]
theorem zAB {mask:Nat} (hm:M3 mask) (finger moves:Nat) (led plain:Bool) {es:Array (Int × Value)} (hl:es.size<=mask):∃ (t':SetTable) (order:Array Nat),SetTable.laid mask finger moves led plain (es.map (·.1))=some (t',order)/\t'.mask=mask/\t'.plain=plain/\t'.led=led/\t'.moves=moves/\order.toList.Perm (List.range es.size)/\TInv t' (order.filterMap (es[·]?))/\(order.filterMap (es[·]?)).toList.Perm es.toList:=by
 obtain⟨owner,e,I⟩:=Jj hm (es.map (·.1)) (by simpa using hl)
 have hlen:(es.map (·.1)).toList.length=es.size:=by simp
 have hperm:=zB3 I
 rw[hlen] at hperm
 have hsome:∀ k,k∈(Ql mask owner).map (·.2)->∃ b,es[k]? = some b:=fun k hk=>by
  have:=List.mem_range.mp (hperm.mem_iff.mp hk)
  exact⟨_,Array.getElem?_eq_getElem this⟩
 have hll:(Ql mask owner).length=es.size:=by
  have:=hperm.length_eq
  rw[List.length_map,List.length_range] at this
  exact this
 have hes:((((Ql mask owner).map (·.2)).toArray).filterMap (es[·]?)).toList=((Ql mask owner).map (·.2)).filterMap (es[·]?):=by rw[Array.toList_filterMap]
 have hesz:((((Ql mask owner).map (·.2)).toArray).filterMap (es[·]?)).size=es.size:=by
  rw[← Array.length_toList,hes,zET _ _ hsome,List.length_map,hll]
 have hesg:∀ i:Nat,((((Ql mask owner).map (·.2)).toArray).filterMap (es[·]?))[i]? = (Ql mask owner)[i]?.bind fun x=>es[x.2]? := fun i=>by
  rw[← Array.getElem?_toList,hes,zEX _ _ hsome,List.getElem?_map]
  cases (Ql mask owner)[i]? <;> rfl
 refine⟨_,_,by unfold SetTable.laid;rw[e];rfl,rfl,rfl,rfl,rfl,hperm,⟨hm,rfl,zCB mask owner,?_,?_,?_,?_⟩,?_⟩
 ·rw[hesz]
  show (((Ql mask owner).map (·.1)).toArray).size=es.size
  rw[List.size_toArray,List.length_map,hll]
 ·intro i j hi
  have hi:(((Ql mask owner).map (·.1)).toArray)[i]? = some j:=hi
  rw[(Y6 i).1] at hi
  cases hx:(Ql mask owner)[i]? with
  | none=>rw[hx] at hi;cases hi
  | some x =>
   rw[hx] at hi;injection hi with hi;subst hi
   have:=(YF I.size (j:=x.1) (k:=x.2)).mp (List.mem_of_getElem? hx)
   show x.1<=mask
   rcases Nat.lt_or_ge x.1 owner.size with q | q
   ·rw[I.size] at q;omega
   ·rw[Array.getElem?_eq_none q] at this;cases this
 ·rintro j en ⟨i,h1,h2⟩
  have h1:(((Ql mask owner).map (·.1)).toArray)[i]? = some j:=h1
  rw[(Y6 i).1] at h1
  have h2:((((Ql mask owner).map (·.2)).toArray).filterMap (es[·]?))[i]? = some en:=h2
  rw[hesg] at h2
  cases hx:(Ql mask owner)[i]? with
  | none=>rw[hx] at h1;cases h1
  | some x =>
   rw[hx] at h1 h2;injection h1 with h1;subst h1
   have h2:es[x.2]? = some en:=h2
   obtain⟨h,n,a1,a2,a3⟩:=I.reach _ _ ((YF I.size (j:=x.1) (k:=x.2)).mp (List.mem_of_getElem? hx))
   have eh:h=en.1:=by
    rw[Array.getElem?_toList,Array.getElem?_map,h2] at a1
    injection a1 with a1
    exact a1.symm
   subst eh
   refine⟨n,a2,fun m hm'=>?_⟩
   have hlt:(sq mask en.1 m).j < owner.size:=by have:=(JP mask en.1 m).jle;rw[I.size];omega
   have hq:=a3 m hm'
   rw[Array.getElem?_eq_getElem hlt] at hq
   cases ho:owner[(sq mask en.1 m).j] with
   | none=>rw[ho] at hq;exact absurd rfl hq
   | some k' =>
    have:((sq mask en.1 m).j,k')∈Ql mask owner:=(YF I.size).mpr (by rw[Array.getElem?_eq_getElem hlt,ho])
    obtain⟨i',hi'⟩:=List.mem_iff_getElem?.mp this
    refine⟨i',?_⟩
    show (((Ql mask owner).map (·.1)).toArray)[i']? = _
    rw[(Y6 i').1,hi']
    rfl
 ·show _<=mask
  rw[hesz];exact hl
 ·rw[hes]
  refine (hperm.filterMap _).trans ?_
  have:=zEN es.toList
  simp only[Array.length_toList,Array.getElem?_toList] at this
  rw[this]
theorem Z3:SetTable.sizeAbove 20 - 1=31:=by decide +kernel
theorem Zu:SetTable.sizeAbove 76 - 1=127:=by decide +kernel
theorem zCf:SetTable.grown 5=20:=by decide +kernel
theorem zBO:SetTable.grown 19=76:=by decide +kernel
end L2
namespace PySem
open L2
structure KeyS (prog:Program) (w:World) (A:Around) (s:Shared) (es:Array (Int × Value)) (key:Value) (hs:Int) (b:Nat->Bool):Prop where
 eq:∀ (i:Nat) (e:Int × Value),es[i]? = some e->SeqAt.EqAt A s e.2 key (b i)
 hash:∀ (i:Nat) (e:Int × Value),es[i]? = some e->b i=true->e.1=hs
 same:∀ (i:Nat) (e:Int × Value),es[i]? = some e->∀ (E:Value->Shared->Prop) (Q:Bool->Shared->Prop),Q true s->wpAny (model prog w) A (isSame e.2 e.2) Q E s
 seen:∀ (E:Value->Shared->Prop) (Q:Bool->Shared->Prop),Q false s->wpAny (model prog w) A (searchCouldBeSeen key ((es.filter (·.1 == hs)).toList.map (·.2))) Q E s
 kind:(∃ i t,key=.int i t)\/(∃ x t,key=.str x t/\∀ (i:Nat) (e:Int × Value),es[i]? = some e->isExactStrKey e.2=true->e.2.isStr x=b i)\/∃ a,key=.ref a
 byv:∀ (E:Value->Shared->Prop) (Q:Bool->Shared->Prop),(∀ c tk',Q c { s with toks:=tk' })->wpAny (model prog w) A (hashByValue 8 key) Q E s
section
variable {prog:Program} {w:World} {A:Around} {E:Value->Shared->Prop} {s:Shared} {es:Array (Int × Value)} {key:Value} {hs:Int} {b:Nat->Bool} {a:Addr} {o:Obj} {ep:Nat} {t:SetTable}
theorem zDA (K:KeyS prog w A s es key hs b) (ho:s.heap.get? a=some o) (hd:o.data=.set es ep t) (I:TInv t es) {N:Nat} (hb:zEL t hs N) (hN:∀ n,n<=N->N - n < 10*SetTable.turns t.mask) {Q:SetFound->Shared->Prop}
  (there:∀ i:Nat,i < es.size->b i=true->Q (.there none) s) (free:(∀ i:Nat,i < es.size->b i=false)->Q (.free (sq t.mask hs N).j false) s) :
  ∀ (fuel n:Nat) (stand:Option SetTable.Probe),n<=N->N - n < fuel->stand.getD (t.probeStart hs)=sq t.mask hs n->(∀ m,m < n->∀ i:Nat,t.place[i]? = some (sq t.mask hs m).j->b i=false) ->
   wpAny (model prog w) A (setSearchFrom a key hs true fuel stand) Q E s:=by
 intro fuel
 induction fuel with
 | zero=>intro n stand hn h;omega
 | succ fuel ih =>
  intro n stand hn hf hst hold
  have fit:=Q6 I
  have e0:∀ m,sq t.mask hs (n+m)=itr t.mask m (sq t.mask hs n):=fun m=>zAf t.mask hs n m
  have hlt:∀ {i j:Nat},t.place[i]? = some j->i < es.size:=fun {i j} h=>by
   rw[← I.size]
   exact (Array.getElem?_eq_some_iff.mp h).1
  have hat:∀ {i:Nat} (hi:i < es.size),(fun i:Nat=>(es[i]?.map (·.1)).getD (0:Int)) i=es[i].1:=fun {i} hi=>by
   show (es[i]?.map (·.1)).getD (0:Int)=_
   rw[Array.getElem?_eq_getElem hi];rfl
  unfold setSearchFrom
  refine wpAny_bind (wpAny_setState_of ho hd fit ?_)
  dsimp only
  rw[zEp I,hst]
  simp only[Bool.false_eq_true,if_false]
  have G:=zC3 I.rise I.dum (fun i:Nat=>(es[i]?.map (·.1)).getD (0:Int)) hs (10*SetTable.turns t.mask) (sq t.mask hs n) (JP _ _ _) (N - n) (hN n hn)
   (by rw[← e0,Nat.add_sub_cancel' hn];exact hb.1) (fun m hm=>by rw[← e0];exact hb.2 (n+m) (by omega))
  have nob:∀ i:Nat,i < es.size->(es[i]?.map (·.1)).getD (0:Int) ≠ hs->b i=false:=fun i hi hne=>by
   cases hbi:b i with
   | false=>rfl
   | true =>
    refine absurd ?_ hne
    rw[Array.getElem?_eq_getElem hi]
    exact K.hash i _ (Array.getElem?_eq_getElem hi) hbi
  rcases G with ⟨a1,a2⟩ | ⟨m,i,hm,hi,hh,a1,a2⟩
  ·split
   next met heq =>
    have z:=Option.some.inj (heq.symm.trans a1)
    subst z
    dsimp only
    rw[← e0,Nat.add_sub_cancel' hn]
    refine wpAny_pure (free fun i hi=>?_)
    cases hbi:b i with
    | false=>rfl
    | true =>
     have he:=Array.getElem?_eq_getElem hi
     have hhs:=K.hash i _ he hbi
     have hip:i < t.place.size:=by rw[I.size];exact hi
     have hpl:=Array.getElem?_eq_getElem hip
     obtain⟨n',h1,h2⟩:=zGc I (N:=N) (j:=t.place[i]) (e:=es[i]) (by rw[hhs];exact hb) ⟨i,hpl,he⟩
     rw[hhs] at h2
     rcases Nat.lt_or_ge n' n with q | q
     ·have:=hold n' q i (by rw[hpl,h2])
      rw[hbi] at this
      exact this
     ·have:=nob i hi (a2 (n' - n) (by omega) i (by rw[← e0,Nat.add_sub_cancel' q,hpl,h2]))
      rw[hbi] at this
      exact this
   next x heq=>exact (heq _ a1).elim
  ·split
   next met heq =>
    have z:=Option.some.inj (heq.symm.trans a1)
    subst z
    dsimp only
    have hie:=hlt hi
    have he:=Array.getElem?_eq_getElem hie
    have hsl:t.slot (itr t.mask m (sq t.mask hs n)).j=.live i:=J9 I.rise I.dum hi
    have hsm:t.sameMemory t.moves t.mask=some true:=by unfold SetTable.sameMemory;rw[if_pos (beq_self_eq_true _)]
    have nx:b i=false->wpAny (model prog w) A (setSearchFrom a key hs true fuel (some (itr t.mask (m+1) (sq t.mask hs n)))) Q E s:=fun hbi=>by
     refine ih (n+m+1) _ (by omega) (by omega) ?_ fun m' hm' i' hi'=>?_
     ·show itr t.mask (m+1) (sq t.mask hs n)=_
      rw[← e0];rfl
     ·rcases Nat.lt_or_ge m' n with q | q
      ·exact hold m' q i' hi'
      ·rw[show m'=n+(m' - n) by omega,e0] at hi'
       rcases Nat.lt_or_ge (m' - n) m with q2 | q2
       ·exact nob i' (hlt hi') (a2 _ q2 i' hi')
       ·rw[show m' - n=m by omega] at hi'
        rw[W2 I.rise hi' hi]
        exact hbi
    rw[he]
    cases hled:t.led
    case' false =>
     simp only[Bool.not_false,if_true]
     refine wpAny_bind (K.seen _ _ ?_)
     simp only[Bool.false_eq_true,if_false]
    case' true=>simp only[Bool.not_true,Bool.false_eq_true,if_false]
    all_goals
     refine wpAny_bind (wpAny_holding (K.eq i _ he prog w E _ (wpAny_bind (wpAny_setState_of ho hd fit ?_))))
     dsimp only
     cases hbi:b i with
     | true =>
      simp only[Bool.and_self,if_true]
      exact wpAny_pure (there i hie hbi)
     | false =>
      simp only[Bool.and_false,Bool.false_eq_true,if_false]
      rw[hsm]
      dsimp only
      rw[if_pos rfl,hsl]
      dsimp only
      rw[he]
      dsimp only
      refine wpAny_bind (K.same i _ he _ _ (wpAny_bind (wpAny_pure ?_)))
      rw[if_pos rfl]
      exact nx hbi
   next x heq=>exact (heq _ a1).elim
end
end PySem
namespace PySem
open L2
def SOb (h:Heap) (a:Addr) (es:Array (Int × Value)) (t:SetTable):Prop:=∃ o ep,h.get? a=some o/\o.data=.set es ep t/\o.ExactSet
structure SAt (h:Heap) (a:Addr) (es:Array (Int × Value)) (t:SetTable):Prop where
 ob:SOb h a es t
 inv:TInv t es
 free:es.size*5 < t.mask*3
section
variable {prog:Program} {w:World} {A:Around} {E:Value->Shared->Prop} {s:Shared} {es:Array (Int × Value)} {key:Value} {hs:Int} {b:Nat->Bool} {a:Addr} {t:SetTable}
theorem Z7 {es':Array (Int × Value)} {t':SetTable} {Q:Unit->Shared->Prop} (S:SOb s.heap a es t) (hz:es'.size<=1000) (h:∀ h',Heap.SameBut a s.heap h'->SOb h' a es' t'->Q () { s with heap:=h' }) :
  wpAny (model prog w) A (storeSet a es' t') Q E s:=by
 obtain⟨o,ep,ho,hd,hx⟩:=S
 refine wpAny_storeSet_of ho hd (h _ ?_ ?_) (by rw[sizeLine_eq];omega)
 ·exact Heap.SameBut.update s.heap a _
 ·refine⟨{ o with data:=.set es' (ep+1) t' },ep+1,?_,rfl,hx⟩
  have:=Heap.get?_update_self (Obj.putSet es' t') ho (by rw[putSet_of es' t' hd];rfl)
  rw[putSet_of es' t' hd] at this
  exact this
theorem zEz (S:SOb s.heap a es t) (I:TInv t es) {mask:Nat} (hm:M3 mask) (hg:SetTable.sizeAbove (SetTable.grown es.size) - 1=mask) (hg2:SetTable.sizeAbove (SetTable.grown es.size)<=1000) (hl:es.size*5 < mask*3) {Q:Unit->Shared->Prop}
  (h:∀ h' es' t',Heap.SameBut a s.heap h'->es'.toList.Perm es.toList->SAt h' a es' t'->Q () { s with heap:=h' }):wpAny (model prog w) A (setRelay a (SetTable.grown es.size)) Q E s:=by
 have S0:=S
 obtain⟨o,ep,ho,hd,hx⟩:=S
 obtain⟨t',order,e1,e2,e3,e4,e5,e6,I2,e7⟩:=zAB hm t.finger (t.movedTo mask) t.led t.plain (es:=es) (by omega)
 have e8:t.relaid (es.map (·.1)) (SetTable.grown es.size)=some (t',order):=by unfold SetTable.relaid;rw[hg];exact e1
 have e9:(order.filterMap (es[·]?)).size=es.size:=by rw[← Array.length_toList,e7.length_eq,Array.length_toList]
 unfold setRelay
 refine wpAny_bind (wpAny_setState_of ho hd (Q6 I) ?_)
 dsimp only
 rw[if_neg (by rw[sizeLine_eq];omega),e8]
 change wpAny _ _ ((do
  let es2:=order.filterMap (es[·]?)
  if es2.size != es.size then unsupported "internal:set-table-lost-an-element"
  pure (es2,t')) >>= _) _ _ _
 refine wpAny_bind ?_
 dsimp only
 rw[e9,if_neg (by simp)]
 refine wpAny_pure ?_
 dsimp only
 refine Z7 S0 (by omega) fun h' sb S'=>h h' _ t' sb e7 ⟨S',I2,by rw[e9,e2];exact hl⟩
theorem ZS {α:Type} (xs:Array α) (p:Nat) (x:α):(SetTable.insertAt xs p x).toList.Perm (x::xs.toList):=by
 unfold SetTable.insertAt
 rw[Array.toList_append,Array.toList_push]
 have e:(xs.extract 0 p).toList++(xs.extract p xs.size).toList=xs.toList:=by
  rw[Array.toList_extract,Array.toList_extract]
  simp only[List.extract,Nat.sub_zero,List.drop_zero]
  rw[List.take_of_length_le (l:=List.drop p xs.toList) (by rw[List.length_drop,Array.length_toList];omega)]
  exact List.take_append_drop p xs.toList
 have h:=(List.perm_middle (a:=x) (l₁:=(xs.extract 0 p).toList) (l₂:=(xs.extract p xs.size).toList))
 rw[e] at h
 simpa using h
theorem W0 (I:TInv t es) (c:Bool):TInv { t with plain:=c } es:=⟨I.m3,I.dum,I.rise,I.size,I.le,I.reach,I.room⟩
theorem zEH {es1:Array (Int × Value)} {t1:SetTable} {n:Nat} (S0:SOb s.heap a es t) (I1:TInv t1 es1) (hm:t1.mask=t.mask) (hn:es1.size=n) (hs1:n=es.size+1) (hfree:es.size*5 < t.mask*3) (hsz:es.size<=75) {Q:Bool->Shared->Prop}
  (h:∀ h' es' t',Heap.SameBut a s.heap h'->es'.toList.Perm es1.toList->SAt h' a es' t'->Q true { s with heap:=h' }) :
  wpAny (model prog w) A (do
   storeSet a es1 t1
   if (!false && t1.tooFull)=true then do
    setRelay a (SetTable.grown n)
    pure true
   else pure true) Q E s:=by
 refine wpAny_bind (Z7 S0 (by omega) fun h' sb S1=>?_)
 have hfill:t1.fill=es1.size:=by unfold SetTable.fill;rw[I1.dum,I1.size];rfl
 by_cases c:t1.tooFull=true
 ·rw[show (!false && t1.tooFull)=true by rw[c];rfl,if_pos rfl]
  have hc:es1.size*5 ≥ t1.mask*3:=by
   unfold SetTable.tooFull at c
   rw[hfill] at c
   exact of_decide_eq_true c
  obtain⟨mask,hM,hg,hg2,hl⟩:∃ mask,M3 mask/\SetTable.sizeAbove (SetTable.grown n) - 1=mask/\SetTable.sizeAbove (SetTable.grown n)<=1000/\n*5 < mask*3:=by
   rcases I1.m3 with e | e | e
   ·obtain rfl:n=5:=by omega
    exact⟨31,.inr (.inl rfl),by rw[zCf,Z3],by decide +kernel,by decide⟩
   ·obtain rfl:n=19:=by omega
    exact⟨127,.inr (.inr rfl),by rw[zBO,Zu],by decide +kernel,by decide⟩
   ·omega
  subst hn
  exact wpAny_bind (zEz (s:={ s with heap:=h' }) S1 I1 hM hg hg2 hl fun h2 es2 t2 sb2 pm S2=>wpAny_pure (h h2 es2 t2 (sb.trans sb2) pm S2))
 ·rw[show (!false && t1.tooFull)=false by cases z:t1.tooFull <;> simp_all,if_neg Bool.false_ne_true]
  refine wpAny_pure (h h' es1 t1 sb (List.Perm.refl _) ⟨S1,I1,?_⟩)
  rcases Nat.lt_or_ge (es1.size*5) (t1.mask*3) with q | q
  ·exact q
  ·refine absurd ?_ c
   unfold SetTable.tooFull
   rw[hfill]
   exact decide_eq_true q
theorem zF6 (K:KeyS prog w A s es key hs b) (S:SAt s.heap a es t) (hsz:es.size<=75) (hns:byScan key es=false) {Q:Bool->Shared->Prop} {fuel:Nat} (there:∀ i:Nat,i < es.size->b i=true->Q false s)
  (new:(∀ i:Nat,i < es.size->b i=false)->∀ h' es' t' tk,Heap.SameBut a s.heap h'->es'.toList.Perm ((hs,key)::es.toList)->SAt h' a es' t'->Q true { s with heap:=h',toks:=tk }) :
  wpAny (model prog w) A (setAddHashedIn a key hs (fuel+1)) Q E s:=by
 have I:=S.inv
 have S0:=S.ob
 obtain⟨o,ep,ho,hd,hx⟩:=S.ob
 have fit:=Q6 I
 obtain⟨N,hb,hN⟩:=zCj I hs
 have hroom:es.size+1<=t.mask:=by have:=S.free;rcases I.m3 with e | e | e <;> omega
 unfold setAddHashedIn
 refine wpAny_bind (wpAny_setState_of ho hd fit ?_)
 dsimp only
 rw[hns,if_neg Bool.false_ne_true]
 refine wpAny_bind ?_
 unfold setSearch
 refine zDA K ho hd I hb hN (fun i hi hbi=>?_) (fun hno=>?_) 100000 0 none (Nat.zero_le _) (by have:=hN 0 (Nat.zero_le _);have:10*SetTable.turns t.mask<=100000:=(by rcases I.m3 with e | e | e <;> rw[e] <;> decide +kernel);omega) rfl (fun m hm=>by omega)
 ·exact wpAny_pure (there i hi hbi)
 dsimp only
 refine wpAny_bind (wpAny_setState_of ho hd fit ?_)
 dsimp only
 rw[zD3 I.dum]
 dsimp only
 have I1:=zCg I hb key hroom
 have hsz1:=Q0 es (SetTable.below t.place (sq t.mask hs N).j) (hs,key)
 have pm:=ZS es (SetTable.below t.place (sq t.mask hs N).j) (hs,key)
 generalize SetTable.insertAt es (SetTable.below t.place (sq t.mask hs N).j) (hs,key)=es1 at I1 hsz1 pm ⊢
 generalize SetTable.insertAt t.place (SetTable.below t.place (sq t.mask hs N).j) (sq t.mask hs N).j=pl at I1 ⊢
 have tail:∀ (t1:SetTable) (tk:Nat),TInv t1 es1->t1.mask=t.mask->wpAny (model prog w) A (do
   storeSet a es1 t1
   if (!false && t1.tooFull)=true then do
    setRelay a (SetTable.grown (es.size+1))
    pure true
   else pure true) Q E { s with toks:=tk }:=fun t1 tk I2 hm =>
  zEH (s:={ s with toks:=tk }) S0 I2 hm hsz1 rfl S.free hsz fun h' es' t' sb pm2 S2=>new hno h' es' t' tk sb (pm2.trans pm) S2
 cases hp:t.plain with
 | true =>
  rw[hp] at I1
  rw[if_pos rfl]
  refine wpAny_bind (K.byv _ _ fun c tk=>?_)
  cases c with
  | true=>exact tail _ tk I1 rfl
  | false=>exact tail _ tk (W0 I1 false) rfl
 | false =>
  rw[hp] at I1
  rw[if_neg Bool.false_ne_true]
  exact tail _ s.toks I1 rfl
end
end PySem
namespace PySem
open L2
section
variable {prog:Program} {w:World} {A:Around} {E:Value->Shared->Prop} {s:Shared} {es:Array (Int × Value)} {key:Value} {hs:Int} {b:Nat->Bool} {a:Addr} {t:SetTable}
theorem zC7 (K:KeyS prog w A s es key hs b) (S:SAt s.heap a es t) {Q:ScanMet->Shared->Prop} (found:∀ i:Nat,i < es.size->b i=true->Q (.found i) s) (absent:(∀ i:Nat,i < es.size->b i=false)->Q .absent s) :
  ∀ (Qq:List (Int × Value)) (i:Nat),es.toList.drop i=Qq->i<=es.size->(∀ j,j < i->b j=false)->wpAny (model prog w) A (setScanFrom a key hs true Qq i) Q E s:=by
 obtain⟨o,ep,ho,hd,hx⟩:=S.ob
 have fit:=Q6 S.inv
 intro Qq
 induction Qq with
 | nil =>
  intro i hr hi hold
  unfold setScanFrom
  have:es.size<=i:=by
   have:=congrArg List.length hr
   rw[List.length_drop,Array.length_toList,List.length_nil] at this
   omega
  exact wpAny_pure (absent fun j hj=>hold j (by omega))
 | cons e Qq ih =>
  intro i hr hi hold
  obtain⟨h',y⟩:=e
  have hlt:i < es.size:=by
   have:=congrArg List.length hr
   rw[List.length_drop,Array.length_toList,List.length_cons] at this
   omega
  have he:es[i]? = some (h',y):=by
   have:=congrArg (fun l=>l[0]?) hr
   simpa using this
  have hr2:es.toList.drop (i+1)=Qq:=by
   have:=congrArg List.tail hr
   rw[List.tail_drop] at this
   simpa using this
  have nx:b i=false->wpAny (model prog w) A (setScanFrom a key hs true Qq (i+1)) Q E s:=fun hbi=>ih (i+1) hr2 (by omega) fun j hj=>by
   rcases Nat.lt_or_ge j i with q | q
   ·exact hold j q
   ·rw[show j=i by omega];exact hbi
  unfold setScanFrom
  by_cases c:(h' == hs)=true
  ·rw[if_pos c]
   refine wpAny_bind (wpAny_setEpoch_of ho hd fit (wpAny_bind (K.eq i _ he prog w E _ ?_)))
   cases hbi:b i with
   | true =>
    simp only[Bool.and_self,if_true]
    exact wpAny_pure (found i hlt hbi)
   | false =>
    simp only[Bool.and_false,Bool.false_eq_true,if_false]
    refine wpAny_bind (wpAny_setEpoch_of ho hd fit ?_)
    rw[if_neg (by simp)]
    exact nx hbi
  ·rw[if_neg c]
   refine nx ?_
   cases hbi:b i with
   | false=>rfl
   | true=>exact absurd (by rw[beq_iff_eq];exact K.hash i _ he hbi) c
theorem zFa (K:KeyS prog w A s es key hs b) (S:SAt s.heap a es t) {Q:ScanMet->Shared->Prop} (found:∀ i:Nat,i < es.size->b i=true->Q (.found i) s) (absent:(∀ i:Nat,i < es.size->b i=false)->Q .absent s) :
  wpAny (model prog w) A (setScan a key hs true es) Q E s:=by
 have sf:=zC7 K S (E:=E) found absent es.toList 0 rfl (Nat.zero_le _) (fun j hj=>by omega)
 obtain⟨o,ep,ho,hd,hx⟩:=S.ob
 have fit:=Q6 S.inv
 rcases K.kind with ⟨i,u,rfl⟩ | ⟨x,u,rfl,hk⟩ | ⟨c,rfl⟩
 ·exact sf
 ·unfold setScan
  dsimp only
  by_cases hall:es.all (fun e=>isExactStrKey e.2)=true
  ·rw[if_pos hall]
   have hex:∀ (i:Nat) (e:Int × Value),es[i]? = some e->e.2.isStr x=b i:=fun i e he=>hk i e he (by
    obtain⟨hi,rfl⟩:=Array.getElem?_eq_some_iff.mp he
    exact Array.all_eq_true.mp hall i hi)
   unfold setScanStrs
   cases hf:es.findIdx? (fun e=>e.2.isStr x) with
   | none =>
    dsimp only
    refine wpAny_pure (absent fun i hi=>?_)
    rw[← hex i _ (Array.getElem?_eq_getElem hi)]
    have:=Array.findIdx?_eq_none_iff.mp hf
    simpa using this _ (Array.getElem_mem hi)
   | some i =>
    dsimp only
    obtain⟨hi,h1,_⟩:=Array.findIdx?_eq_some_iff_getElem.mp hf
    have he:=Array.getElem?_eq_getElem hi
    have hbi:b i=true:=by rw[← hex i _ he];exact h1
    rw[he]
    dsimp only
    refine wpAny_bind (wpAny_setEpoch_of ho hd fit (wpAny_bind (K.eq i _ he prog w E _ ?_)))
    rw[hbi]
    simp only[Bool.and_self,if_true]
    exact wpAny_pure (found i hi hbi)
  ·rw[if_neg hall]
   exact sf
 ·exact sf
theorem J8 {es1:Array (Int × Value)} {t1:SetTable} (S0:SOb s.heap a es t) (I1:TInv t1 es1) (hm:t1.mask=t.mask) (hn:es1.size=es.size+1) (hfree:es.size*5 < t.mask*3) (hsz:es.size<=75) {Q:Option Bool->Shared->Prop}
  (h:∀ h' es' t',Heap.SameBut a s.heap h'->es'.toList.Perm es1.toList->SAt h' a es' t'->Q (some true) { s with heap:=h' }) {gv:Bool->Sem Unit} (hgv:gv false=pure ()) :
  wpAny (model prog w) A (do
   storeSet a es1 t1
   if (!false && t1.tooFull)=true then do
    gv (relayAll t1 es1 (SetTable.grown es1.size)).2.2
    storeSet a (relayAll t1 es1 (SetTable.grown es1.size)).1 (relayAll t1 es1 (SetTable.grown es1.size)).2.1
    pure (some true)
   else pure (some true)) Q E s:=by
 refine wpAny_bind (Z7 S0 (by omega) fun h' sb S1=>?_)
 have hfill:t1.fill=es1.size:=by unfold SetTable.fill;rw[I1.dum,I1.size];rfl
 by_cases c:t1.tooFull=true
 ·rw[show (!false && t1.tooFull)=true by rw[c];rfl,if_pos rfl]
  have hc:es1.size*5 ≥ t1.mask*3:=by
   unfold SetTable.tooFull at c
   rw[hfill] at c
   exact of_decide_eq_true c
  obtain⟨mask,hM,hg,hl⟩:∃ mask,M3 mask/\SetTable.sizeAbove (SetTable.grown es1.size) - 1=mask/\es1.size*5 < mask*3:=by
   rcases I1.m3 with e | e | e
   ·have e5:es1.size=5:=by omega
    exact⟨31,.inr (.inl rfl),by rw[e5,zCf,Z3],by omega⟩
   ·have e19:es1.size=19:=by omega
    exact⟨127,.inr (.inr rfl),by rw[e19,zBO,Zu],by omega⟩
   ·omega
  obtain⟨t',order,e1,e2,e3,e4,e5,e6,I2,e7⟩:=zAB hM t1.finger (t1.movedTo mask) t1.led t1.plain (es:=es1) (by omega)
  have e8:t1.relaid (es1.map (·.1)) (SetTable.grown es1.size)=some (t',order):=by unfold SetTable.relaid;rw[hg];exact e1
  have e9:(order.filterMap (es1[·]?)).size=es1.size:=by rw[← Array.length_toList,e7.length_eq,Array.length_toList]
  have e10:relayAll t1 es1 (SetTable.grown es1.size)=(order.filterMap (es1[·]?),t',false):=by
   unfold relayAll
   rw[e8]
   dsimp only
   have c1:coversAll order es1.size=true:=by unfold coversAll;exact List.isPerm_iff.mpr e6
   rw[c1,Q6 I2]
   rfl
  rw[e10]
  dsimp only
  rw[hgv]
  refine wpAny_bind (wpAny_pure (wpAny_bind (Z7 (s:={ s with heap:=h' }) S1 (by omega) fun h2 sb2 S2=>?_)))
  exact wpAny_pure (h h2 _ t' (sb.trans sb2) e7 ⟨S2,I2,by rw[e9,e2];exact hl⟩)
 ·rw[show (!false && t1.tooFull)=false by cases z:t1.tooFull <;> simp_all,if_neg Bool.false_ne_true]
  refine wpAny_pure (h h' es1 t1 sb (List.Perm.refl _) ⟨S1,I1,?_⟩)
  rcases Nat.lt_or_ge (es1.size*5) (t1.mask*3) with q | q
  ·exact q
  ·refine absurd ?_ c
   unfold SetTable.tooFull
   rw[hfill]
   exact decide_eq_true q
theorem zEG (K:KeyS prog w A s es key hs b) (S:SAt s.heap a es t) (hsz:es.size<=75) (hns:byScan key es=true) {Q:Bool->Shared->Prop} {fuel:Nat} (there:∀ i:Nat,i < es.size->b i=true->Q false s)
  (new:(∀ i:Nat,i < es.size->b i=false)->∀ h' es' t' tk,Heap.SameBut a s.heap h'->es'.toList.Perm ((hs,key)::es.toList)->SAt h' a es' t'->Q true { s with heap:=h',toks:=tk }) :
  wpAny (model prog w) A (setAddHashedIn a key hs (fuel+1)) Q E s:=by
 have I:=S.inv
 have S0:=S.ob
 obtain⟨o,ep,ho,hd,hx⟩:=S.ob
 have fit:=Q6 I
 obtain⟨N,hb,hN⟩:=zCj I hs
 have hroom:es.size+1<=t.mask:=by have:=S.free;rcases I.m3 with e | e | e <;> omega
 unfold setAddHashedIn
 refine wpAny_bind (wpAny_setState_of ho hd fit ?_)
 dsimp only
 rw[hns,if_pos rfl]
 refine wpAny_bind ?_
 unfold setAddByScan
 refine wpAny_bind (wpAny_rule (wpAny_bind (zFa K S (fun i hi hbi=>?_) fun hno=>?_)))
 ·exact wpAny_pure (wpAny_pure (there i hi hbi))
 dsimp only
 have I1:=zCg I hb key hroom
 have hsz1:=Q0 es (SetTable.below t.place (sq t.mask hs N).j) (hs,key)
 have pm:=ZS es (SetTable.below t.place (sq t.mask hs N).j) (hs,key)
 have el:layNew t es hs key=(SetTable.insertAt es (SetTable.below t.place (sq t.mask hs N).j) (hs,key),{ t with place:=SetTable.insertAt t.place (SetTable.below t.place (sq t.mask hs N).j) (sq t.mask hs N).j },false,false):=by
  unfold layNew
  rw[zAw I hb (hN 0 (Nat.zero_le _))]
  dsimp only
  rw[zD3 I.dum]
  dsimp only
  unfold SetTable.orStandIn
  rw[Q6 I1,if_pos rfl]
  rfl
 rw[el]
 dsimp only
 generalize SetTable.insertAt es (SetTable.below t.place (sq t.mask hs N).j) (hs,key)=es1 at I1 hsz1 pm ⊢
 generalize SetTable.insertAt t.place (SetTable.below t.place (sq t.mask hs N).j) (sq t.mask hs N).j=pl at I1 ⊢
 have hend:∀ tk h' es' t',Heap.SameBut a s.heap h'->es'.toList.Perm es1.toList->SAt h' a es' t'->Q true { s with heap:=h',toks:=tk }:=fun tk h' es' t' sb pm2 S2=>new hno h' es' t' tk sb (pm2.trans pm) S2
 refine wpAny_bind (wpAny_of_eq (show _=(pure ():Sem Unit) from rfl) ?_)
 cases hp:t.plain with
 | true =>
  rw[hp] at I1
  rw[if_pos rfl]
  refine wpAny_bind (K.byv _ _ fun c tk=>?_)
  exact J8 (s:={ s with toks:=tk }) S0 (by cases c;exact W0 I1 false;exact I1) (by cases c <;> rfl) hsz1 S.free hsz (fun h' es' t' sb pm2 S2=>wpAny_pure (hend tk h' es' t' sb pm2 S2)) rfl
 | false =>
  rw[hp] at I1
  rw[if_neg Bool.false_ne_true]
  exact J8 (s:=s) S0 I1 rfl hsz1 S.free hsz (fun h' es' t' sb pm2 S2=>wpAny_pure (hend s.toks h' es' t' sb pm2 S2)) rfl
theorem zFg (K:KeyS prog w A s es key hs b) (S:SAt s.heap a es t) (hsz:es.size<=75) {Q:Bool->Shared->Prop} (there:∀ i:Nat,i < es.size->b i=true->Q false s)
  (new:(∀ i:Nat,i < es.size->b i=false)->∀ h' es' t' tk,Heap.SameBut a s.heap h'->es'.toList.Perm ((hs,key)::es.toList)->SAt h' a es' t'->Q true { s with heap:=h',toks:=tk }) :
  wpAny (model prog w) A (setAddHashed a key hs) Q E s:=by
 unfold setAddHashed
 refine wpAny_holding ?_
 cases hb:byScan key es with
 | true=>exact zEG K S hsz hb there new
 | false=>exact zF6 K S hsz hb there new
end
end PySem
namespace PySem
open L2 PyProof.Rows PySem.Spec
section
variable {prog:Program} {w:World} {A:Around} {R:Result->Shared->Prop} {I:Addr} {fp wr:List Addr} {G:Array GenState->Array GenState->Prop} {n:Nat} {P:Nat->Value->Prop} {St:Nat->Shared->Prop}
theorem zEf (W:WalksS prog w A.in1 I fp wr G n P St) (S:Addr) (hSf:S ∉ fp) (s₀:Shared) (J:Nat->Array (Int × Value)->Prop)
  (step:∀ (i:Nat) (v:Value) (s':Shared) (es:Array (Int × Value)) (t:SetTable) (E:Value->Shared->Prop) (Q:Bool->Shared->Prop),i < n->P i v->Moved (S::wr) G s₀ s'->J i es->SAt s'.heap S es t ->
   (∀ c h' es' t' tk,Heap.SameBut S s'.heap h'->s'.toks<=tk->SAt h' S es' t'->J (i+1) es'->Q c { s' with heap:=h',toks:=tk })->wpAny (model prog w) A.in1 (setAdd S v) Q E s') :
  ∀ (k i:Nat) (s:Shared),n - i=k->i<=n->St i s->Moved (S::wr) G s₀ s->(∃ es t,SAt s.heap S es t/\J i es) ->
   (∀ s',Moved (S::wr) G s s'->(∃ es t,SAt s'.heap S es t/\J n es)->R (.ok (.ret .none)) s') ->
   codeAny (model prog w) A (.builtin "set.update.loop" ⟨[.ref S,.ref I],[]⟩) R s:=by
 have hSw:S ∉ wr:=fun h=>hSf (W.sub _ h)
 have sub:∀ b∈wr,b∈S::wr:=fun b hb=>List.mem_cons_of_mem _ hb
 have kept:∀ {s s':Shared} {es t},Moved wr G s s'->SAt s.heap S es t->SAt s'.heap S es t:=fun {s s' es t} hm x=>by
  obtain⟨⟨o,ep,ho,r⟩,x2,x3⟩:=x
  exact⟨⟨o,ep,hm.heap S _ hSw ho,r⟩,x2,x3⟩
 intro k
 induction k with
 | zero =>
  intro i s hk hi hst _ hS hR
  obtain rfl:i=n:=by omega
  refine codeAny_builtin F.entry_set_update_loop ?_
  rw[Around.under_plainId F.plain_set_update_loop _]
  refine wpAny_bind (W.done s _ _ hst fun s' hm=>?_)
  obtain⟨es,t,x,y⟩:=hS
  exact wpAny_pure (hR s' (hm.mono sub) ⟨es,t,kept hm x,y⟩)
 | succ k ih =>
  intro i s hk hi hst hB hS hR
  have hlt:i < n:=by omega
  refine codeAny_builtin F.entry_set_update_loop ?_
  rw[Around.under_plainId F.plain_set_update_loop _]
  refine wpAny_bind (W.item i s _ _ hlt hst fun v s' hP hst' hm=>?_)
  obtain⟨es,t,x,y⟩:=hS
  have hB':Moved (S::wr) G s₀ s':=Moved.trans W.gtrans hB (hm.mono sub)
  show wpAny _ A.in1 (holding [v] (setAdd S v) >>= _) _ _ s'
  refine wpAny_bind (wpAny_holding (step i v s' es t _ _ hlt hP hB' y (kept hm x) fun c h' es' t' tk sb hk x' y'=>?_))
  refine wpAny_pure ⟨plainId_quiet F.plain_set_update_loop _,ih (i+1) _ (by omega) hlt (W.frame _ s' _ _ hst' hk fun b hb o e=>?_) (hB'.then_heap hk fun b o hb e=>(sb.2 b (fun h:b=S=>hb (by rw[h];exact List.mem_cons_self))).trans e) ⟨es',t',x',y'⟩ fun s'' hm'' hS''=>?_⟩
  ·rw[sb.2 b (fun h:b=S=>hSf (by rw[← h];exact hb))];exact e
  ·refine hR s'' (Moved.trans W.gtrans ((hm.mono sub).then_heap hk fun b o hb e=>?_) hm'') hS''
   rw[sb.2 b (fun h:b=S=>hb (by rw[h];exact List.mem_cons_self))];exact e
end
theorem zCE (f m:Nat) (led:Bool):TInv (SetTable.fresh f m led) #[]:=by
 refine⟨.inl rfl,rfl,fun i k a b _ h=>?_,rfl,fun i j h=>?_,fun j e ⟨i,h,_⟩=>?_,Nat.zero_le _⟩
 ·have h:(#[]:Array Nat)[i]? = some a:=h
  simp at h
 ·have h:(#[]:Array Nat)[i]? = some j:=h
  simp at h
 ·have h:(#[]:Array Nat)[i]? = some j:=h
  simp at h
section
variable {prog:Program} {w:World} {A:Around} {E:Value->Shared->Prop} {s:Shared}
set_option maxHeartbeats 6400000 in
theorem zDR {l:Addr} {items:Array Value} {Q:Value->Shared->Prop} (hh:A.handled=none) (hl:s.heap.IsList l items) (J:Nat->Array (Int × Value)->Prop) (J0:J 0 #[])
  (step:∀ (i:Nat) (v:Value) (s':Shared) (es:Array (Int × Value)) (t:SetTable) (E:Value->Shared->Prop) (Q:Bool->Shared->Prop),items[i]? = some v->s'={ s with heap:=s'.heap,toks:=s'.toks }->s.toks<=s'.toks->(∀ b o,b < s.heap.objs.size->s.heap.get? b=some o->s'.heap.get? b=some o)->J i es->SAt s'.heap s.heap.objs.size es t ->
   (∀ c h' es' t' tk,Heap.SameBut s.heap.objs.size s'.heap h'->s'.toks<=tk->SAt h' s.heap.objs.size es' t'->J (i+1) es'->Q c { s' with heap:=h',toks:=tk })->wpAny (model prog w) A.in1.in1.in1 (setAdd s.heap.objs.size v) Q E s')
  (h:∀ (h':Heap) (tk:Nat) es t,SAt h' s.heap.objs.size es t->J items.size es->(∀ b o,b < s.heap.objs.size->s.heap.get? b=some o->h'.get? b=some o)->Q (.ref s.heap.objs.size) { s with heap:=h',toks:=tk }) :
  wpAny (model prog w) A (call (.type "set") [.ref l]) Q E s:=by
 obtain⟨c,tl,hmro⟩:=F.called_set.mro
 have hmade:=F.called_set.made
 have hsub:=F.called_set.sub
 refine wpAny_call (codeAny_of_tree ?_)
 show wpAny _ _ (callAny (.type "set") _) _ _ _
 refine wpAny_pure ⟨Code.quiet_builtin _ (by decide +kernel),codeAny_builtin F.entry_type_call ?_⟩
 rw[Around.under_plain (weight_type_call_type "set" [.ref l] []) rfl]
 have h1:=F.called_set.notType
 have h2:=F.called_set.canCreate
 have hct:=F.typeCall_set_1 (.ref l)
 repeat (any_goals (first | assumption | wp_step))
 refine codeAny_mono (code_set_new_1 (.ref l) (E:=E) (Q₁:=fun obj s₁=>∃ led:Bool,obj=.ref s.heap.objs.size/\s₁={ s with heap:=s.heap.push { cls:=.type "set",dict:=none,data:=.set #[] 0 (.fresh 0 0 led) } }) fun led=>⟨led,rfl,rfl⟩) fun r s₁ hr=>?_
 cases r with
 | error e=>exact hr
 | ok fl =>
  cases fl with
  | ret obj =>
   obtain⟨led,rfl,rfl⟩:=hr
   have hS:(s.heap.push { cls:=.type "set",dict:=none,data:=.set #[] 0 (.fresh 0 0 led) }).get? s.heap.objs.size=some { cls:=.type "set",dict:=none,data:=.set #[] 0 (.fresh 0 0 led) }:=Heap.get?_push_size _ rfl
   have hT:Shared.TypeIs { s with heap:=s.heap.push { cls:=.type "set",dict:=none,data:=.set #[] 0 (.fresh 0 0 led) } } (.ref s.heap.objs.size) "set" := ⟨_,hS,rfl⟩
   have hli:=F.called_set.init.lookup
   have hbi:=F.called_set.init.bind (.ref s.heap.objs.size)
   repeat (any_goals (first | assumption | wp_step))
   refine codeAny_mono (codeAny_call_builtin (R:=wants (fun r s₂=>r=.none/\∃ h' tk,s₂={ s with heap:=h',toks:=tk }/\(∃ es t,SAt h' s.heap.objs.size es t/\J items.size es) /\
     (∀ b o,b < s.heap.objs.size->s.heap.get? b=some o->h'.get? b=some o)) E) F.called_set.init.plain F.entry_set_init (check_set_init_1 hT ?_)) fun r₂ s₂ hr₂=>?_
   ·obtain⟨ol,hol,hcl,nl,hdl⟩:=hl
    obtain⟨ocls,odict,odata,oslots⟩:=ol
    simp only at hcl hdl
    subst hcl;subst hdl
    have hol':(s.heap.push { cls:=.type "set",dict:=none,data:=.set #[] 0 (.fresh 0 0 led) }).get? l=some { cls:=.type "list",dict:=odict,data:=.seq items nl,slots:=oslots }:=Heap.get?_push_of_some _ hol
    have hsls:=F.sub_list_set
    have hslf:=F.sub_list_frozenset
    have hne:(Value.type "list" == Value.type "dict")=false:=by decide
    have hl1:(s.heap.push { cls:=.type "set",dict:=none,data:=.set #[] 0 (.fresh 0 0 led) }).IsList l items:=⟨_,hol',rfl,nl,rfl⟩
    unfold Builtin.«set.__init__» noKeywords Builtin.Frozenset.updateFrom
    generalize hPI:pyIter=PI
    wp_walk
    subst hPI
    refine wpAny_pyIter_list hl1 ?_
    refine wpAny_bind (wpAny_runValue ?_)
    have hlS:l < s.heap.objs.size:=Heap.lt_size hol
    have hh3:A.in1.in1.in1.handled=none:=by simp[hh]
    have hneI:l ≠ (s.heap.push { cls:=.type "set",dict:=none,data:=.set #[] 0 (.fresh 0 0 led) }).objs.size:=by
     rw[Heap.size_push];exact Nat.ne_of_lt (Nat.lt_succ_of_lt hlS)
    have hSf:s.heap.objs.size ∉ [(s.heap.push { cls:=.type "set",dict:=none,data:=.set #[] 0 (.fresh 0 0 led) }).objs.size,l]:=by
     rw[Heap.size_push];simp only[List.mem_cons,List.mem_singleton,List.not_mem_nil,or_false,not_or]
     exact⟨Nat.ne_of_lt (Nat.lt_succ_self _),Nat.ne_of_gt hlS⟩
    have far:∀ b,b < s.heap.objs.size->b ∉ s.heap.objs.size::[(s.heap.push { cls:=.type "set",dict:=none,data:=.set #[] 0 (.fresh 0 0 led) }).objs.size]:=fun b hb z=>by
     rw[Heap.size_push] at z
     simp only[List.mem_cons,List.mem_singleton,List.not_mem_nil,or_false] at z
     omega
    refine zEf ((Walks.list hh3 _ l hneI items).toS) s.heap.objs.size hSf _ J (fun i v s' es t E Q _ hv hM y x hq=>step i v s' es t E Q hv hM.eq_with hM.toks (fun b o hb e=>hM.heap b o (far b hb) e) y x hq) (items.size - 0) 0 _ (by omega) (Nat.zero_le _)
     ⟨⟨_,Heap.get?_push_size _ rfl,rfl,rfl⟩,(hl1.push _)⟩ ⟨fun b o _ e=>Heap.get?_push_of_some _ (Heap.get?_push_of_some _ e),rfl,rfl,rfl,Nat.le_refl _⟩ ⟨#[],.fresh 0 0 led,⟨⟨_,0,Heap.get?_push_of_some _ hS,rfl,rfl,rfl,rfl⟩,zCE 0 0 led,(show 0*5 < 7*3 by decide)⟩,J0⟩ ?hR
    case hR =>
     intro s' hm hS'
     obtain⟨h',g',d',tk',os'⟩:=s'
     have eg:g'=s.gens:=hm.gens
     have ed:d'=s.drawn:=hm.drawn
     have eo:os'=s.os:=hm.os
     subst eg;subst ed;subst eo
     show wpAny _ _ _ _ _ _
     refine wpAny_pure ?_
     show wpAny _ _ (ret Value.none) _ _ _
     exact wpAny_pure ⟨rfl,h',tk',rfl,hS',fun b o hb e=>hm.heap b o (far b hb) (Heap.get?_push_of_some _ (Heap.get?_push_of_some _ e))⟩
   ·cases r₂ with
    | error e=>exact hr₂
    | ok fl₂ =>
     cases fl₂ with
     | ret r =>
      obtain⟨rfl,h',tk,rfl,⟨es,t,x,y⟩,hk'⟩:=hr₂
      repeat (any_goals (first | assumption | wp_step))
      exact h _ _ es t x y hk'
     | _=>exact hr₂.elim
  | _=>exact hr.elim
end
end PySem
namespace L2
open PySem PySem.Spec PyProof.Rows
section
variable {X:Cx} {pins:List (Addr × Obj)} {σ:St} {H:Hp} {s:Shared}
theorem zGm {k:Kd} {x:V} {u:Value} {A:Around} (hk:IsK H k x) (rx:RelV x u) {M:Model} (E:Value->Shared->Prop) (Q:Bool->Shared->Prop) (h:Q true s):wpAny M A (isSame u u) Q E s:=by
 cases k with
 | num i =>
  unfold IsK at hk;subst hk;obtain⟨t,rfl⟩:=rx
  unfold isSame
  dsimp only
  have e:((t+1 == 0 || t+1 == 0):Bool)=false:=by simp
  split
  ·unfold isSame.cachedInt
   rw[if_neg (by rw[e];decide)]
   exact wpAny_bind (wpAny_rule (wpAny_pure h))
  ·unfold isSame.created
   rw[if_neg (by rw[e];decide),if_pos (beq_self_eq_true _)]
   exact wpAny_pure h
 | txt i =>
  unfold IsK at hk;subst hk;obtain⟨t,rfl⟩:=rx
  unfold isSame
  dsimp only
  unfold isSame.created
  have e:((t+1 == 0 || t+1 == 0):Bool)=false:=by simp
  rw[if_neg (by rw[e];decide),if_pos (beq_self_eq_true _)]
  exact wpAny_pure h
 | tup ks =>
  unfold IsK at hk;obtain⟨a,vs,rfl,ha,_,hks⟩:=hk;cases rx
  unfold isSame
  dsimp only
  rw[if_pos (beq_self_eq_true _)]
  exact wpAny_pure h
theorem zGJ (I:Inv X pins σ H s):∀ (n:Nat) {k:Kd} {x:V} {u:Value} {A:Around},k.deep<=n->IsK H k x->RelV x u ->
  ∀ (E:Value->Shared->Prop) (Q:Bool->Shared->Prop),Q false s->wpAny (model X.prog X.w) A (ofAClassStatement n u) Q E s:=by
 intro n
 induction n with
 | zero =>
  intro k x u A hd hk rx E Q h
  cases k with
  | num i=>unfold IsK at hk;subst hk;obtain⟨t,rfl⟩:=rx;unfold ofAClassStatement;exact wpAny_pure h
  | txt i=>unfold IsK at hk;subst hk;obtain⟨t,rfl⟩:=rx;unfold ofAClassStatement;exact wpAny_pure h
  | tup ks=>unfold Kd.deep at hd;omega
 | succ n ih =>
  intro k x u A hd hk rx E Q h
  cases k with
  | num i=>unfold IsK at hk;subst hk;obtain⟨t,rfl⟩:=rx;unfold ofAClassStatement;exact wpAny_pure h
  | txt i=>unfold IsK at hk;subst hk;obtain⟨t,rfl⟩:=rx;unfold ofAClassStatement;exact wpAny_pure h
  | tup ks =>
   unfold IsK at hk;obtain⟨a,vs,rfl,ha,_,hks⟩:=hk;cases rx
   obtain⟨its,r1,⟨o,ho,hc,m,hdt⟩,_⟩:=I.tuple (SqT.of ha)
   have hT:s.TypeIs (.ref a) "tuple" := ⟨o,ho,hc⟩
   unfold Kd.deep at hd
   have hdk:∀ j∈ks,j.deep<=n:=fun j hj=>Nat.le_trans (Kd.deep_le hj) (by omega)
   unfold ofAClassStatement
   refine wpAny_bind (wpAny_typeOf hT ?_)
   dsimp only
   rw[if_pos (by decide)]
   refine wpAny_bind (wpAny_pure ?_)
   rw[if_neg (by decide)]
   refine wpAny_bind (wpAny_seqItems (s:=s) ho hdt ?_)
   dsimp only
   refine wpAny_bind ?_
   rw[← Array.forIn_toList]
   refine wpAny_forIn_list _ (fun Qq r s'=>r.1=none/\s'=s/\∃ lf,(∀ j∈lf,j.deep<=n)/\TK H lf Qq) _ ?_ ?_ _ _ ⟨rfl,rfl,ks,hdk,vs,hks,by simpa using r1⟩
   ·rintro y Qq r s' ⟨hr,rfl,lf,hl,t1⟩
    obtain⟨k,kr,x,rfl,hk,rx,t2⟩:=t1.cons_inv
    refine wpAny_bind (ih (hl k List.mem_cons_self) hk rx _ _ ?_)
    rw[if_neg (by decide)]
    exact wpAny_pure ⟨rfl,rfl,kr,fun j hj=>hl j (List.mem_cons_of_mem _ hj),t2⟩
   ·rintro ⟨r1,r2⟩ s' ⟨hr,rfl,_⟩
    simp only at hr
    subst hr
    exact wpAny_pure h
theorem zHd (I:Inv X pins σ H s):∀ (n:Nat) {k:Kd} {x:V} {u:Value} {A:Around},k.deep<=n->IsK H k x->RelV x u ->
  ∀ (E:Value->Shared->Prop) (Q:Bool->Shared->Prop),(∀ c,Q c s)->wpAny (model X.prog X.w) A (hashByValue n u) Q E s:=by
 intro n
 induction n with
 | zero =>
  intro k x u A hd hk rx E Q h
  cases k with
  | num i=>unfold IsK at hk;subst hk;obtain⟨t,rfl⟩:=rx;unfold hashByValue;exact wpAny_pure (h _)
  | txt i=>unfold IsK at hk;subst hk;obtain⟨t,rfl⟩:=rx;unfold hashByValue;exact wpAny_pure (h _)
  | tup ks=>unfold Kd.deep at hd;omega
 | succ n ih =>
  intro k x u A hd hk rx E Q h
  cases k with
  | num i=>unfold IsK at hk;subst hk;obtain⟨t,rfl⟩:=rx;unfold hashByValue;exact wpAny_pure (h _)
  | txt i=>unfold IsK at hk;subst hk;obtain⟨t,rfl⟩:=rx;unfold hashByValue;exact wpAny_pure (h _)
  | tup ks =>
   unfold IsK at hk;obtain⟨a,vs,rfl,ha,_,hks⟩:=hk;cases rx
   obtain⟨its,r1,⟨o,ho,hc,m,hdt⟩,_⟩:=I.tuple (SqT.of ha)
   have hT:s.TypeIs (.ref a) "tuple" := ⟨o,ho,hc⟩
   unfold Kd.deep at hd
   have hdk:∀ j∈ks,j.deep<=n:=fun j hj=>Nat.le_trans (Kd.deep_le hj) (by omega)
   unfold hashByValue
   refine wpAny_bind (wpAny_specialOf hT PySem.F.slot_tuple_hash.lookup ?_)
   dsimp only
   refine wpAny_bind (wpAny_seqItems (s:=s) ho hdt ?_)
   refine wpAny_bind ?_
   show wpAny _ _ (forIn its.toArray _ _) _ _ _
   rw[← Array.forIn_toList]
   refine wpAny_forIn_list _ (fun Qq r s'=>s'=s/\∃ lf,(∀ j∈lf,j.deep<=n)/\TK H lf Qq) _ ?_ ?_ _ _ ⟨rfl,ks,hdk,vs,hks,by simpa using r1⟩
   ·rintro y Qq r s' ⟨rfl,lf,hl,t1⟩
    obtain⟨k,kr,x,rfl,hk,rx,t2⟩:=t1.cons_inv
    refine wpAny_bind (ih (hl k List.mem_cons_self) hk rx _ _ fun c=>?_)
    cases c with
    | false=>rw[if_pos (show (!false)=true from rfl)];exact wpAny_pure (wpAny_pure (h _))
    | true=>rw[if_neg (by decide)];exact wpAny_pure ⟨rfl,kr,fun j hj=>hl j (List.mem_cons_of_mem _ hj),t2⟩
   ·rintro ⟨r1,r2⟩ s' ⟨rfl,_⟩
    cases r1 <;> exact wpAny_pure (h _)
theorem zEB {α:Type} {M:Model} {A:Around} {t e:Sem α} {Q:α->Shared->Prop} {E:Value->Shared->Prop} {c:Prop} [Decidable c] (h1:wpAny M A t Q E s) (h2:wpAny M A e Q E s):wpAny M A (if c then t else e) Q E s:=by
 split
 ·exact h1
 ·exact h2
theorem Jv {α β:Type} {R:α->β->Prop} {l:List α} {m:List β} (h:Paired R l m):∀ {i:Nat} {e:β},m[i]? = some e->∃ a,l[i]? = some a/\R a e:=by
 induction h with
 | nil=>intro i e he;simp at he
 | cons r t ih =>
  intro i e he
  cases i with
  | zero=>simp at he;subst he;exact⟨_,rfl,r⟩
  | succ i=>simp at he;obtain⟨a,h1,h2⟩:=ih he;exact⟨a,by simpa using h1,h2⟩
theorem zHI (I:Inv X pins σ H s) {k:Kd} {x:V} {u:Value} {A:Around} (hk:IsK H k x) (hd:k.deep<=6) (rx:RelV x u) (l:List Value) (hl:∀ y∈l,∃ k' x',IsK H k' x'/\k'.deep<=6/\RelV x' y)
  (E:Value->Shared->Prop) (Q:Bool->Shared->Prop) (h:Q false s):wpAny (model X.prog X.w) A (searchCouldBeSeen u l) Q E s:=by
 unfold searchCouldBeSeen
 refine wpAny_bind ?_
 refine wpAny_forIn_list _ (fun Qq r s'=>r.1=none/\s'=s/\∀ y∈Qq,∃ k' x',IsK H k' x'/\k'.deep<=6/\RelV x' y) _ ?_ ?_ _ _ ⟨rfl,rfl,hl⟩
 ·rintro y Qq r s' ⟨hr,rfl,hl⟩
  obtain⟨k',x',hk',hd',rx'⟩:=hl y List.mem_cons_self
  have nx:∀ z∈Qq,∃ k' x',IsK H k' x'/\k'.deep<=6/\RelV x' z:=fun z hz=>hl z (List.mem_cons_of_mem _ hz)
  refine zEB (wpAny_pure ⟨rfl,rfl,nx⟩) ?_
  ·refine wpAny_bind (zCi I 8 (by omega) hk rx _ _ s'.toks ?_)
   rw[if_neg (by decide)]
   refine wpAny_bind (zCi I 8 (by omega) hk' rx' _ _ s'.toks ?_)
   rw[if_neg (by decide)]
   refine wpAny_bind (zGJ I 8 (by omega) hk rx _ _ ?_)
   rw[if_neg (by decide)]
   refine wpAny_bind (zGJ I 8 (by omega) hk' rx' _ _ ?_)
   rw[if_neg (by decide)]
   exact wpAny_pure ⟨rfl,rfl,nx⟩
 ·rintro ⟨r1,r2⟩ s' ⟨hr,rfl,_⟩
  simp only at hr
  subst hr
  exact wpAny_pure h
def ER (w:World) (H:Hp) (q:Kd × V) (e:Int × Value):Prop:=e.1=q.1.hsh w/\RelV q.2 e.2/\IsK H q.1 q.2/\q.1.deep<=6
def bS (qs:List (Kd × V)) (k:Kd):Nat->Bool:=fun i=>(qs[i]?.map fun q=>decide (q.1=k)).getD false
theorem zBX {qs:List (Kd × V)} {k:Kd} {i:Nat} {q:Kd × V} (h:qs[i]? = some q):bS qs k i=decide (q.1=k):=by unfold bS;rw[h];rfl
theorem zFL (I:Inv X pins σ H s) {k:Kd} {x:V} {u:Value} {A:Around} {qs:List (Kd × V)} {es:Array (Int × Value)} (hu:A.units+8 < cLine) (pr:Paired (ER X.w H) qs es.toList) (hk:IsK H k x) (hd:k.deep<=6) (rx:RelV x u) :
  KeyS X.prog X.w A s es u (k.hsh X.w) (bS qs k):=by
 have gt:∀ {i:Nat} {e:Int × Value},es[i]? = some e->∃ q,qs[i]? = some q/\ER X.w H q e:=fun {i e} h=>by
  obtain⟨q,h1,h2⟩:=Jv pr (i:=i) (e:=e) (by simpa using h)
  exact⟨q,h1,h2⟩
 refine⟨fun i e h=>?_,fun i e h hb=>?_,fun i e h E Q hq=>?_,fun E Q hq=>?_,?_,fun E Q hq=>zHd I 8 (by omega) hk rx E Q fun c=>hq c s.toks⟩
 ·obtain⟨q,h1,h2,h3,h4,h5⟩:=gt h
  rw[zBX h1]
  have z:=zBl I 6 (A:=A) h5 h4 hk h3 rx (by omega)
  rw[Kd.eqb_dec] at z
  exact z
 ·obtain⟨q,h1,h2,_⟩:=gt h
  rw[zBX h1] at hb
  rw[h2,of_decide_eq_true hb]
 ·obtain⟨q,h1,h2,h3,h4,h5⟩:=gt h
  exact zGm h4 h3 E Q hq
 ·refine zHI I hk hd rx _ (fun y hy=>?_) E Q hq
  obtain⟨e,he,rfl⟩:=List.mem_map.mp hy
  have he2:e∈es:=by
   have:=Array.mem_toList_iff.mp he
   exact (Array.mem_filter.mp this).1
  obtain⟨i,hi⟩:=List.mem_iff_getElem?.mp (Array.mem_toList_iff.mpr he2)
  obtain⟨q,h1,h2,h3,h4,h5⟩:=gt (i:=i) (e:=e) (by simpa using hi)
  exact⟨q.1,q.2,h4,h5,h3⟩
 ·cases k with
  | num i=>unfold IsK at hk;subst hk;obtain⟨t,rfl⟩:=rx;exact .inl ⟨i,_,rfl⟩
  | txt y =>
   unfold IsK at hk;subst hk;obtain⟨t,rfl⟩:=rx
   refine .inr (.inl ⟨y,_,rfl,fun i e he hs=>?_⟩)
   obtain⟨⟨pk,px⟩,p1,p2,hr,p3,p4⟩:=gt he
   rw[zBX p1]
   dsimp only at p3 hr ⊢
   cases pk with
   | num j=>unfold IsK at p3;subst p3;obtain⟨t',e'⟩:=hr;rw[e'] at hs;cases hs
   | txt z =>
    unfold IsK at p3;subst p3;obtain⟨t',e'⟩:=hr;rw[e']
    rw[← Kd.eqb_dec]
    unfold Kd.eqb
    rfl
   | tup ls=>unfold IsK at p3;obtain⟨c,ws,rfl,_⟩:=p3;rw[show e.2=Value.ref c from hr] at hs;cases hs
  | tup ks=>unfold IsK at hk;obtain⟨a,vs,rfl,_⟩:=hk;cases rx;exact .inr (.inr ⟨a,rfl⟩)
end
end L2
namespace L2
open PySem PySem.Spec PyProof.Rows
theorem zAz {α β:Type} {R:α->β->Prop} {m m':List β} (p:m'.Perm m):∀ {l:List α},Paired R l m->∃ l',l'.Perm l/\Paired R l' m':=by
 induction p with
 | nil=>intro l h;exact⟨l,.refl _,h⟩
 | cons x p ih =>
  intro l h
  cases h with
  | cons r t =>
   obtain⟨l',p',h'⟩:=ih t
   exact⟨_::l',p'.cons _,.cons r h'⟩
 | swap x y r =>
  intro l h
  cases h with
  | cons r1 t =>
   cases t with
   | cons r2 t=>exact⟨_::_::_,.swap ..,.cons r2 (.cons r1 t)⟩
 | trans p1 p2 ih1 ih2 =>
  intro l h
  obtain⟨l1,q1,h1⟩:=ih2 h
  obtain⟨l2,q2,h2⟩:=ih1 h1
  exact⟨l2,q2.trans q1,h2⟩
def SK (w:World) (H:Hp) (ks:List Kd) (es:Array (Int × Value)):Prop:=∃ qs:List (Kd × V),Paired (ER w H) qs es.toList/\(qs.map (·.1)).Nodup/\∀ k,k∈qs.map (·.1) ↔ k∈ks
theorem Jz:∀ {ks l:List Kd},l.Nodup->l ⊆ ks->ks.length<=l.length->ks.Nodup
 | [],_,_,_,_=>List.nodup_nil
 | k::r,l,nd,sb,hl=>by
  by_cases hk:k∈r
  ·have s2:l ⊆ r:=fun j hj=>(List.mem_cons.mp (sb hj)).elim (fun z=>z ▸ hk) id
   have:=nd.length_le_of_subset s2
   rw[List.length_cons] at hl
   omega
  ·refine List.nodup_cons.mpr ⟨hk,Jz (l:=l.filter fun j=>decide (j ≠ k)) (List.filter_sublist.nodup nd) (fun j hj=>?_) ?_⟩
   ·obtain⟨h1,h2⟩:=List.mem_filter.mp hj
    exact (List.mem_cons.mp (sb h1)).elim (fun z=>absurd z (of_decide_eq_true h2)) id
   ·have s3:l ⊆ k::l.filter fun j=>decide (j ≠ k):=fun j hj=>by
     by_cases e:j=k
     ·rw[e];exact List.mem_cons_self
     ·exact List.mem_cons_of_mem _ (List.mem_filter.mpr ⟨hj,decide_eq_true e⟩)
    have:=nd.length_le_of_subset s3
    rw[List.length_cons] at this hl
    omega
theorem SK.size {w:World} {H:Hp} {ks:List Kd} {es:Array (Int × Value)} (h:SK w H ks es):es.size<=ks.length/\(es.size=ks.length ↔ ks.Nodup):=by
 obtain⟨qs,pr,nd,me⟩:=h
 have e:(qs.map (·.1)).length=es.size:=by rw[List.length_map,Paired.length pr,Array.length_toList]
 have s1:qs.map (·.1) ⊆ ks:=fun k hk=>(me k).mp hk
 have s2:ks ⊆ qs.map (·.1):=fun k hk=>(me k).mpr hk
 have l1:=nd.length_le_of_subset s1
 refine⟨by omega,fun he=>?_,fun hn=>?_⟩
 ·exact Jz nd s1 (by omega)
 ·have l2:=hn.length_le_of_subset s2
  omega
theorem SK.old {w:World} {H:Hp} {ks:List Kd} {es:Array (Int × Value)} {k:Kd} (h:SK w H ks es) (hk:k∈ks):SK w H (ks++[k]) es:=by
 obtain⟨qs,pr,nd,me⟩:=h
 refine⟨qs,pr,nd,fun j=>?_⟩
 rw[me j,List.mem_append,List.mem_singleton]
 exact⟨.inl,fun z=>z.elim id fun z=>z ▸ hk⟩
theorem SK.new {w:World} {H:Hp} {ks:List Kd} {es es':Array (Int × Value)} {k:Kd} {x:V} {u:Value} (h:SK w H ks es) (hn:k ∉ ks) (hp:es'.toList.Perm ((k.hsh w,u)::es.toList)) (rx:RelV x u) (hk:IsK H k x) (hd:k.deep<=6):SK w H (ks++[k]) es':=by
 obtain⟨qs,pr,nd,me⟩:=h
 obtain⟨qs',p',pr'⟩:=zAz hp (Paired.cons (a:=(k,x)) ⟨rfl,rx,hk,hd⟩ pr)
 have pm:=p'.map (fun q:Kd × V=>q.1)
 refine⟨qs',pr',pm.nodup_iff.mpr (List.nodup_cons.mpr ⟨fun z=>hn ((me k).mp z),nd⟩),fun j=>?_⟩
 rw[pm.mem_iff,List.map_cons,List.mem_cons,me j,List.mem_append,List.mem_singleton]
 exact⟨fun z=>z.elim .inr .inl,fun z=>z.elim .inr .inl⟩
theorem zCb {H:Hp}:∀ {ks:List Kd} {xs:List V} {i:Nat} {x:V},IsKs H ks xs->xs[i]? = some x->∃ k,ks[i]? = some k/\IsK H k x
 | [],xs,i,x,h,e=>by unfold IsKs at h;rw[h] at e;simp at e
 | k::ks,xs,i,x,h,e=>by
  unfold IsKs at h
  obtain⟨v,vr,rfl,h1,h2⟩:=h
  cases i with
  | zero=>simp at e;subst e;exact⟨k,rfl,h1⟩
  | succ i=>simp at e;obtain⟨k',h3,h4⟩:=zCb h2 e;exact⟨k',by simpa using h3,h4⟩
section
variable {X:Cx} {pins:List (Addr × Obj)} {σ:St} {H:Hp} {s:Shared}
def sko (a:Addr) (n:Nat):HO:=.ext fun h=>∃ es t,SAt h a es t/\es.size=n
theorem SAt.at {h h':Heap} {a:Addr} {es:Array (Int × Value)} {t:SetTable} (x:SAt h a es t) (k:∀ o,h.get? a=some o->h'.get? a=some o):SAt h' a es t:=by
 obtain⟨⟨o,ep,ho,r⟩,x2,x3⟩:=x
 exact⟨⟨o,ep,k _ ho,r⟩,x2,x3⟩
theorem zGb {P:Program} {w:World} {H:Hp} {h:Heap} {a:Addr} {es:Array (Int × Value)} {t:SetTable} (x:SAt h a es t):ObjOk P w H h a (sko a es.size) :=
 ⟨⟨es,t,x,rfl⟩,let ⟨o,_,ho,_⟩:=x.ob;⟨o,ho⟩,fun h1 h2 ⟨es,t,x,e⟩ k=>⟨es,t,SAt.at x k,e⟩⟩
theorem zDP (hc:X.calm=true) (I:Inv X pins σ H s) {l:Addr} {xs:List V} {ks:List Kd} (hl:SqL X.K H l xs) (hk:IsKs H ks xs) (hd:∀ k∈ks,k.deep<=6) (hn:ks.length<=76) (hu:X.A.units+12 < cLine) {Q:Value->Shared->Prop} {E:Value->Shared->Prop}
  (h:∀ s' es (t:SetTable),Inv X pins σ (upd H s.heap.objs.size (sko s.heap.objs.size es.size)) s'->SK X.w H ks es->Q (.ref s.heap.objs.size) s'):wpAny (model X.prog X.w) X.A (call (.type "set") [.ref l]) Q E s:=by
 obtain⟨its,r',pl,hz⟩:=I.list hl
 have hlen:ks.length=its.length:=by rw[← r'.length];exact (IsKs.length hk).symm
 refine zCM (zDR (I.ok.hd hc) pl.isList (fun i es=>SK X.w H (ks.take i) es) ⟨[],.nil,List.nodup_nil,fun k=>by simp⟩ (fun i v s' es t E Q hv es' ht hB y x hq=>?_) fun h' tk es t x y hB ht=>?_)
 ·have hv':its[i]? = some v:=by simpa using hv
  have hi:i < ks.length:=by rw[hlen];exact (List.getElem?_eq_some_iff.mp hv').1
  obtain⟨xv,hx,rx⟩:=Jv r' hv'
  obtain⟨k,hk1,hk2⟩:=zCb hk hx
  have hdk:=hd k (List.mem_of_getElem? hk1)
  have etake:ks.take (i+1)=ks.take i++[k]:=by rw[List.take_add_one,hk1];rfl
  have I':Inv X pins σ H s':=by rw[es'];exact I.kept (fun b o e=>hB b o (Heap.lt_size e) e) (Nat.le_trans I.tk ht)
  have hsz:=y.size.1
  rw[List.length_take] at hsz
  unfold setAdd
  refine wpAny_holding (wpAny_bind (zCM (zHy I' 6 hdk hk2 rx (by simp only[Around.in1_units];omega) _ _ s'.toks fun tk' hk'=>?_)))
  have I2:Inv X pins σ H { s' with toks:=tk' }:=I'.tok _ (Nat.le_trans I'.tk hk')
  have y0:=y
  obtain⟨qs,pr,nd,me⟩:=y
  refine zCM (zFg (s:={ s' with toks:=tk' }) (zFL I2 (by simp only[Around.in1_units];omega) pr hk2 hdk rx) x (by omega) (fun j hj hb hle=>?_) fun hno h2 es2 t2 tk2 sb pm S3 hle=>?_)
  ·refine hq false s'.heap es t tk' (Heap.SameBut.refl _ _) hk' x ?_
   rw[etake]
   refine y0.old ((me k).mp ?_)
   have hjq:j < qs.length:=by rw[Paired.length pr,Array.length_toList];exact hj
   rw[zBX (List.getElem?_eq_getElem hjq)] at hb
   exact List.mem_map.mpr ⟨_,List.getElem_mem hjq,of_decide_eq_true hb⟩
  ·refine hq true h2 es2 t2 tk2 sb (Nat.le_trans hk' hle) S3 ?_
   rw[etake]
   refine y0.new (fun z=>?_) pm rx hk2 hdk
   obtain⟨q,hq1,hq2⟩:=List.mem_map.mp ((me k).mpr z)
   obtain⟨j,hj⟩:=List.getElem?_of_mem hq1
   have hjl:j < es.size:=by
    rw[← Array.length_toList,← Paired.length pr]
    exact (List.getElem?_eq_some_iff.mp hj).1
   have:=hno j hjl
   rw[zBX hj,hq2] at this
   simp at this
 ·refine h _ es t (I.laid (t':=tk) (fun b o e=>hB b o (Heap.lt_size e) e) (Nat.le_refl _) (zGb x) (Nat.le_trans I.tk ht)) ?_
  have:ks.take its.toArray.size=ks:=by rw[List.size_toArray,← hlen];exact List.take_length
  rw[← this]
  exact y
def zGL (K:W.Frag):List V->Hp->VK->Prop:=fun vs H Q=>∃ l xs ks,vs=[.ref l]/\SqL K H l xs/\IsKs H ks xs/\(∀ k∈ks,k.deep<=6)/\ks.length<=76/\∀ p n,H p=none->n<=ks.length->(n=ks.length ↔ ks.Nodup)->Q (.ref p) (upd H p (sko p n))
theorem zCR (hc:X.calm=true) (hu:X.A.units+12 < cLine):Q9 X (.type "set") (zGL X.K):=by
 intro pins s σ H vs us Q I r h
 obtain⟨l,xs,ks,rfl,hl,hk,hd,hn,q⟩:=h
 obtain⟨u,rfl,rx⟩:=Y3 r
 cases rx
 exact zDP hc I hl hk hd hn hu fun s' es t I' y=>⟨.ref _,_,I',rfl,q _ es.size (I.hok.fresh (Nat.le_refl _)) y.size.1 y.size.2⟩
def zE8:List V->Hp->VK->Prop:=fun vs H Q=>∃ p n,vs=[.ref p]/\H p=some (sko p n)/\n<=1000/\Q (.int (n:Nat)) H
theorem zCU:Q9 X (.builtin "len") zE8:=by
 intro pins s σ H vs us Q I r h
 obtain⟨p,n,rfl,hp,hn,q⟩:=h
 obtain⟨u,rfl,rx⟩:=Y3 r
 cases rx
 obtain⟨⟨es,t,x,rfl⟩,_,_⟩:=I.hok p _ hp
 obtain⟨o,ep,ho,hd,hx⟩:=x.ob
 exact call_len_set ho hx hd (Q6 x.inv) (by omega) ⟨.int _,H,I.tok _,⟨_,rfl⟩,q⟩
end
end L2
namespace L2
open PySem PySem.Spec PyProof.Rows
@[reducible] def itT:Bool->String | true => "tuple_iterator" | false => "list_iterator"
def SI:Bool->Heap->Addr->Addr->Nat->Prop
 | true,h,it,a,i=>h.IsTupleIter it a i
 | false,h,it,a,i=>h.IsListIter it a i
theorem SI.at {b:Bool} {h h':Heap} {it a:Addr} {i:Nat} (x:SI b h it a i) (e:∀ o,h.get? it=some o->h'.get? it=some o):SI b h' it a i:=by
 cases b with
 | true=>obtain⟨o,ho,r⟩:=x;exact⟨o,e _ ho,r⟩
 | false=>obtain⟨o,ho,r⟩:=x;exact⟨o,e _ ho,r⟩
theorem SI.obj {b:Bool} {h:Heap} {it a:Addr} {i:Nat} (x:SI b h it a i):∃ o,h.get? it=some o/\∀ v,o.data ≠ .cell v:=by
 cases b with
 | true=>obtain⟨o,ho,_,d⟩:=x;exact⟨o,ho,fun v z=>by rw[d] at z;cases z⟩
 | false=>obtain⟨o,ho,_,d⟩:=x;exact⟨o,ho,fun v z=>by rw[d] at z;cases z⟩
abbrev zH2 (f0 f1:Value) (TI TO:Addr):Obj:={ cls:=.type "zip",dict:=none,data:=.fields #[f0,f1,.bool false,.ref TI,.ref TO],slots := #[] }
abbrev zIE (vs:Array Value):Obj:={ cls:=.type "tuple",data:=.seq vs }
abbrev zDp (qs:List (Bool × Addr × Addr)):List Addr:=qs.map (·.2.1)
structure Apart (z TI TO:Addr) (qs:List (Bool × Addr × Addr)):Prop where
 nd:(z::TI::TO::zDp qs).Nodup
 sep:∀ q∈qs,q.2.2 ∉ (z::TI::TO::zDp qs)
 pos:0 < qs.length
 few:qs.length<=8
section
variable {prog:Program} {w:World} {A:Around} {E:Value->Shared->Prop} {s:Shared} {z TI TO:Addr} {qs:List (Bool × Addr × Addr)} {i:Nat} {f0 f1:Value}
structure Mid (fr:Bool) (h₀ h:Heap) (z TI TO:Addr) (qs:List (Bool × Addr × Addr)) (i k:Nat) (vals:List Value):Prop where
 hz:∃ f0 f1,h.get? z=some (zH2 f0 f1 TI TO)/\(fr=false->f0=.none\/∃ T:Addr,f0=rawInt T)
 to:∃ ws:Array Value,ws.size=qs.length/\h.get? TO=some (zIE ws)/\(fr=true->∀ j,j < k->ws[j]? = vals[j]?)
 it:∀ (j:Nat) (q:Bool × Addr × Addr),qs[j]? = some q->SI q.1 h q.2.1 q.2.2 (if j < k then i+1 else i)
 sz:h.objs.size=h₀.objs.size
 keep:∀ c o,c ≠ z->c ≠ TO->c ∉ zDp qs->h₀.get? c=some o->h.get? c=some o
end
end L2
namespace L2
open PySem PySem.Spec PyProof.Rows
abbrev itO (b:Bool) (a:Addr):Obj:={ cls:=.type (itT b),data:=.fields #[.ref a,.int 0 0] }
theorem SI.new {b:Bool} {h:Heap} {it a:Addr} (e:h.get? it=some (itO b a)):SI b h it a 0:=by
 cases b with
 | true=>exact⟨_,e,rfl,rfl⟩
 | false=>exact⟨_,e,rfl,rfl⟩
end L2
namespace L2
open PySem PySem.Spec PyProof.Rows
theorem zAp {prog:Program} {w:World} {A:Around} {R:Result->Shared->Prop} {s:Shared} {elt target iter:Expr} {ifs:List Expr} {scope:Scope} {pos:Pos} {it acc:Value} {env:Env} (I:Nat->Shared->Prop)
  (turn:∀ n s,I n s->wpAny (model prog w) A (pyNext it) (fun r s₁=>match r with
   | none=>R (.ok .next) s₁
   | some v => wpAny (model prog w) A (letOwnedTupleGo target it v) (fun _ s₁ => wpAny (model prog w) A (assign target env v) (fun _ s₂ =>
     wpAny (model prog w) A (forIn ifs true fun c r=>if r=true then do let ok ← isTrue c env (eval c env);pure (ForInStep.yield ok) else pure (ForInStep.yield r)) (fun ok s₃ =>
      if ok=true then wpAny (model prog w) A (eval elt env) (fun x s₄ =>
       wpAny (model prog w) A (call (.builtin "list.append") [acc,x]) (fun _ s₅=>∃ m,m < n/\I m s₅) (notedBy (model prog w) A env fun e s'=>R (.error e) s') s₄) (notedBy (model prog w) A env fun e s'=>R (.error e) s') s₃
      else ∃ m,m < n/\I m s₃) (notedBy (model prog w) A env fun e s'=>R (.error e) s') s₂) (notedBy (model prog w) A env fun e s'=>R (.error e) s') s₁) (notedBy (model prog w) A env fun e s'=>R (.error e) s') s₁) (notedBy (model prog w) A env fun e s'=>R (.error e) s') s)
  (n:Nat) (h:I n s):codeAny (model prog w) A (.compLoop (.ListComp elt [⟨target,iter,ifs,0⟩] scope pos) 0 it acc env) R s:=by
 refine codeAny_loop rfl I (fun n s hI=>?_) n h
 show wpAny _ A ((compTurn (.ListComp elt [⟨target,iter,ifs,0⟩] scope pos) 0 it acc env).onRaise (fun x=>do noteFrame x env;theTreesLotGoes x)) _ _ s
 refine wpAny_noted ?_
 rw[compTurn_list]
 refine wpAny_bind (wpAny_standAt (wpAny_bind (wpAny_mono (turn n s hI) (fun r s₁ h₁=>?_) fun _ _ h'=>h')))
 cases r with
 | none=>exact wpAny_pure h₁
 | some v =>
  refine wpAny_bind (wpAny_mono h₁ (fun _ s₁' h₁=>?_) fun _ _ h'=>h')
  refine wpAny_bind (wpAny_mono h₁ (fun _ s₂ h₂=>wpAny_bind (wpAny_mono h₂ (fun ok s₃ h₃=>?_) fun _ _ h'=>h')) fun _ _ h'=>h')
  cases ok with
  | false=>exact wpAny_pure ⟨rfl,h₃⟩
  | true =>
   exact wpAny_bind (wpAny_bind (wpAny_mono h₃ (fun x s₄ h₄=>wpAny_bind (wpAny_mono h₄ (fun _ s₅ h₅=>wpAny_pure (wpAny_pure ⟨rfl,h₅⟩)) fun _ _ h'=>h')) fun _ _ h'=>h'))
def cxN (X:Cx) (scope:Scope) (cl:List (Str × Addr)) (xs:List Str) (cs:List Str) (C:Addr) (s₀:Shared) (H₀:Hp) (fp:List Addr):Cx where
 prog:=X.prog
 w:=X.w
 K:=X.K
 mg:=X.mg
 base:=X.base
 A:=X.A
 N:=xs++cs
 s₀:=s₀
 H₀:=H₀
 env:=compEnvC scope cl C X.env
 outer:=X.stack
 stack:=X.stack
 ex:=fp
 fn:=fun y=>xs.contains y
 calm:=X.calm
 pn:=[]
 xe:=fun _ _=>False
structure CScopeN (X:Cx) (scope:Scope) (cl:List (Str × Addr)) (xs:List Str) (cs:List Str) (js:List Nat):Prop where
 clos:closureFor scope X.env=pure cl
 kind:scope.kind=.function
 nocell:∀ y∈scope.names,y.2 ≠ .cell
 names:∀ y∈scope.names,y.2=.local->scope.names.lookup y.1=some .local
 sub:∀ y c,cl.lookup y=some c->X.env.cells.lookup y=some c
 has:∀ y,((relabel scope X.env).names.lookup y=some .cell\/(relabel scope X.env).names.lookup y=some .free)->∃ c,cl.lookup y=some c
 nox:∀ x∈xs,cl.lookup x=none
 nd:(xs++cs).Nodup
 cap:Paired (fun y j=>X.N[j]? = some y) cs js
 capk:∀ y∈cs,(X.env.kindOf y=some .cell\/X.env.kindOf y=some .free)/\((relabel scope X.env).names.lookup y=some .cell\/(relabel scope X.env).names.lookup y=some .free)
def W3 (J:It) (g:TG) (tc:TT) (te:TE) (n:Nat) (τ:St) (fin:List V->Hp->Prop) (H1:Hp):Prop:=∃ W:Nat->Nat->List V->Hp->Prop,(∃ m,W 0 m [] H1)/\∀ i m ys H,W i m ys H ->
 (J.stop i H/\fin ys H)\/(J.go i H/\ys.length < sizeLine/\∃ N:List V->Hp->Prop,(∀ ys' H',N ys' H'->∃ m',m' < m/\W (i+1) m' ys' H')/\∀ v H',J.yld i H v H'->∀ ρ:St,ρ.length=n ->
  g v (ρ++τ) H' fun σ2 H2=>(∃ ρ2:St,ρ2.length=n/\σ2=ρ2++τ)/\tc σ2 H2 fun b H3=>if b=true then te σ2 H3 (fun y H4=>N (ys++[y]) H4) else N ys H3)
def WD (n:Nat) (wi:TI) (g:TG) (js:List Nat) (tc:TT) (te:TE):TE:=fun σ H Q=>wi σ H fun J H1=>W3 J g tc te n (YR σ js) (fun ys H2=>∀ p,H2 p=none->Q (.ref p) (upd H2 p (.lst ys))) H1
section
variable {X:Cx} {scope:Scope} {cl:List (Str × Addr)} {xs:List Str} {cs:List Str} {js:List Nat} {pins:List (Addr × Obj)} {σ:St} {H:Hp} {s:Shared}
theorem zG6 {C:Addr} {fp:List Addr} (S:CScopeN X scope cl xs cs js) (I:Inv X pins σ H s) (hC:s.heap.objs.size<=C) (hf:∀ b∈fp,ZO X pins H b) (hlt:∀ b∈fp,b < s.heap.objs.size) :
  (cxN X scope cl xs cs C s H fp).Ok where
 mod:=I.ok.mod
 kind:=S.kind
 glob:=I.ok.glob
 blt:=I.ok.blt
 above:=hC
 inj:=fun y z c h1 h2=>I.ok.inj y z c (S.sub y c h1) (S.sub z c h2)
 has:=fun y h=>S.has y h
 cab:=fun y c h1 h2=>by
  have e:y∈xs:=List.contains_iff_mem.mp h1
  have h2':cl.lookup y=some c:=h2
  rw[S.nox y e] at h2'
  cases h2'
 hd:=I.ok.hd
 frames:=I.ok.frames
 stk:=.inl rfl
 exf:=fun b hb=>⟨fun e=>absurd (hlt b hb) (Nat.not_lt.mpr (by rw[show b=C from e];exact hC)),fun y c h=>(hf b hb).2.2.2.2.1 y c (S.sub y c h)⟩
 bs:=fun b o e=>⟨(I.bs b o e).1,(I.bs b o e).2⟩
 bsz:=Nat.le_trans I.ok.bsz I.sz
 noex:=fun b o e hb=>by
  rcases (hf b hb).2.2.2.1 with z | z
  ·exact I.ok.noex b o e z
  ·exact absurd (Nat.lt_of_lt_of_le (Heap.lt_size e) (Nat.le_trans I.ok.bsz z)) (Nat.lt_irrefl _)
 exfs:=fun b hb z=>by
  rcases List.mem_cons.mp (I.stkSub b z) with e | e
  ·exact (hf b hb).2.1 e
  ·exact (hf b hb).2.2.1 e
 funs:=I.stack
 frf:=fun b hb=>I.stkFree b hb
theorem zBs {C D:Addr} {fp:List Addr} {h₁:Heap} {tk:Nat} {oD:Obj} (S:CScopeN X scope cl xs cs js) (I:Inv X pins σ H s) (hf:∀ b∈fp,ZO X pins H b) (hlt:∀ b∈fp,b < s.heap.objs.size)
  (hD:s.heap.objs.size<=D) (hC:s.heap.objs.size<=C) (hDC:D ≠ C) (hns:h₁.Ns C (fun _=>none)) (keep:∀ b o,s.heap.get? b=some o->h₁.get? b=some o) (eD:h₁.get? D=some oD) (hoD:∀ v,oD.data ≠ .cell v) (htk:1<=tk:=by first | assumption | exact Nat.le_trans (Inv.tk (by assumption)) (Nat.le_add_right _ _) | omega) :
  Inv (cxN X scope cl xs cs C s H fp) [(D,oD)] (List.replicate xs.length none++YR σ js) H { s with heap:=h₁,toks:=tk }:=by
 refine⟨zG6 S I hC hf hlt,rfl,I.bare,Un.kept keep,⟨_,hns,fun i y v h1 h2 h3=>?_⟩,fun y c e=>?_,I.hok.fresh hC,fun y c e=>I.freeC y c (S.sub y c e),fun p hp=>?_,I.hok.kept keep,?_,htk⟩
 ·by_cases hi:i < xs.length
  ·rw[List.getElem?_append_left (by simp;exact hi),List.getElem?_replicate,if_pos hi] at h2
   simp at h2
  ·have h1':cs[i - xs.length]? = some y:=by
    have z:(xs++cs)[i]? = some y:=h1
    rw[List.getElem?_append_right (by omega)] at z
    exact z
   have h2':(YR σ js)[i - xs.length]? = some (some v):=by
    rw[List.getElem?_append_right (by simp;omega)] at h2
    simpa using h2
   generalize i - xs.length=k at h1' h2'
   obtain⟨j,ej,ey⟩:=Zd S.cap h1'
   have e2:σ[j]? = some (some v):=by
    unfold YR at h2'
    rw[List.getElem?_map,ej] at h2'
    have h3':(σ[j]?).getD none=some v:=by simpa using h2'
    cases q:σ[j]? with
    | none=>rw[q] at h3';cases h3'
    | some w'=>rw[q] at h3';exact congrArg some h3'
   obtain⟨k1,k2⟩:=S.capk y (List.mem_of_getElem? h1')
   obtain⟨m,hn,hl⟩:=I.loc
   obtain⟨u,r,l⟩:=hl j y v ey e2 (by
    rcases k1 with z | z
    ·exact .inr (.inl z)
    ·exact .inr (.inr z))
   refine⟨u,r,.inr ⟨k2,?_⟩⟩
   obtain⟨c',e'⟩:=S.has y k2
   rcases l with ⟨z,_⟩ | ⟨_,c,ec,z⟩
   ·rcases k1 with k1 | k1 <;> (rw[k1] at z;cases z)
   ·have e3:=S.sub y c' e'
    rw[ec] at e3
    cases e3
    obtain⟨o,eo,d⟩:=z
    exact⟨_,e',o,keep _ _ eo,d⟩
 ·obtain⟨v,o,eo,d⟩:=I.cell y c (S.sub y c e)
  exact⟨v,o,keep _ _ eo,d⟩
 ·have e:p=(D,oD):=by
   rcases List.mem_append.mp hp with z | z
   ·exact absurd z (by show p ∉ ([]:List (Addr × Obj));simp)
   ·simpa using z
  subst e
  exact⟨eD,I.hok.fresh hD,hDC,I.newfs hD,hoD⟩
 ·show (List.replicate xs.length none++YR σ js).length=(xs++cs).length
  rw[List.length_append,List.length_append,zBI,Paired.length S.cap,List.length_replicate]
theorem zCK {elt iter tg:Expr} {pos:Pos} {ifs:List Expr} {g:TG} {tc:TT} {te:TE} {C D it:Addr} {fp:List Addr} {tn:Nat->Heap->Prop} {J:It} {s₂:Shared} {H₂:Hp} {R:Result->Shared->Prop} {fin:List V->Hp->Prop} {s₃:Shared} {ρ₀:St}
  (hc:X.calm=true) (S:CScopeN X scope cl xs cs js) (hC:s₂.heap.objs.size<=C) (hD:s₂.heap.objs.size<=D) (hDC:D ≠ C) (hlt:∀ b∈fp,b < s₂.heap.objs.size)
  (T:Turn X.prog X.w X.K tg J fp it tn)
  (hcells:∀ y c,cl.lookup y=some c->c < s₂.heap.objs.size)
  (hfs:∀ b∈fp,b ∉ frs X.stack) (hDfs:D ∉ frs X.stack)
  (hcf:∀ b∈fp,∀ y c,cl.lookup y=some c->c ≠ b)
  (hg:PG (cxN X scope cl xs cs C s₂ H₂ fp) tg g) (ht:Jh (cxN X scope cl xs cs C s₂ H₂ fp) ifs tc) (he:PE (cxN X scope cl xs cs C s₂ H₂ fp) elt te)
  (I₃:Inv (cxN X scope cl xs cs C s₂ H₂ fp) [] (ρ₀++YR σ js) H₂ s₃) (hρ:ρ₀.length=xs.length) (st:tn 0 s₃.heap) (hn:∀ b∈fp,H₂ b=none) (eD:s₃.heap.get? D=some (Qv [] 0)) (hDn:H₂ D=none)
  (hW:W3 J g tc te xs.length (YR σ js) fin H₂)
  (hR:∀ s' σ' H' ys us n,Inv (cxN X scope cl xs cs C s₂ H₂ fp) [] σ' H' s'->Vals ys us->ys.length<=sizeLine->s'.heap.get? D=some (Qv us n)->H' D=none->fin ys H'->R (.ok .next) s') :
  codeAny (model X.prog X.w) X.A (.compLoop (.ListComp elt [⟨tg,iter,ifs,0⟩] scope pos) 0 (.ref it) (.ref D) (compEnvC scope cl C X.env)) R s₃:=by
 obtain⟨W,⟨m0,w0⟩,turn⟩:=hW
 have bC:∀ b∈fp,b ≠ C:=fun b hb e=>absurd (hlt b hb) (Nat.not_lt.mpr (by rw[e];exact hC))
 have bD:∀ b∈fp,b ≠ D:=fun b hb e=>absurd (hlt b hb) (Nat.not_lt.mpr (by rw[e];exact hD))
 have cD:∀ y c,cl.lookup y=some c->c ≠ D:=fun y c h e=>absurd (hcells y c h) (Nat.not_lt.mpr (by rw[e];exact hD))
 have pinD:∀ {τ:St} {H':Hp} {s':Shared} {us:List Value} {k:Nat},Inv (cxN X scope cl xs cs C s₂ H₂ fp) [] τ H' s'->s'.heap.get? D=some (Qv us k)->H' D=none->Inv (cxN X scope cl xs cs C s₂ H₂ fp) [(D,Qv us k)] τ H' s' :=
  fun {τ H' s' us k} I e hn=>I.pins_of fun p hp=>by
   have ep:p=(D,Qv us k):=by simpa using hp
   subst ep
   exact⟨e,hn,hDC,hDfs,fun v z=>by
    have z':Data.seq us.toArray k=Data.cell v:=z
    cases z'⟩
 have fpk:∀ {H':Hp} {us:List Value} {k:Nat},(∀ b∈fp,H' b=none)->∀ b∈fp,ZO (cxN X scope cl xs cs C s₂ H₂ fp) [(D,Qv us k)] H' b:=fun {H' us k} hn b hb =>
  ⟨hn b hb,bC b hb,hfs b hb,.inl hb,fun y c e=>hcf b hb y c e,fun p hp=>by
   have ep:p=(D,Qv us k):=by
    rcases List.mem_append.mp hp with z | z
    ·exact absurd (show p∈([]:List (Addr × Obj)) from z) (by simp)
    ·simpa using z
   subst ep
   exact Ne.symm (bD b hb)⟩
 refine zAp (env:=compEnvC scope cl C X.env) (fun n s'=>∃ i ρ H' ys us k,Inv (cxN X scope cl xs cs C s₂ H₂ fp) [] (ρ++YR σ js) H' s'/\ρ.length=xs.length/\tn i s'.heap/\(∀ b∈fp,H' b=none)/\Vals ys us/\ys.length<=sizeLine/\s'.heap.get? D=some (Qv us k)/\H' D=none/\W i n ys H') ?_ m0
  ⟨0,ρ₀,H₂,[],[],0,I₃,hρ,st,hn,.nil,Nat.zero_le _,eD,hDn,w0⟩
 rintro n s4 ⟨i,ρ,H4,ys,us,k,I4,hρ4,st4,fr4,rv,hz,eD4,hD4,w4⟩
 have I4':=pinD I4 eD4 hD4
 rcases turn i n ys H4 w4 with ⟨stop,f⟩ | ⟨go,hlen,N,hN,step⟩
 ·refine wpAny_mono (T.done (cxN X scope cl xs cs C s₂ H₂ fp) rfl rfl rfl hc i [(D,Qv us k)] s4 _ H4 (fun _ _=>False) I4' (fpk fr4) st4 stop) (fun r s5 ⟨hr,I5⟩=>?_) (fun _ _ z=>z.elim)
  subst hr
  show R (.ok .next) s5
  exact hR s5 _ H4 ys us k (I5.pins_of fun p hp=>absurd hp (by simp)) rv hz (I5.pin (D,Qv us k) (List.mem_append_right _ (by simp))).1 hD4 f
 ·refine wpAny_mono (T.item (cxN X scope cl xs cs C s₂ H₂ fp) rfl rfl rfl hc i [(D,Qv us k)] s4 _ H4 (fun _ _=>False) I4' (fpk fr4) st4 go) (fun r s5 ⟨u,hr,h5⟩=>?_) (fun _ _ z=>z.elim)
  subst hr
  show wpAny _ _ (letOwnedTupleGo tg (.ref it) u) _ _ s5
  refine wpAny_mono h5 (fun _ s6 ⟨v,H6,I6,r6,y6,st6,fr6⟩=>?_) (fun _ _ z=>z.elim)
  have I6':=I6.pinned (fpk fr6) (T.obj _ _ st6)
  refine wpAny_mono (hg _ s6 _ H6 v u _ I6' r6 (step v H6 y6 ρ hρ4)) (fun _ s7 ⟨σ7,H7,I7,⟨ρ7,hρ7,e7⟩,q7⟩=>?_) (fun _ _ z=>False.elim z)
  subst e7
  have st7:∀ {τ:St} {H':Hp} {s':Shared},Inv (cxN X scope cl xs cs C s₂ H₂ fp) ([(D,Qv us k)]++Y8 fp s6.heap) τ H' s'->tn (i+1) s'.heap/\∀ b∈fp,H' b=none:=fun {τ H' s'} I=>by
   refine⟨T.keep _ _ _ st6 fun b hb o e=>(I.pin (b,o) (List.mem_append_right _ (List.mem_append_right _ (YD hb e)))).1,fun b hb=>?_⟩
   obtain⟨o,e,d⟩:=T.obj _ _ st6 b hb
   exact (I.pin (b,o) (List.mem_append_right _ (List.mem_append_right _ (YD hb e)))).2.1
  have dD:∀ {τ:St} {H':Hp} {s':Shared},Inv (cxN X scope cl xs cs C s₂ H₂ fp) ([(D,Qv us k)]++Y8 fp s6.heap) τ H' s'->s'.heap.get? D=some (Qv us k)/\H' D=none:=fun {τ H' s'} I=>by
   have q:=I.pin (D,Qv us k) (List.mem_append_right _ (List.mem_append_left _ (by simp)))
   exact⟨q.1,q.2.1⟩
  refine wpAny_mono (ht _ s7 _ H7 _ I7 q7) (fun ok s8 ⟨H8,I8,q8⟩=>?_) (fun _ _ z=>False.elim z)
  cases ok with
  | false =>
   obtain⟨m',hm,w8⟩:=hN _ _ q8
   exact⟨m',hm,i+1,ρ7,H8,ys,us,k,I8.pins_of fun p hp=>absurd hp (by simp),hρ7,(st7 I8).1,(st7 I8).2,rv,hz,(dD I8).1,(dD I8).2,w8⟩
  | true =>
   rw[if_pos rfl]
   refine wpAny_mono (he _ s8 _ H8 _ I8 q8) (fun xv s9 ⟨y,H9,I9,r9,n9⟩=>?_) (fun _ _ z=>False.elim z)
   obtain⟨m',hm,w9⟩:=hN _ _ n9
   obtain⟨eD9,hD9⟩:=dD I9
   have hl:=rv.length
   refine call_meets F.slot_list_append ⟨_,eD9,rfl⟩ F.entry_list_append (F.args_list_append_2 _ _) (PySem.list_append D us.toArray k xv (by rw[List.size_toArray];omega)) ⟨eD9,?_⟩
   have I9':Inv (cxN X scope cl xs cs C s₂ H₂ fp) [] (ρ7++YR σ js) H9 s9:=I9.pins_of fun p hp=>absurd hp (by simp)
   have q:=PySem.IsL.update eD9 (·.push xv)
   have e1:us.toArray.push xv=(us++[xv]).toArray:=by simp
   rw[e1] at q
   have I10:=I9'.turned (h':=s9.heap.update D (Obj.mapSeq (·.push xv))) (t':=s9.toks) (it:=D) (fun b o hb e=>(Heap.get?_update_other s9.heap _ (Ne.symm hb)).trans e) hD9 hDC (.inr hD) (fun y c e=>cD y c e) (fun p hp=>absurd (show p∈([]:List (Addr × Obj)) from hp) (by simp))
   refine⟨m',hm,i+1,ρ7,H9,ys++[y],us++[xv],_,I10,hρ7,?_,(st7 I9).2,rv.append (.cons r9 .nil),?_,q,hD9,w9⟩
   ·exact T.keep _ _ _ (st7 I9).1 fun b hb o e=>(Heap.get?_update_other s9.heap _ (Ne.symm (bD b hb))).trans e
   ·rw[List.length_append,List.length_singleton]
    omega
theorem WS {elt iter tg:Expr} {pos:Pos} {ifs:List Expr} {g:TG} {tc:TT} {te:TE} {it:Addr} {fp:List Addr} {tn:Nat->Heap->Prop} {J:It} {E:Value->Shared->Prop} {fin:List V->Hp->Prop} {RR:Value->Addr->Result->Shared->Prop}
  (hc:X.calm=true) (S:CScopeN X scope cl xs cs js) (I:Inv X pins σ H s) (T:Turn X.prog X.w X.K tg J fp it tn) (st:tn 0 s.heap) (hf:∀ b∈fp,ZO X pins H b)
  (hg:∀ C s₁ H₁,PG (cxN X scope cl xs cs C s₁ H₁ fp) tg g) (ht:∀ C s₁ H₁,Jh (cxN X scope cl xs cs C s₁ H₁ fp) ifs tc) (he:∀ C s₁ H₁,PE (cxN X scope cl xs cs C s₁ H₁ fp) elt te) (hW:W3 J g tc te xs.length (YR σ js) fin H)
  (hRR:∀ D C s' ys H' m,Inv X pins σ (upd H' D (.lst ys)) s'->s'.heap.Ns C m->Off X pins (upd H' D (.lst ys)) C->H' D=none->fin ys H'->RR (.ref D) C (.ok .next) s') :
  wpAny (model X.prog X.w) X.A (newList []) (fun acc s₃=>wpAny (model X.prog X.w) X.A (newFunctionEnv scope X.env.globals cl [] X.env.qual none .none (some X.env)) (fun cenv s₄ =>
   codeAny (model X.prog X.w) X.A (.compStart (.ListComp elt [⟨tg,iter,ifs,0⟩] scope pos) 0 (.ref it) acc { cenv with scope:=relabel scope X.env }) (RR acc cenv.locals) s₄) E s₃) E s:=by
 have hlt:∀ b∈fp,b < s.heap.objs.size:=fun b hb=>by
  obtain⟨o,e,_⟩:=T.obj _ _ st b hb
  exact Heap.lt_size e
 refine wpAny_newObj_type (wpAny_newFunctionEnv S.nocell (by intro y hy;simp at hy) (fun h₁ hns₁ hsb₁=>?_) S.kind)
 dsimp only at hns₁ hsb₁ ⊢
 generalize hH2:s.heap.push { cls:=.type "list",dict:=none,data:=.seq ([]:List Value).toArray }=H2 at hns₁ hsb₁ ⊢
 have hC:H2.objs.size=s.heap.objs.size+1:=by rw[← hH2,Heap.size_push]
 have hDC:s.heap.objs.size ≠ H2.objs.size:=by rw[hC];exact Nat.ne_of_lt (Nat.lt_succ_self _)
 have hCle:s.heap.objs.size<=H2.objs.size:=by rw[hC];exact Nat.le_succ _
 have below:∀ b,b < s.heap.objs.size->b ≠ H2.objs.size/\b ≠ s.heap.objs.size:=fun b hb=>⟨by rw[hC];exact Nat.ne_of_lt (Nat.lt_succ_of_lt hb),Nat.ne_of_lt hb⟩
 have old:∀ b o,s.heap.get? b=some o->h₁.get? b=some o:=fun b o e=>hsb₁.extBut b o (below b (Heap.lt_size e)).1 (Heap.get?_push_of_some _ (hH2 ▸ Heap.get?_push_of_some _ e))
 have hacc:h₁.get? s.heap.objs.size=some (Qv [] 0):=hsb₁.extBut _ _ hDC (Heap.get?_push_of_some _ (hH2 ▸ Heap.get?_push_size _ rfl))
 have hDn:H s.heap.objs.size=none:=I.hok.fresh (Nat.le_refl _)
 have I₁:=zBs (C:=H2.objs.size) (D:=s.heap.objs.size) (tk:=s.toks+([]:List (Str × Value)).length) (oD:=Qv [] 0) S I hf hlt (Nat.le_refl _) hCle hDC hns₁ old hacc (fun v z=>by
  have z':Data.seq ([]:List Value).toArray 0=Data.cell v:=z
  cases z')
 have I₁':=I₁.pins_of (pins':=[]) fun p hp=>absurd hp (by simp)
 have stk:tn 0 h₁:=T.keep _ _ _ st fun b _ o e=>old b o e
 have Y5:codeAny (model X.prog X.w) X.A (.compLoop (.ListComp elt [⟨tg,iter,ifs,0⟩] scope pos) 0 (.ref it) (.ref s.heap.objs.size) (compEnvC scope cl H2.objs.size X.env)) (RR (.ref s.heap.objs.size) H2.objs.size)
   { s with heap:=h₁,toks:=s.toks+([]:List (Str × Value)).length }:=by
  refine zCK (s₂:=s) (H₂:=H) (fp:=fp) (fin:=fin) hc S hCle (Nat.le_refl _) hDC hlt T (fun y c e=>?_) (fun b hb z=>?_) (I.newfs (Nat.le_refl _)) (fun b hb y c e=>(hf b hb).2.2.2.2.1 y c (S.sub y c e)) (hg _ _ _) (ht _ _ _) (he _ _ _) I₁' (by rw[List.length_replicate]) stk (fun b hb=>(hf b hb).1) hacc hDn hW ?_
  ·obtain⟨v,q⟩:=I.cell y c (S.sub y c e)
   exact q.lt
  ·rcases List.mem_cons.mp (I.stkSub b z) with e | e
   ·exact (hf b hb).2.1 e
   ·exact (hf b hb).2.2.1 e
  ·intro s' σ' H' ys us n I' rv hz eD hDn' hfin
   have u':Un (frs X.stack) fp H H' s.heap s'.heap:=I'.base
   have u:Un (frs X.stack) fp H (upd H' s.heap.objs.size (.lst ys)) s.heap s'.heap:=⟨u'.keep,u'.slot,fun b o e n hx=>by rw[QQ (below b (Heap.lt_size e)).2];exact u'.free b o e n hx,u'.there,
    fun b xs e=>by rw[QQ (QO e hDn)];exact u'.tups b xs e,fun b o w' e=>by rw[QQ (QO e hDn)];exact u'.frzs b o w' e,fun b ps e=>by
     obtain⟨more,q⟩:=u'.tbls b ps e
     exact⟨more,by rw[QQ (QO e hDn)];exact q⟩⟩
   have hok:HOk X.prog X.w (upd H' s.heap.objs.size (.lst ys)) s'.heap:=HOk.track I'.hok hDn' ⟨hz,us,n,rv,eD⟩
   have I2:Inv X pins σ (upd H' s.heap.objs.size (.lst ys)) s':=I.call' (ch:=fp) I'.os u hok I'.bare I'.tk fun b hb=>⟨(hf b hb).2.2.2.1,(hf b hb).2.1,(hf b hb).2.2.2.2.1,(hf b hb).2.2.2.2.2⟩
   obtain⟨m,hm,_⟩:=I'.loc
   refine hRR _ _ s' ys H' m I2 hm ⟨?_,Ne.symm (below _ I.lt).1,Nat.le_trans I.sz hCle,fun y c e=>?_,fun p hp=>?_⟩ hDn' hfin
   ·rw[QQ (Ne.symm hDC)];exact I'.free
   ·obtain⟨v,q⟩:=I.cell y c e
    exact (below _ q.lt).1
   ·exact (below _ (Heap.lt_size (I.pin p hp).1)).1
 exact codeAny_compStart_list Y5 (T.self X.A 0 _ _ _ stk Y5)
theorem zDU {elt iter tg:Expr} {pos:Pos} {ifs:List Expr} {wi:TI} {g:TG} {tc:TT} {te:TE} (hc:X.calm=true) (S:CScopeN X scope cl xs cs js) (hi:PI X tg iter wi)
  (hg:∀ C s₁ H₁ fp,PG (cxN X scope cl xs cs C s₁ H₁ fp) tg g) (ht:∀ C s₁ H₁ fp,Jh (cxN X scope cl xs cs C s₁ H₁ fp) ifs tc) (he:∀ C s₁ H₁ fp,PE (cxN X scope cl xs cs C s₁ H₁ fp) elt te)
  (hs:∀ x,foldedSetIterable iter X.env x=pure x:=by intro _;rfl):PE X (.ListComp elt [⟨tg,iter,ifs,0⟩] scope pos) (WD xs.length wi g js tc te):=by
 intro pins s σ H Q I h
 rw[eval_ListComp]
 refine wpAny_comprehension_free (use:=none) rfl hs S.clos S.kind S.names (thn (hi pins s σ H _ I h) fun v s1 h1=>thn h1 fun itv s2 h2=>?_)
 obtain⟨it,fp,tn,J,H2,e,I2,T,st2,f2,hW⟩:=h2
 subst e
 refine WS (RR:=fun acc C=>compPost (model X.prog X.w) X.A X.xe none (EP X pins σ Q) acc C) hc S I2 T st2 f2 (fun C s₁ H₁=>hg C s₁ H₁ fp) (fun C s₁ H₁=>ht C s₁ H₁ fp) (fun C s₁ H₁=>he C s₁ H₁ fp) hW ?_
 intro D C s' ys H' m I' hm O hD hfin
 exact⟨m,hm,fun h' k=>⟨.ref D,_,I'.off (t':=s'.toks) O k,rfl,hfin D hD⟩⟩
theorem zDH {i:Nat} {y:Str} {py spos:Pos} {elt iter tg:Expr} {pos:Pos} {ifs:List Expr} {wi:TI} {g:TG} {tc:TT} {te:TE} (hN:X.N.Nodup) (hi':X.N[i]? = some y) (hy:Loc X.env.scope y) (hc:X.calm=true) (S:CScopeN X scope cl xs cs js) (hi:PI X tg iter wi)
  (hg:∀ C s₁ H₁ fp,PG (cxN X scope cl xs cs C s₁ H₁ fp) tg g) (ht:∀ C s₁ H₁ fp,Jh (cxN X scope cl xs cs C s₁ H₁ fp) ifs tc) (he:∀ C s₁ H₁ fp,PE (cxN X scope cl xs cs C s₁ H₁ fp) elt te)
  (hsw:swapsWith (.ListComp elt [⟨tg,iter,ifs,0⟩] scope pos) (some (.Name y py)) spos.line X.env=pure true:=by rfl)
  (hf:X.fn y=true\/X.env.scope.names.lookup y=some .local:=by first | exact .inl rfl | exact .inr rfl | assumption)
  (hs:∀ x,foldedSetIterable iter X.env x=pure x:=by intro _;rfl):PS X (.Assign [.Name y py] (.ListComp elt [⟨tg,iter,ifs,0⟩] scope pos) spos) (Wy (WD xs.length wi g js tc te) (YW i)):=by
 intro pins s σ H D I h
 rw[exec_Assign_Name_used _ _ _ _ hsw]
 refine wpAny_bind (wpAny_standAt (wpAny_bind ?_))
 show wpAny _ X.A (do let _ ← comprehension (.ListComp elt [⟨tg,iter,ifs,0⟩] scope pos) scope X.env _ (newList []) false (eval iter X.env) (some (assign (.Name y py) X.env))) _ _ s
 refine wpAny_bind (wpAny_mono (wpAny_comprehension_free (use:=some (assign (.Name y py) X.env)) (Q:=fun _ s'=>SP X pins D .next s') rfl hs S.clos S.kind S.names
  (thn (hi pins s σ H _ I h) fun v s1 h1=>thn h1 fun itv s2 h2=>?_)) (fun _ s' hq=>wpAny_pure (wpAny_pure hq)) fun _ _ e=>e)
 obtain⟨it,fp,tn,J,H2,e,I2,T,st2,f2,hW⟩:=h2
 subst e
 refine WS (RR:=fun acc C=>compPost (model X.prog X.w) X.A X.xe (some (assign (.Name y py) X.env)) (fun _ s'=>SP X pins D .next s') acc C) hc S I2 T st2 f2 (fun C s₁ H₁=>hg C s₁ H₁ fp) (fun C s₁ H₁=>ht C s₁ H₁ fp) (fun C s₁ H₁=>he C s₁ H₁ fp) hW ?_
 intro D' C s' ys H' m I' hm O hD hfin
 show wpAny _ X.A (assign (.Name y py) X.env (.ref D')) _ _ s'
 refine wpAny_assign_Name (WM I' hN hi' hy (v:=.ref D') rfl (fun s'' I'' sb=>?_) hf)
 obtain⟨a,sb,ha⟩:=sb
 have hCa:C ≠ a:=by
  rcases ha with e | e
  ·rw[e];exact O.l
  ·exact fun z=>O.c y a e z.symm
 exact⟨m,hm.sameBut sb hCa,fun h' k=>⟨_,_,I''.off (t':=s''.toks) O k,hfin D' hD⟩⟩
end
structure CompOkN (sc scope:Scope) (N:List Str) (xs:List Str) (cs:List Str) (js:List Nat):Prop where
 k1:scope.kind=.function
 k2:sc.kind=.function
 nocell:∀ y∈scope.names,y.2 ≠ .cell
 names:∀ y∈scope.names,y.2=.local->scope.names.lookup y.1=some .local
 fr:∀ y∈scope.names,y.2=.free->sc.names.lookup y.1=some .cell/\y.1 ∉ xs
 nd:(xs++cs).Nodup
 cap:js.map (fun j=>N[j]?)=cs.map some
 capk:∀ y∈cs,sc.names.lookup y=some .cell/\scope.names.lookup y=some .free
theorem WW {X:Cx} {sc scope:Scope} {xs:List Str} {cs:List Str} {js:List Nat} {qual:Str} {L f:Addr} {cd:Value} (hE:X.env=envOfC qual sc L f cd) (c:CompOkN sc scope X.N xs cs js):CScopeN X scope (Q4 X.env scope.names []) xs cs js:=by
 have hcs:∀ y,sc.names.lookup y=some .cell->(X.env.cells.lookup y).isSome=true:=fun y h=>by
  rw[hE]
  exact PySem.W.cellsFrom_some _ _ _ (.inl h)
 have hn:∀ y∈scope.names,y.2=.free->(X.env.cells.lookup y.1).isSome=true:=fun y hy h=>hcs _ (c.fr y hy h).1
 have hk:X.env.scope.kind=.function:=by rw[hE];exact c.k2
 have kd:∀ y,X.env.kindOf y=sc.names.lookup y:=fun y=>by rw[hE];rfl
 refine⟨ZU hn,c.k1,c.nocell,c.names,fun y d h=>ZN _ _ hn (fun z d h=>by cases h) h,fun y h=>?_,fun x hx=>ZD _ _ (fun z hz h e=>(c.fr z hz h).2 (by rw[e];exact hx)) rfl,c.nd,WI c.cap,fun y hy=>?_⟩
 ·exact Option.isSome_iff_exists.mp (Z6 _ _ (.inl (Yz c.nocell h)))
 ·have q:=c.capk y hy
  have q1:X.env.kindOf y=some .cell:=(kd y).trans q.1
  exact⟨.inl q1,.inl (Yn hk q1 q.2)⟩
section
variable {X:Cx}
theorem zDB {i:Nat} {y:Str} {py spos:Pos} (hN:X.N.Nodup) (hi':X.N[i]? = some y) (hy:Loc X.env.scope y) (xs:List Str) (cs:List Str) (js:List Nat) {sc scope:Scope} {qual:Str} {L f:Addr} {cd:Value} {elt iter t tg:Expr} {pos:Pos} {wi:TI} {g:TG} {tc:TT} {te:TE} (hE:X.env=envOfC qual sc L f cd) (c:CompOkN sc scope X.N xs cs js) (hc:X.calm=true) (hi:PI X tg iter wi)
  (hg:∀ C s₁ H₁ fp,PG (cxN X scope (Q4 X.env scope.names []) xs cs C s₁ H₁ fp) tg g) (ht:∀ C s₁ H₁ fp,PT (cxN X scope (Q4 X.env scope.names []) xs cs C s₁ H₁ fp) t tc) (he:∀ C s₁ H₁ fp,PE (cxN X scope (Q4 X.env scope.names []) xs cs C s₁ H₁ fp) elt te)
  (hsw:swapsWith (.ListComp elt [⟨tg,iter,[t],0⟩] scope pos) (some (.Name y py)) spos.line X.env=pure true:=by rfl)
  (hf:X.fn y=true\/X.env.scope.names.lookup y=some .local:=by first | exact .inl rfl | exact .inr rfl | assumption)
  (hs:∀ x,foldedSetIterable iter X.env x=pure x:=by intro _;rfl):PS X (.Assign [.Name y py] (.ListComp elt [⟨tg,iter,[t],0⟩] scope pos) spos) (Wy (WD xs.length wi g js tc te) (YW i)) :=
 zDH hN hi' hy hc (WW hE c) hi hg (fun _ _ _ _=>W9 (ht _ _ _ _)) he hsw hf hs
abbrev zBN (K:W.Frag):TG:=zGp K 2 (zCc (YW 0) (zCc (YW 1) zGu))
theorem zCq {scope:Scope} {cl:List (Str × Addr)} {x y:Str} {cs:List Str} {C:Addr} {s₁:Shared} {H₁:Hp} {fp:List Addr} {px py tp:Pos} {k:Nat} (hc:X.calm=true) (nd:([x,y]++cs).Nodup) (lx:scope.names.lookup x=some .local) (ly:scope.names.lookup y=some .local) :
  PG (cxN X scope cl [x,y] cs C s₁ H₁ fp) (.Tuple [.Name x px,.Name y py] k tp) (zBN X.K) :=
 zCT (X:=cxN X scope cl [x,y] cs C s₁ H₁ fp) hc (Yj (Qg (i:=0) nd rfl (.inl (lookup_relabel_local lx)) (.inl (by show List.contains [x,y] x=true;simp))) (Yj (Qg (i:=1) nd rfl (.inl (lookup_relabel_local ly)) (.inl (by show List.contains [x,y] y=true;simp))) zAn))
theorem zDG {i:Nat} {z:Str} {pz spos:Pos} (hN:X.N.Nodup) (hi':X.N[i]? = some z) (hy:Loc X.env.scope z) (x y:Str) (cs:List Str) (js:List Nat) {sc scope:Scope} {qual:Str} {L f:Addr} {cd:Value} {elt iter t:Expr} {px py tp pos:Pos} {k:Nat} {wi:TI} {tc:TT} {te:TE} (hE:X.env=envOfC qual sc L f cd) (c:CompOkN sc scope X.N [x,y] cs js) (lx:scope.names.lookup x=some .local) (ly:scope.names.lookup y=some .local) (hc:X.calm=true) (hi:PI X (.Tuple [.Name x px,.Name y py] k tp) iter wi)
  (ht:∀ C s₁ H₁ fp,PT (cxN X scope (Q4 X.env scope.names []) [x,y] cs C s₁ H₁ fp) t tc) (he:∀ C s₁ H₁ fp,PE (cxN X scope (Q4 X.env scope.names []) [x,y] cs C s₁ H₁ fp) elt te)
  (hsw:swapsWith (.ListComp elt [⟨.Tuple [.Name x px,.Name y py] k tp,iter,[t],0⟩] scope pos) (some (.Name z pz)) spos.line X.env=pure true:=by rfl)
  (hf:X.fn z=true\/X.env.scope.names.lookup z=some .local:=by first | exact .inl rfl | exact .inr rfl | assumption)
  (hs:∀ x,foldedSetIterable iter X.env x=pure x:=by intro _;rfl):PS X (.Assign [.Name z pz] (.ListComp elt [⟨.Tuple [.Name x px,.Name y py] k tp,iter,[t],0⟩] scope pos) spos) (Wy (WD 2 wi (zBN X.K) js tc te) (YW i)) :=
 zDB hN hi' hy [x,y] cs js hE c hc hi (fun _ _ _ _=>zCq hc c.nd lx ly) ht he hsw hf hs
end
end L2
open PySem PyProof.Rows
namespace SM
section
variable {prog:Program} {w:World} {A:Around} {E:Value->Shared->Prop} {s:Shared}
def PK (x:Keyed):Prop:=(∃ n t,x.1=.int n t)/\∃ n t,x.2=.int n t
def AllP (xs:Array Keyed):Prop:=∀ x∈xs.toList,PK x
theorem AllP.at {xs:Array Keyed} (h:AllP xs) {i:Nat} (hi:i < xs.size):PK xs[i]:=h _ (by rw[← Array.getElem_toList];exact List.getElem_mem _)
theorem AllP.push {xs:Array Keyed} {x:Keyed} (h:AllP xs) (hx:PK x):AllP (xs.push x):=fun y hy=>by
 rw[Array.toList_push,List.mem_append,List.mem_singleton] at hy
 exact hy.elim (h y) fun z=>z ▸ hx
theorem AllP.app {xs ys:Array Keyed} (h:AllP xs) (h':AllP ys):AllP (xs++ys):=fun y hy=>by
 rw[Array.toList_append,List.mem_append] at hy
 exact hy.elim (h y) (h' y)
theorem AllP.cut {xs:Array Keyed} (h:AllP xs) (i j:Nat):AllP (xs.extract i j):=fun y hy=>by
 rw[Array.toList_extract] at hy
 refine h y ?_
 exact List.mem_of_mem_drop (List.mem_of_mem_take hy)
theorem AllP.rev {xs:Array Keyed} (h:AllP xs):AllP xs.reverse:=fun y hy=>by
 rw[Array.toList_reverse,List.mem_reverse] at hy
 exact h y hy
theorem AllP.one {x:Keyed} (h:PK x):AllP #[x]:=fun y hy=>by
 rw[List.mem_singleton.mp hy];exact h
theorem AllP.set {xs:Array Keyed} {i:Nat} {x:Keyed} (h:AllP xs) (hx:PK x):AllP (xs.setIfInBounds i x):=fun y hy=>by
 rw[Array.toList_setIfInBounds] at hy
 rcases List.mem_or_eq_of_mem_set hy with z | z
 ·exact h y z
 ·exact z ▸ hx
theorem AllP.perm {xs ys:Array Keyed} (h:AllP xs) (p:ys.Perm xs):AllP ys:=fun y hy=>h y ((Array.perm_iff_toList_perm.mp p).mem_iff.mp hy)
theorem Qa {arr:Array Keyed} {i:Nat} {Q:Keyed->SortSt->Prop} {st:SortSt} (h:i < arr.size) (hP:AllP arr) (q:∀ x,PK x->Q x st):wpS (model prog w) A E s (elem' arr i) Q st:=by
 rw[elem'_eq,Array.getElem?_eq_getElem h]
 exact wpS_pure (q _ (hP.at h))
theorem zA1 {x y:Keyed} {Q:Option Bool->SortSt->Prop} {st:SortSt} (hk:kindOf st=oneType') (hx:PK x) (hy:PK y) (q:∀ b,Q (some b) st):wpS (model prog w) A E s (lt' x y) Q st:=by
 rw[lt'_eq]
 refine wpS_bind (wpS_get (wpS_bind (wpS_lift (wpAny_attempt ?_))))
 rw[hk,keyLt'_oneType]
 obtain⟨⟨n,t,e1⟩,_⟩:=hx
 obtain⟨⟨m,u,e2⟩,_⟩:=hy
 rw[e1,e2]
 exact oneLt_int ⟨rfl,wpS_pure (q _)⟩
theorem zCZ {i j:Nat} {Q:Option Bool->SortSt->Prop} {st:SortSt} (hk:kindOf st=oneType') (hP:AllP (arrOf st)) (hi:i < (arrOf st).size) (hj:j < (arrOf st).size) (q:∀ b,Q (some b) st):wpS (model prog w) A E s (ltAt' i j) Q st:=by
 rw[ltAt'_eq]
 exact wpS_bind (wpS_get (wpS_bind (Qa hi hP fun x hx=>wpS_bind (Qa hj hP fun y hy=>zA1 hk hx hy q))))
theorem QI {c:Prop} [Decidable c] {α:Type} {a b:StateT SortSt Sem α} {Q:α->SortSt->Prop} {st:SortSt} (h1:c->wpS (model prog w) A E s a Q st) (h2:¬ c->wpS (model prog w) A E s b Q st):wpS (model prog w) A E s (if c then a else b) Q st:=by
 by_cases z:c
 ·rw[if_pos z];exact h1 z
 ·rw[if_neg z];exact h2 z
theorem Y5 {β:Type} {a b:Nat} {f:Nat->β->StateT SortSt Sem (ForInStep β)} {c:β} {st:SortSt} {Q:β->SortSt->Prop} (I:β->SortSt->Prop) (J:β->SortSt->Prop) (h0:I c st)
  (hs:∀ i c st,a<=i->i < b->I c st->wpS (model prog w) A E s (f i c) (fun r st'=>match r with | .done c'=>J c' st' | .yield c'=>I c' st') st) (hd:∀ c st,I c st->J c st) (q:∀ c st',J c st'->Q c st'):wpS (model prog w) A E s (forIn [a:b] c f) Q st :=
 wpS_mono (wpS_forRange (fun _ c st=>I c st) (Q:=J) hs hd h0) q
theorem YQ {left:Bool} {key:Keyed} {arr:Array Keyed} {bs n hint:Nat} {Q:Option Nat->SortSt->Prop} {st:SortSt} (hk:kindOf st=oneType') (hP:AllP arr) (hkey:PK key) (hn:bs+n<=arr.size) (hh:hint < n) (q:∀ k,k<=n->Q (some k) st):wpS (model prog w) A E s ((sortPriv% PySem.Builtin.gallop) left key arr bs n hint) Q st:=by
 have beyond:∀ {i:Nat} {Q:Option Bool->SortSt->Prop},i < n->(∀ b,Q (some b) st)->wpS (model prog w) A E s (elem' arr (bs+i) >>= fun x=>if left=true then lt' x key else lt' key x >>= fun l=>pure (l.map (fun x => !x))) Q st:=fun {i Q} hi q =>
  wpS_bind (Qa (by omega) hP fun x hx=>QI (fun _=>zA1 hk hx hkey q) (fun _=>wpS_bind (zA1 hk hkey hx fun b=>wpS_pure (q (!b)))))
 refine wpS_bind (beyond hh fun right=>QI (fun _=>?_) (fun _=>?_))
 ·refine wpS_bind (Y5 (fun c st'=>st'=st/\c.1=none) (fun c st'=>st'=st/\c.1=none) ⟨rfl,rfl⟩ (fun i c st' _ _ h=>?_) (fun c st' h=>h) (fun c st' h=>?_))
  ·obtain⟨rfl,h2⟩:=h
   exact QI (fun _=>wpS_pure ⟨rfl,rfl⟩) fun hlt=>wpS_bind (beyond (by omega) fun more=>QI (fun _=>wpS_pure ⟨rfl,rfl⟩) fun _=>wpS_pure ⟨rfl,rfl⟩)
  ·obtain⟨r,la,ofs⟩:=c
   obtain⟨rfl,h2⟩:=h
   cases h2
   refine wpS_bind (Y5 (fun c st2=>st2=st'/\c.1=none/\c.2.2<=n) (fun c st2=>st2=st'/\c.1=none/\c.2.2<=n) ⟨rfl,rfl,by show hint+min ofs (n - hint)<=n;omega⟩ (fun i c st2 _ _ h=>?_) (fun c st' h=>h) (fun c st2 h=>?_))
   ·obtain⟨rfl,h2,h3⟩:=h
    exact QI (fun _=>wpS_pure ⟨rfl,rfl,h3⟩) fun hlt=>wpS_bind (beyond (by omega) fun more=>QI (fun _=>wpS_pure ⟨rfl,rfl,h3⟩) fun _=>wpS_pure ⟨rfl,rfl,by show c.2.1+(c.2.2 - c.2.1) / 2<=n;omega⟩)
   ·obtain⟨r2,lo,hi⟩:=c
    obtain⟨rfl,h2,h3⟩:=h
    cases h2
    exact wpS_pure (q _ h3)
 ·refine wpS_bind (Y5 (fun c st'=>st'=st/\c.1=none) (fun c st'=>st'=st/\c.1=none) ⟨rfl,rfl⟩ (fun i c st' _ _ h=>?_) (fun c st' h=>h) (fun c st' h=>?_))
  ·obtain⟨rfl,h2⟩:=h
   exact QI (fun _=>wpS_pure ⟨rfl,rfl⟩) fun hlt=>wpS_bind (beyond (by omega) fun more=>QI (fun _=>wpS_pure ⟨rfl,rfl⟩) fun _=>wpS_pure ⟨rfl,rfl⟩)
  ·obtain⟨r,la,ofs⟩:=c
   obtain⟨rfl,h2⟩:=h
   cases h2
   refine wpS_bind (Y5 (fun c st2=>st2=st'/\c.1=none/\c.2.2<=n) (fun c st2=>st2=st'/\c.1=none/\c.2.2<=n) ⟨rfl,rfl,by show hint - la<=n;omega⟩ (fun i c st2 _ _ h=>?_) (fun c st' h=>h) (fun c st2 h=>?_))
   ·obtain⟨rfl,h2,h3⟩:=h
    exact QI (fun _=>wpS_pure ⟨rfl,rfl,h3⟩) fun hlt=>wpS_bind (beyond (by omega) fun more=>QI (fun _=>wpS_pure ⟨rfl,rfl,h3⟩) fun _=>wpS_pure ⟨rfl,rfl,by show c.2.1+(c.2.2 - c.2.1) / 2<=n;omega⟩)
   ·obtain⟨r2,lo,hi⟩:=c
    obtain⟨rfl,h2,h3⟩:=h
    cases h2
    exact wpS_pure (q _ h3)
def Sm (st st':SortSt):Prop:=kindOf st'=kindOf st/\arrOf st'=arrOf st/\pendingOf st'=pendingOf st/\failedOf st'=failedOf st
theorem Sm.refl (st:SortSt):Sm st st:=⟨rfl,rfl,rfl,rfl⟩
theorem Sm.trans {a b c:SortSt} (h:Sm a b) (h':Sm b c):Sm a c:=⟨h'.1.trans h.1,h'.2.1.trans h.2.1,h'.2.2.1.trans h.2.2.1,h'.2.2.2.trans h.2.2.2⟩
theorem ZM {x:String} {Q:Unit->SortSt->Prop} {st:SortSt} (q:Q () st):wpS (model prog w) A E s (liftM (PySem.rule x)) Q st:=wpS_lift (wpAny_rule ⟨rfl,q⟩)
def Lo (a b out:Array Keyed) (ia ib:Nat):Prop:=AllP out/\out.size=ia+ib/\ia+1 < a.size/\ib < b.size
def Hi (a b out:Array Keyed) (na nb:Nat):Prop:=AllP out/\out.size+na+nb=a.size+b.size/\1<=na/\na<=a.size/\2<=nb/\nb<=b.size
theorem Yq {a b:Nat} (h:¬ (a == b)=true):a ≠ b:=fun z=>h (beq_iff_eq.mpr z)
theorem Yi {xs:Array Keyed} {i j:Nat} (h:j<=xs.size):(xs.extract i j).size=j - i:=by rw[Array.size_extract];omega
theorem zCS {a b:Array Keyed} {Q:Array Keyed->SortSt->Prop} {st:SortSt} (hk:kindOf st=oneType') (ha:AllP a) (hb:AllP b) (a0:0 < a.size) (b0:0 < b.size) (q:∀ out st',Sm st st'->AllP out->Q out st'):wpS (model prog w) A E s ((sortPriv% PySem.Builtin.mergeLo) a b) Q st:=by
 refine wpS_bind (ZM (wpS_bind (Qa b0 hb fun x hx=>?_)))
 have h1:=AllP.one hx
 refine QI (fun _=>wpS_pure (q _ _ (Sm.refl _) ((h1.app (ha.cut _ _)).app (hb.cut _ _)))) fun e1=>QI (fun _=>wpS_pure (q _ _ (Sm.refl _) ((h1.app (hb.cut _ _)).app (ha.cut _ _)))) fun e2=>wpS_bind (wpS_get ?_)
 have e1':1 < b.size:=by
  have:¬ (1=b.size):=fun z=>e1 (by rw[← z];rfl)
  omega
 have e2':1 < a.size:=by
  have:¬ (0+1=a.size):=fun z=>e2 (by rw[← z];rfl)
  omega
 refine wpS_bind (wpS_mono (wpS_forRange (fun t c st'=>c.1=none/\Lo a b c.2.1 c.2.2.1 c.2.2.2.1/\t+1<=c.2.1.size/\Sm st st') (Q:=fun c st'=>∃ r,c.1=some r/\AllP r/\Sm st st') (fun t c st' _ ht h=>?_) (fun c st' h=>?_) ⟨rfl,⟨h1,rfl,e2',e1'⟩,Nat.le_refl _,Sm.refl _⟩) fun c st' h=>?_)
 ·obtain⟨r,out,ia,ib,mg⟩:=c
  obtain⟨hr,L,hs,S⟩:=h
  cases hr
  refine wpS_bind (wpS_mono (wpS_forRange (fun j c st2=>c.1=none/\Lo a b c.2.1 c.2.2.1 c.2.2.2.1/\t+1+j<=c.2.1.size/\Sm st st2) (Q:=fun c st2=>(∃ r,c.1=some r/\AllP r/\Sm st st2)\/(c.1=none/\Lo a b c.2.1 c.2.2.1 c.2.2.2.1/\t+2<=c.2.1.size/\Sm st st2)) (fun j c st2 _ hj h=>?_) (fun c st2 h=>?_) ⟨rfl,L,hs,S⟩) fun c st2 h=>?_)
  ·obtain⟨r,out,ia,ib,ac,bc⟩:=c
   obtain⟨hr,⟨l1,l2,l3,l4⟩,hs,S⟩:=h
   cases hr
   have l1:AllP out:=l1
   have l2:out.size=ia+ib:=l2
   have l3:ia+1 < a.size:=l3
   have l4:ib < b.size:=l4
   have hs:t+1+j<=out.size:=hs
   have hk2:kindOf st2=oneType':=S.1.trans hk
   refine wpS_bind (Qa l4 hb fun y hy=>wpS_bind (Qa (by omega) ha fun z hz=>wpS_bind (zA1 hk2 hy hz fun bw=>QI (fun _=>?_) fun _=>?_)))
   ·refine wpS_bind (Qa l4 hb fun y hy=>?_)
    have l5:=l1.push hy
    refine QI (fun _=>wpS_pure (Or.inl ⟨_,rfl,(l5.app (ha.cut _ _)).app (hb.cut _ _),S⟩)) fun ne=>?_
    have ne:ib+1 ≠ b.size:=Yq ne
    refine QI (fun _=>wpS_pure (Or.inr ⟨rfl,⟨l5,?_,l3,?_⟩,?_,S⟩)) fun _=>wpS_pure ⟨rfl,⟨l5,?_,l3,?_⟩,?_,S⟩
    ·show (out.push y).size=ia+(ib+1);rw[Array.size_push];omega
    ·show ib+1 < b.size;omega
    ·show t+2<=(out.push y).size;rw[Array.size_push];omega
    ·show (out.push y).size=ia+(ib+1);rw[Array.size_push];omega
    ·show ib+1 < b.size;omega
    ·show t+1+(j+1)<=(out.push y).size;rw[Array.size_push];omega
   ·refine wpS_bind (Qa (by omega) ha fun y hy=>?_)
    have l5:=l1.push hy
    refine QI (fun _=>wpS_pure (Or.inl ⟨_,rfl,(l5.app (hb.cut _ _)).app (ha.cut _ _),S⟩)) fun ne=>?_
    have ne:ia+1+1 ≠ a.size:=Yq ne
    refine QI (fun _=>wpS_pure (Or.inr ⟨rfl,⟨l5,?_,?_,l4⟩,?_,S⟩)) fun _=>wpS_pure ⟨rfl,⟨l5,?_,?_,l4⟩,?_,S⟩
    ·show (out.push y).size=ia+1+ib;rw[Array.size_push];omega
    ·show ia+1+1 < a.size;omega
    ·show t+2<=(out.push y).size;rw[Array.size_push];omega
    ·show (out.push y).size=ia+1+ib;rw[Array.size_push];omega
    ·show ia+1+1 < a.size;omega
    ·show t+1+(j+1)<=(out.push y).size;rw[Array.size_push];omega
  ·obtain⟨h1,h2,h3,h4⟩:=h
   refine Or.inr ⟨h1,h2,?_,h4⟩
   rw[Nat.zero_max] at h3
   omega
  obtain⟨r,out,ia,ib,ac,bc⟩:=c
  rcases h with ⟨r,hr,hP,S⟩ | ⟨hr,L,hs,S⟩
  ·cases hr
   exact wpS_pure ⟨_,rfl,hP,S⟩
  cases hr
  refine wpS_bind (ZM (wpS_bind (Y5 (fun c st3=>c.1=none/\Lo a b c.2.1 c.2.2.1 c.2.2.2.1/\t+2<=c.2.1.size/\Sm st st3) (fun c st3=>(∃ r,c.1=some r/\AllP r/\Sm st st3)\/(c.1=none/\Lo a b c.2.1 c.2.2.1 c.2.2.2.1/\t+2<=c.2.1.size/\Sm st st3)) ⟨rfl,L,hs,S⟩ (fun j c st3 _ hj h=>?_) (fun c st3 h=>Or.inr h) fun c st3 h=>?_)))
  ·obtain⟨r,out,ia,ib,mg,ac,bc⟩:=c
   obtain⟨hr,L,hs,S⟩:=h
   cases hr
   have L:Lo a b out ia ib:=L
   have hs:t+2<=out.size:=hs
   refine QI (fun _=>?_) (fun _=>?_)
   all_goals
    refine wpS_bind (wpS_modify (wpS_bind (Qa L.2.2.2 hb fun y hy=>?_)))
    refine wpS_bind (YQ (bs:=ia) (n:=a.size - ia) (hint:=0) (S.1.trans hk) ha hy (by have:=L.2.2.1;omega) (by have:=L.2.2.1;omega) fun k hkn=>?_)
    refine QI (fun _=>QI (fun _=>wpS_pure (Or.inl ⟨_,rfl,((L.1.app (ha.cut _ _)).app (hb.cut _ _)).app (ha.cut _ _),S⟩)) fun n1=>QI (fun _=>wpS_pure (Or.inl ⟨_,rfl,((L.1.app (ha.cut _ _)).app (ha.cut _ _)).app (hb.cut _ _),S⟩)) fun n2=>?_) (fun _=>?_)
    all_goals first
     | (have n1:ia+k+1 ≠ a.size:=Yq n1
        have n2:ia+k ≠ a.size:=Yq n2
        have sz:(out++a.extract ia (ia+k)).size=out.size+k:=by
          rw[Array.size_append,Yi (by have:=L.2.2.1;omega)]
          omega
        have L2:Lo a b (out++a.extract ia (ia+k)) (ia+k) ib:=⟨L.1.app (ha.cut _ _),by rw[sz];have:=L.2.1;omega,by have:=L.2.2.1;omega,L.2.2.2⟩
        have hs2:t+2<=(out++a.extract ia (ia+k)).size:=by omega
        generalize out++a.extract ia (ia+k)=out2 at L2 hs2 ⊢
        generalize ia+k=ia2 at L2 ⊢)
     | (have L2:=L
        have hs2:=hs
        generalize out=out2 at L2 hs2 ⊢
        generalize ia=ia2 at L2 ⊢)
    all_goals
     refine wpS_bind (Qa L2.2.2.2 hb fun y2 hy2=>?_)
     have P2:=L2.1.push hy2
     refine QI (fun _=>wpS_pure (Or.inl ⟨_,rfl,(P2.app (ha.cut _ _)).app (hb.cut _ _),S⟩)) fun n3=>?_
     have n3:ib+1 ≠ b.size:=Yq n3
     have s2:(out2.push y2).size=out2.size+1:=Array.size_push ..
     have l22:=L2.2.1
     have l23:=L2.2.2.1
     have l24:=L2.2.2.2
     refine wpS_bind (Qa (i:=ia2) (by omega) ha fun z hz=>?_)
     refine wpS_bind (YQ (bs:=ib+1) (n:=b.size - (ib+1)) (hint:=0) (S.1.trans hk) hb hz (by omega) (by omega) fun k2 hk2=>?_)
     refine QI (fun _=>QI (fun _=>wpS_pure (Or.inl ⟨_,rfl,((P2.app (hb.cut _ _)).app (ha.cut _ _)).app (hb.cut _ _),S⟩)) fun n4=>?_) (fun _=>?_)
     all_goals first
      | (have n4:ib+1+k2 ≠ b.size:=Yq n4
         have sz:((out2.push y2)++b.extract (ib+1) (ib+1+k2)).size=out2.size+1+k2:=by
           rw[Array.size_append,Yi (by omega),s2]
           omega
         have P3:=P2.app (hb.cut (ib+1) (ib+1+k2))
         have e3:((out2.push y2)++b.extract (ib+1) (ib+1+k2)).size=ia2+(ib+1+k2):=by omega
         have l4:ib+1+k2 < b.size:=by omega
         have hs3:t+2<=((out2.push y2)++b.extract (ib+1) (ib+1+k2)).size:=by omega
         generalize (out2.push y2)++b.extract (ib+1) (ib+1+k2)=out3 at P3 e3 hs3 ⊢
         generalize ib+1+k2=ib3 at e3 l4 ⊢)
      | (have P3:=P2
         have e3:(out2.push y2).size=ia2+(ib+1):=by omega
         have l4:ib+1 < b.size:=by omega
         have hs3:t+2<=(out2.push y2).size:=by omega
         generalize out2.push y2=out3 at P3 e3 hs3 ⊢
         generalize ib+1=ib3 at e3 l4 ⊢)
     all_goals
      refine wpS_bind (Qa (i:=ia2) (by omega) ha fun z3 hz3=>?_)
      have P4:=P3.push hz3
      have s4:(out3.push z3).size=out3.size+1:=Array.size_push ..
      refine QI (fun _=>wpS_pure (Or.inl ⟨_,rfl,(P4.app (hb.cut _ _)).app (ha.cut _ _),S⟩)) fun n5=>?_
      have n5:ia2+1+1 ≠ a.size:=Yq n5
      have L4:Lo a b (out3.push z3) (ia2+1) ib3:=⟨P4,by omega,by omega,l4⟩
      exact QI (fun _=>wpS_pure (Or.inr ⟨rfl,L4,by show t+2<=(out3.push z3).size;omega,S⟩)) fun _=>wpS_pure ⟨rfl,L4,by show t+2<=(out3.push z3).size;omega,S⟩
  ·obtain⟨r,out,ia,ib,mg,ac,bc⟩:=c
   rcases h with ⟨r,hr,hP,S⟩ | ⟨hr,L,hs,S⟩
   ·cases hr
    exact wpS_pure ⟨_,rfl,hP,S⟩
   cases hr
   exact wpS_bind (wpS_modify (wpS_pure ⟨rfl,L,hs,S⟩))
 ·obtain⟨_,⟨_,e3,e4,e5⟩,e6,_⟩:=h
  rw[Nat.zero_max] at e6
  omega
 ·obtain⟨r,Qq⟩:=c
  obtain⟨r,rfl,h2,h3⟩:=h
  exact wpS_pure (q _ _ h3 h2)
theorem zCW {a b:Array Keyed} {Q:Array Keyed->SortSt->Prop} {st:SortSt} (hk:kindOf st=oneType') (ha:AllP a) (hb:AllP b) (a0:0 < a.size) (b0:0 < b.size) (q:∀ out st',Sm st st'->AllP out->Q out st'):wpS (model prog w) A E s ((sortPriv% PySem.Builtin.mergeHi) a b) Q st:=by
 refine wpS_bind (ZM (wpS_bind (Qa (i:=a.size - 1) (by omega) ha fun x hx=>?_)))
 have h1:=AllP.one hx
 have fA:∀ {out:Array Keyed} {na nb:Nat},AllP out->AllP (a.extract 0 na++b.extract 0 nb++out.reverse):=fun h=>((ha.cut _ _).app (hb.cut _ _)).app h.rev
 have fB:∀ {out:Array Keyed} {na nb:Nat},AllP out->AllP (b.extract 0 nb++a.extract 0 na++out.reverse):=fun h=>((hb.cut _ _).app (ha.cut _ _)).app h.rev
 refine QI (fun _=>wpS_pure (q _ _ (Sm.refl _) (fA h1))) fun e1=>QI (fun _=>wpS_pure (q _ _ (Sm.refl _) (fB h1))) fun e2=>wpS_bind (wpS_get ?_)
 have e1':a.size - 1 ≠ 0:=Yq e1
 have e2':b.size ≠ 1:=Yq e2
 refine wpS_bind (wpS_mono (wpS_forRange (fun t c st'=>c.1=none/\Hi a b c.2.2.2.1 c.2.1 c.2.2.1/\t+1<=c.2.2.2.1.size/\Sm st st') (Q:=fun c st'=>∃ r,c.1=some r/\AllP r/\Sm st st') (fun t c st' _ ht h=>?_) (fun c st' h=>?_) ⟨rfl,⟨h1,by show 1+(a.size - 1)+b.size=a.size+b.size;omega,by show 1<=a.size - 1;omega,by show a.size - 1<=a.size;omega,by show 2<=b.size;omega,Nat.le_refl _⟩,Nat.le_refl _,Sm.refl _⟩) fun c st' h=>?_)
 ·obtain⟨r,na,nb,out,mg⟩:=c
  obtain⟨hr,L,hs,S⟩:=h
  cases hr
  refine wpS_bind (wpS_mono (wpS_forRange (fun j c st2=>c.1=none/\Hi a b c.2.2.2.1 c.2.1 c.2.2.1/\t+1+j<=c.2.2.2.1.size/\Sm st st2) (Q:=fun c st2=>(∃ r,c.1=some r/\AllP r/\Sm st st2)\/(c.1=none/\Hi a b c.2.2.2.1 c.2.1 c.2.2.1/\t+2<=c.2.2.2.1.size/\Sm st st2)) (fun j c st2 _ hj h=>?_) (fun c st2 h=>?_) ⟨rfl,L,hs,S⟩) fun c st2 h=>?_)
  ·obtain⟨r,na,nb,out,ac,bc⟩:=c
   obtain⟨hr,⟨l1,l2,l3,l4,l5,l6⟩,hs,S⟩:=h
   cases hr
   have l1:AllP out:=l1
   have l2:out.size+na+nb=a.size+b.size:=l2
   have l3:1<=na:=l3
   have l4:na<=a.size:=l4
   have l5:2<=nb:=l5
   have l6:nb<=b.size:=l6
   have hs:t+1+j<=out.size:=hs
   have hk2:kindOf st2=oneType':=S.1.trans hk
   refine wpS_bind (Qa (i:=nb - 1) (by omega) hb fun y hy=>wpS_bind (Qa (i:=na - 1) (by omega) ha fun z hz=>wpS_bind (zA1 hk2 hy hz fun bw=>QI (fun _=>?_) fun _=>?_)))
   ·refine wpS_bind (Qa (i:=na - 1) (by omega) ha fun y hy=>?_)
    have l7:=l1.push hy
    have s7:(out.push y).size=out.size+1:=Array.size_push ..
    refine QI (fun _=>wpS_pure (Or.inl ⟨_,rfl,fA l7,S⟩)) fun ne=>?_
    have ne:na - 1 ≠ 0:=Yq ne
    have L7:Hi a b (out.push y) (na - 1) nb:=⟨l7,by omega,by omega,by omega,l5,l6⟩
    exact QI (fun _=>wpS_pure (Or.inr ⟨rfl,L7,by show t+2<=(out.push y).size;omega,S⟩)) fun _=>wpS_pure ⟨rfl,L7,by show t+1+(j+1)<=(out.push y).size;omega,S⟩
   ·refine wpS_bind (Qa (i:=nb - 1) (by omega) hb fun y hy=>?_)
    have l7:=l1.push hy
    have s7:(out.push y).size=out.size+1:=Array.size_push ..
    refine QI (fun _=>wpS_pure (Or.inl ⟨_,rfl,fB l7,S⟩)) fun ne=>?_
    have ne:nb - 1 ≠ 1:=Yq ne
    have L7:Hi a b (out.push y) na (nb - 1):=⟨l7,by omega,l3,l4,by omega,by omega⟩
    exact QI (fun _=>wpS_pure (Or.inr ⟨rfl,L7,by show t+2<=(out.push y).size;omega,S⟩)) fun _=>wpS_pure ⟨rfl,L7,by show t+1+(j+1)<=(out.push y).size;omega,S⟩
  ·obtain⟨h1,h2,h3,h4⟩:=h
   refine Or.inr ⟨h1,h2,?_,h4⟩
   rw[Nat.zero_max] at h3
   omega
  obtain⟨r,na,nb,out,ac,bc⟩:=c
  rcases h with ⟨r,hr,hP,S⟩ | ⟨hr,L,hs,S⟩
  ·cases hr
   exact wpS_pure ⟨_,rfl,hP,S⟩
  cases hr
  refine wpS_bind (ZM (wpS_bind (Y5 (fun c st3=>c.1=none/\Hi a b c.2.2.2.1 c.2.1 c.2.2.1/\t+2<=c.2.2.2.1.size/\Sm st st3) (fun c st3=>(∃ r,c.1=some r/\AllP r/\Sm st st3)\/(c.1=none/\Hi a b c.2.2.2.1 c.2.1 c.2.2.1/\t+2<=c.2.2.2.1.size/\Sm st st3)) ⟨rfl,L,hs,S⟩ (fun j c st3 _ hj h=>?_) (fun c st3 h=>Or.inr h) fun c st3 h=>?_)))
  ·obtain⟨r,na,nb,out,mg,ac,bc⟩:=c
   obtain⟨hr,⟨l1,l2,l3,l4,l5,l6⟩,hs,S⟩:=h
   cases hr
   have l1:AllP out:=l1
   have l2:out.size+na+nb=a.size+b.size:=l2
   have l3:1<=na:=l3
   have l4:na<=a.size:=l4
   have l5:2<=nb:=l5
   have l6:nb<=b.size:=l6
   have hs:t+2<=out.size:=hs
   refine QI (fun _=>?_) (fun _=>?_)
   all_goals
    refine wpS_bind (wpS_modify (wpS_bind (Qa (i:=nb - 1) (by omega) hb fun y hy=>?_)))
    refine wpS_bind (YQ (bs:=0) (n:=na) (hint:=na - 1) (S.1.trans hk) ha hy (by omega) (by omega) fun k hkn=>?_)
    refine QI (fun _=>QI (fun _=>wpS_pure (Or.inl ⟨_,rfl,fA (l1.app (ha.cut _ _).rev),S⟩)) fun n1=>?_) (fun _=>?_)
    all_goals first
     | (have n1:k ≠ 0:=Yq n1
        have P2:=l1.app (ha.cut k na).rev
        have z2:(out++(a.extract k na).reverse).size+k+nb=a.size+b.size:=by
          rw[Array.size_append,Array.size_reverse,Yi (by omega)]
          omega
        have hs2:t+2<=(out++(a.extract k na).reverse).size:=by
          rw[Array.size_append]
          omega
        have m3:1<=k:=by omega
        have m4:k<=a.size:=by omega
        generalize out++(a.extract k na).reverse=out2 at P2 z2 hs2 ⊢
        generalize k=na2 at z2 m3 m4 ⊢)
     | (have P2:=l1
        have z2:=l2
        have hs2:=hs
        have m3:=l3
        have m4:=l4
        generalize out=out2 at P2 z2 hs2 ⊢
        generalize na=na2 at z2 m3 m4 ⊢)
    all_goals
     refine wpS_bind (Qa (i:=nb - 1) (by omega) hb fun y2 hy2=>?_)
     have P3:=P2.push hy2
     have s3:(out2.push y2).size=out2.size+1:=Array.size_push ..
     refine QI (fun _=>wpS_pure (Or.inl ⟨_,rfl,fB P3,S⟩)) fun n3=>?_
     have n3:nb - 1 ≠ 1:=Yq n3
     refine wpS_bind (Qa (i:=na2 - 1) (by omega) ha fun z hz=>?_)
     refine wpS_bind (YQ (bs:=0) (n:=nb - 1) (hint:=nb - 1 - 1) (S.1.trans hk) hb hz (by omega) (by omega) fun k2 hk2=>?_)
     refine QI (fun _=>QI (fun _=>wpS_pure (Or.inl ⟨_,rfl,fB (P3.app (hb.cut _ _).rev),S⟩)) fun n4=>QI (fun _=>wpS_pure (Or.inl ⟨_,rfl,fA (P3.app (hb.cut _ _).rev),S⟩)) fun n5=>?_) (fun _=>?_)
     all_goals first
      | (have n4:k2 ≠ 1:=Yq n4
         have n5:k2 ≠ 0:=Yq n5
         have P4:=P3.app (hb.cut k2 (nb - 1)).rev
         have z4:((out2.push y2)++(b.extract k2 (nb - 1)).reverse).size+na2+k2=a.size+b.size:=by
           rw[Array.size_append,Array.size_reverse,Yi (by omega)]
           omega
         have hs4:t+2<=((out2.push y2)++(b.extract k2 (nb - 1)).reverse).size:=by
           rw[Array.size_append]
           omega
         have m5:2<=k2:=by omega
         have m6:k2<=b.size:=by omega
         generalize (out2.push y2)++(b.extract k2 (nb - 1)).reverse=out4 at P4 z4 hs4 ⊢
         generalize k2=nb4 at z4 m5 m6 ⊢)
      | (have P4:=P3
         have z4:(out2.push y2).size+na2+(nb - 1)=a.size+b.size:=by omega
         have hs4:t+2<=(out2.push y2).size:=by omega
         have m5:2<=nb - 1:=by omega
         have m6:nb - 1<=b.size:=by omega
         generalize out2.push y2=out4 at P4 z4 hs4 ⊢
         generalize nb - 1=nb4 at z4 m5 m6 ⊢)
     all_goals
      refine wpS_bind (Qa (i:=na2 - 1) (by omega) ha fun z3 hz3=>?_)
      have P5:=P4.push hz3
      have s5:(out4.push z3).size=out4.size+1:=Array.size_push ..
      refine QI (fun _=>wpS_pure (Or.inl ⟨_,rfl,fA P5,S⟩)) fun n6=>?_
      have n6:na2 - 1 ≠ 0:=Yq n6
      have L5:Hi a b (out4.push z3) (na2 - 1) nb4:=⟨P5,by omega,by omega,by omega,m5,m6⟩
      exact QI (fun _=>wpS_pure (Or.inr ⟨rfl,L5,by show t+2<=(out4.push z3).size;omega,S⟩)) fun _=>wpS_pure ⟨rfl,L5,by show t+2<=(out4.push z3).size;omega,S⟩
  ·obtain⟨r,na,nb,out,mg,ac,bc⟩:=c
   rcases h with ⟨r,hr,hP,S⟩ | ⟨hr,L,hs,S⟩
   ·cases hr
    exact wpS_pure ⟨_,rfl,hP,S⟩
   cases hr
   exact wpS_bind (wpS_modify (wpS_pure ⟨rfl,L,hs,S⟩))
 ·obtain⟨_,⟨_,e3,e4,e5,e7,e8⟩,e6,_⟩:=h
  rw[Nat.zero_max] at e6
  omega
 ·obtain⟨r,Qq⟩:=c
  obtain⟨r,rfl,h2,h3⟩:=h
  exact wpS_pure (q _ _ h3 h2)
end
end SM
open PySem PyProof.Rows
namespace SM
def Chain:List (Nat × Nat × Nat)->Nat->Nat->Prop
 | [],a,e=>a=e
 | (x,n,_)::r,a,e=>x=a/\0 < n/\Chain r (a+n) e
theorem Chain.le:∀ {l:List (Nat × Nat × Nat)} {a e:Nat},Chain l a e->a<=e
 | [],_,_,h=>Nat.le_of_eq h
 | (x,n,_)::r,a,e,h=>by have:=Chain.le h.2.2;omega
theorem Chain.at:∀ {l:List (Nat × Nat × Nat)} {a e i sa na sb nb p p':Nat},Chain l a e->l[i]? = some (sa,na,p)->l[i+1]? = some (sb,nb,p')->sa+na=sb/\0 < na/\0 < nb/\sb+nb<=e
 | [],_,_,_,_,_,_,_,_,_,_,h1,_=>by simp at h1
 | (x,n,q)::r,a,e,0,sa,na,sb,nb,p,p',h,h1,h2=>by
  simp at h1
  obtain⟨rfl,rfl,rfl⟩:=h1
  match r,h,h2 with
  | [],_,h2=>simp at h2
  | (y,m,q2)::r2,h,h2 =>
   simp at h2
   obtain⟨rfl,rfl,rfl⟩:=h2
   obtain⟨rfl,h3,rfl,h4,h5⟩:=h
   have:=Chain.le h5
   exact⟨rfl,h3,h4,this⟩
 | (x,n,q)::r,a,e,i+1,sa,na,sb,nb,p,p',h,h1,h2=>Chain.at h.2.2 (by simpa using h1) (by simpa using h2)
theorem Chain.merge:∀ {l:List (Nat × Nat × Nat)} {a e i sa na sb nb p p':Nat},Chain l a e->l[i]? = some (sa,na,p)->l[i+1]? = some (sb,nb,p')->Chain ((l.set i (sa,na+nb,p)).eraseIdx (i+1)) a e
 | [],_,_,_,_,_,_,_,_,_,_,h1,_=>by simp at h1
 | (x,n,q)::r,a,e,0,sa,na,sb,nb,p,p',h,h1,h2=>by
  simp at h1
  obtain⟨rfl,rfl,rfl⟩:=h1
  match r,h,h2 with
  | [],_,h2=>simp at h2
  | (y,m,q2)::r2,h,h2 =>
   simp at h2
   obtain⟨rfl,rfl,rfl⟩:=h2
   obtain⟨rfl,h3,rfl,h4,h5⟩:=h
   refine⟨rfl,by omega,?_⟩
   rw[← Nat.add_assoc]
   exact h5
 | (x,n,q)::r,a,e,i+1,sa,na,sb,nb,p,p',h,h1,h2=>⟨h.1,h.2.1,Chain.merge h.2.2 (by simpa using h1) (by simpa using h2)⟩
theorem Chain.snoc:∀ {l:List (Nat × Nat × Nat)} {a e n p:Nat},Chain l a e->0 < n->Chain (l++[(e,n,p)]) a (e+n)
 | [],a,e,n,p,h,hn=>by
  have h:a=e:=h
  subst h
  exact⟨rfl,hn,rfl⟩
 | (x,m,q)::r,a,e,n,p,h,hn=>⟨h.1,h.2.1,Chain.snoc h.2.2 hn⟩
theorem Chain.mark:∀ {l:List (Nat × Nat × Nat)} {a e:Nat} (i:Nat) (pw:Nat),Chain l a e->Chain (l.modify i fun x=>(x.1,x.2.1,pw)) a e
 | [],_,_,_,_,h=>by simpa using h
 | (x,n,q)::r,a,e,0,pw,h=>h
 | (x,n,q)::r,a,e,i+1,pw,h=>⟨h.1,h.2.1,Chain.mark i pw h.2.2⟩
section
variable {prog:Program} {w:World} {A:Around} {E:Value->Shared->Prop} {s:Shared}
structure Gd (n:Nat) (st:SortSt):Prop where
 kind:kindOf st=oneType'
 failed:failedOf st=none
 size:(arrOf st).size=n
 all:AllP (arrOf st)
theorem Gd.sm {n:Nat} {st st':SortSt} (h:Gd n st) (g:Sm st st'):Gd n st':=⟨g.1.trans h.kind,g.2.2.2.trans h.failed,by rw[g.2.1];exact h.size,by rw[g.2.1];exact h.all⟩
theorem Gd.arr {n:Nat} {st:SortSt} {xs:Array Keyed} (h:Gd n st) (p:xs.Perm (arrOf st)):Gd n (setArr st xs):=⟨h.kind,h.failed,by rw[← h.size];exact p.size_eq,h.all.perm p⟩
theorem Gd.pend {n:Nat} {st:SortSt} {p:Array (Nat × Nat × Nat)} (h:Gd n st):Gd n (setPending st p):=⟨h.kind,h.failed,h.size,h.all⟩
theorem zFd {x:SortSt} {Q:PUnit->SortSt->Prop} {st:SortSt} (q:Q ⟨⟩ x):wpS (model prog w) A E s (set x) Q st:=wpAny_pure ⟨rfl,q⟩
theorem J7:∀ (l:List (Keyed × Nat)) (xs:Array Keyed) (sa:Nat),AllP xs->(∀ x∈l,PK x.1)->AllP (l.foldl (fun a x=>a.setIfInBounds (sa+x.2) x.1) xs)/\(l.foldl (fun a x=>a.setIfInBounds (sa+x.2) x.1) xs).size=xs.size
 | [],xs,sa,h,_=>⟨h,rfl⟩
 | x::l,xs,sa,h,hl=>by
  rw[List.foldl_cons]
  obtain⟨h1,h2⟩:=J7 l _ sa (h.set (i:=sa+x.2) (hl x List.mem_cons_self)) fun y hy=>hl y (List.mem_cons_of_mem _ hy)
  exact⟨h1,h2.trans (Array.size_setIfInBounds ..)⟩
theorem zCO {n e i sa na sb nb p p':Nat} {Q:Bool->SortSt->Prop} {st:SortSt} (g:Gd n st) (c:Chain (pendingOf st).toList 0 e) (he:e<=n) (h1:(pendingOf st)[i]? = some (sa,na,p)) (h2:(pendingOf st)[i+1]? = some (sb,nb,p'))
  (q:∀ st',Gd n st'->Chain (pendingOf st').toList 0 e->Q true st'):wpS (model prog w) A E s (mergeAt' i) Q st:=by
 have h1':(pendingOf st).toList[i]? = some (sa,na,p):=by rw[Array.getElem?_toList];exact h1
 have h2':(pendingOf st).toList[i+1]? = some (sb,nb,p'):=by rw[Array.getElem?_toList];exact h2
 obtain⟨c1,c2,c3,c4⟩:=c.at h1' h2'
 have cm:=c.merge h1' h2'
 have gs:=g.size
 have ep:(((pendingOf st).setIfInBounds i (sa,na+nb,p)).eraseIdxIfInBounds (i+1)).toList=((pendingOf st).toList.set i (sa,na+nb,p)).eraseIdx (i+1):=by
  rw[Array.toList_eraseIdxIfInBounds,Array.toList_setIfInBounds]
 rw[← ep] at cm
 refine wpS_bind (wpS_get ?_)
 have k1:=h1
 have k2:=h2
 unfold pendingOf at k1 k2
 rw[k1,k2]
 have key:∀ st4,Gd n st4->Chain (pendingOf st4).toList 0 e->Q (failedOf st4).isNone st4:=fun st4 g4 c4=>by rw[g4.failed];exact q st4 g4 c4
 have g1:Gd n (setPending st (((pendingOf st).setIfInBounds i (sa,na+nb,p)).eraseIdxIfInBounds (i+1))):=g.pend
 refine wpS_bind (zFd (wpS_bind (Qa (arr:=arrOf st) (i:=sb) (by omega) g.all fun x hx=>wpS_bind (YQ (arr:=arrOf st) (bs:=sa) (n:=na) (hint:=0) g.kind g.all hx (by omega) c2 fun k hk=>?_))))
 refine QI (fun _=>wpS_pure (q _ g1 cm)) fun n1=>?_
 have n1:na - k ≠ 0:=Yq n1
 refine wpS_bind (Qa (arr:=arrOf st) (i:=sa+k+(na - k) - 1) (by omega) g.all fun y hy=>wpS_bind (YQ (arr:=arrOf st) (bs:=sb) (n:=nb) (hint:=nb - 1) g.kind g.all hy (by omega) (by omega) fun nb2 hnb=>?_))
 refine QI (fun _=>wpS_pure (q _ g1 cm)) fun n2=>?_
 have n2:nb2 ≠ 0:=Yq n2
 have s1:((arrOf st).extract (sa+k) sb).size=sb - (sa+k):=Yi (by omega)
 have s2:((arrOf st).extract sb (sb+nb2)).size=sb+nb2 - sb:=Yi (by omega)
 have fin:∀ (out:Array Keyed) (st':SortSt),Sm (setPending st (((pendingOf st).setIfInBounds i (sa,na+nb,p)).eraseIdxIfInBounds (i+1))) st'->AllP out->Gd n (setArr st' (out.toList.zipIdx.foldl (fun a x=>a.setIfInBounds (sa+k+x.2) x.1) (arrOf st')))/\Chain (pendingOf st').toList 0 e:=fun out st' sm hP=>by
  have g2:=g1.sm sm
  obtain⟨f1,f2⟩:=J7 out.toList.zipIdx (arrOf st') (sa+k) g2.all fun x hx=>hP _ (by
   have:=List.mem_zipIdx hx
   obtain⟨z1,z2,z3⟩:=this
   rw[z3]
   exact List.getElem_mem _)
  exact⟨⟨g2.kind,g2.failed,f2.trans g2.size,f1⟩,by rw[sm.2.2.1];exact cm⟩
 refine QI (fun _=>wpS_bind (zCS g.kind (g.all.cut _ _) (g.all.cut _ _) (by rw[s1];omega) (by rw[s2];omega) fun out st' sm hP=>?_)) fun _=>wpS_bind (zCW g.kind (g.all.cut _ _) (g.all.cut _ _) (by rw[s1];omega) (by rw[s2];omega) fun out st' sm hP=>?_)
 all_goals
  obtain⟨f1,f2⟩:=fin out st' sm hP
  exact wpS_bind (wpS_modify (wpS_bind (wpS_get (wpS_pure (key _ f1 f2)))))
def Rl (n:Nat) (st st':SortSt):Prop:=Gd n st'/\pendingOf st'=pendingOf st
theorem Wu {n i j:Nat} {Q:Unit->SortSt->Prop} {st st0:SortSt} (g:Rl n st0 st) (q:∀ st',Rl n st0 st'->Q () st'):wpS (model prog w) A E s (reverseSlice' i j) Q st:=by
 rw[reverseSlice'_eq]
 exact wpS_modify (q _ ⟨g.1.arr (mirror_perm ..),g.2⟩)
theorem zFm {n i j:Nat} {Q:Unit->SortSt->Prop} {st st0:SortSt} (g:Rl n st0 st) (q:∀ st',Rl n st0 st'->Q () st'):wpS (model prog w) A E s (moveDown' i j) Q st:=by
 rw[moveDown'_eq]
 exact wpS_modify (q _ ⟨g.1.arr (bubble_perm ..),g.2⟩)
theorem ltR {n i j:Nat} {Q:Option Bool->SortSt->Prop} {st st0:SortSt} (g:Rl n st0 st) (hi:i < n) (hj:j < n) (q:∀ b,Q (some b) st):wpS (model prog w) A E s (ltAt' i j) Q st:=zCZ g.1.kind g.1.all (by rw[g.1.size];exact hi) (by rw[g.1.size];exact hj) q
theorem zA6 {n lo m:Nat} {Q:Option Nat->SortSt->Prop} {st:SortSt} (g:Gd n st) (hm:lo+m<=n) (m0:1<=m) (q:∀ k st',Gd n st'->pendingOf st'=pendingOf st->1<=k->k<=m->Q (some k) st'):wpS (model prog w) A E s (countRun' lo m) Q st:=by
 rw[countRun'_eq]
 refine wpS_bind (wpS_mono (wpS_forRange (fun i c st'=>c.1=none/\c.2=i/\1<=c.2/\st'=st) (Q:=fun c st'=>c.1=none/\1<=c.2/\c.2<=m/\st'=st) (fun i c st' _ hi h=>?_) (fun c st' h=>?_) ⟨rfl,rfl,Nat.le_refl _,rfl⟩) fun c st' h=>?_)
 ·obtain⟨r,k⟩:=c
  obtain⟨hr,hk,k1,rfl⟩:=h
  have hk:k=i:=hk
  have k1:1<=k:=k1
  have gs:=g.size
  refine wpS_bind (zCZ (i:=lo+k) (j:=lo+k - 1) g.kind g.all (by omega) (by omega) fun b=>QI (fun _=>wpS_pure ⟨rfl,k1,by show k<=m;omega,rfl⟩) fun _=>wpS_pure ⟨rfl,by show k+1=i+1;omega,by show 1<=k+1;omega,rfl⟩)
 ·obtain⟨r,k⟩:=c
  obtain⟨hr,hk,k1,rfl⟩:=h
  have hk:k=max 1 m:=hk
  exact⟨hr,k1,by show k<=m;omega,rfl⟩
 obtain⟨r,k⟩:=c
 obtain⟨hr,k1,k2,rfl⟩:=h
 cases hr
 have k1:1<=k:=k1
 have k2:k<=m:=k2
 have R0:Rl n st' st':=⟨g,rfl⟩
 refine QI (fun _=>wpS_pure (q _ _ g rfl k1 k2)) fun ne=>?_
 have ne:k ≠ m:=Yq ne
 refine QI (fun _=>wpS_bind (ltR (i:=lo) (j:=lo+k - 1) R0 (by omega) (by omega) fun b=>QI (fun _=>wpS_pure (q _ _ g rfl k1 k2)) fun _=>wpS_bind (Wu R0 fun st2 R2=>?_))) fun _=>?_
 all_goals first
  | (have R3:=R2
     generalize st2=st3 at R3 ⊢)
  | (have R3:=R0
     revert R3
     generalize hz:st'=st3
     subst hz
     intro R3)
 all_goals
  refine wpS_bind (ZM (wpS_bind (wpS_mono (wpS_forRange (fun i c st4=>c.1=none/\c.2.1=i/\Rl n st' st4) (Q:=fun c st4=>c.1=none/\k+1<=c.2.1/\c.2.1<=m/\Rl n st' st4) (fun i c st4 hi0 hi h=>?_) (fun c st4 h=>?_) ⟨rfl,rfl,R3⟩) fun c st4 h=>?_)))
  ·obtain⟨r,x,neq⟩:=c
   obtain⟨hr,hx,R⟩:=h
   cases hr
   have hx:x=i:=hx
   have hi0:k+1<=i:=hi0
   refine wpS_bind (ltR (i:=lo+x) (j:=lo+x - 1) R (by omega) (by omega) fun b=>QI (fun _=>QI (fun _=>wpS_bind (Wu R fun st5 R5=>wpS_pure ⟨rfl,by show x+1=i+1;omega,R5⟩)) fun _=>wpS_pure ⟨rfl,by show x+1=i+1;omega,R⟩) fun _=>?_)
   exact wpS_bind (ltR (i:=lo+x - 1) (j:=lo+x) R (by omega) (by omega) fun b=>QI (fun _=>wpS_pure ⟨rfl,by show k+1<=x;omega,by show x<=m;omega,R⟩) fun _=>wpS_pure ⟨rfl,by show x+1=i+1;omega,R⟩)
  ·obtain⟨hr,hx,R⟩:=h
   exact⟨hr,by rw[hx];omega,by rw[hx];omega,R⟩
  ·obtain⟨r,x,neq⟩:=c
   obtain⟨hr,x1,x2,R⟩:=h
   cases hr
   have x1:k+1<=x:=x1
   have x2:x<=m:=x2
   refine QI (fun _=>wpS_bind (Wu R fun st5 R5=>wpS_bind (Wu R5 fun st6 R6=>?_))) fun _=>wpS_bind (Wu R fun st6 R6=>?_)
   all_goals
    refine wpS_bind (wpS_mono (wpS_forRange (fun i c st7=>c.1=none/\c.2=i/\Rl n st' st7) (Q:=fun c st7=>c.1=none/\1<=c.2/\c.2<=m/\Rl n st' st7) (fun i c st7 hi0 hi h=>?_) (fun c st7 h=>?_) ⟨rfl,rfl,R6⟩) fun c st7 h=>?_)
    ·obtain⟨r,y⟩:=c
     obtain⟨hr,hy,R7⟩:=h
     cases hr
     have hy:y=i:=hy
     have hi0:x<=i:=hi0
     exact wpS_bind (ltR (i:=lo+y) (j:=lo+y - 1) R7 (by omega) (by omega) fun b=>QI (fun _=>wpS_pure ⟨rfl,by show 1<=y;omega,by show y<=m;omega,R7⟩) fun _=>wpS_pure ⟨rfl,by show y+1=i+1;omega,R7⟩)
    ·obtain⟨hr,hx,R⟩:=h
     exact⟨hr,by rw[hx];show 1<=max x m;omega,by rw[hx];show max x m<=m;omega,R⟩
    ·obtain⟨r,y⟩:=c
     obtain⟨hr,y1,y2,R7⟩:=h
     cases hr
     exact wpS_pure (q _ _ R7.1 R7.2 y1 y2)
theorem Ja {n lo m ok:Nat} {Q:Bool->SortSt->Prop} {st:SortSt} (g:Gd n st) (hm:lo+m<=n) (q:∀ st',Gd n st'->pendingOf st'=pendingOf st->Q true st'):wpS (model prog w) A E s (binarySort' lo m ok) Q st:=by
 rw[binarySort'_eq]
 refine wpS_bind (Y5 (fun c st'=>c.1=none/\Rl n st st') (fun c st'=>c.1=none/\Rl n st st') ⟨rfl,g,rfl⟩ (fun k c st' hk0 hk h=>?_) (fun c st' h=>h) fun c st' h=>?_)
 ·obtain⟨hr,R⟩:=h
  refine wpS_bind (Y5 (fun c st2=>c.1=none/\c.2.2<=k/\Rl n st st2) (fun c st2=>c.1=none/\Rl n st st2) ⟨rfl,Nat.le_refl _,R⟩ (fun j c st2 _ _ h=>?_) (fun c st2 h=>⟨h.1,h.2.2⟩) fun c st2 h=>?_)
  ·obtain⟨r,l,u⟩:=c
   obtain⟨hr,hu,R⟩:=h
   have hu:u<=k:=hu
   refine QI (fun _=>wpS_pure ⟨rfl,R⟩) fun hlt=>?_
   have hlt:¬ l ≥ u:=hlt
   exact wpS_bind (ltR (i:=lo+k) (j:=lo+(l+u) / 2) R (by omega) (by omega) fun b=>QI (fun _=>wpS_pure ⟨rfl,by show (l+u) / 2<=k;omega,R⟩) fun _=>wpS_pure ⟨rfl,hu,R⟩)
  ·obtain⟨r,l,u⟩:=c
   obtain⟨hr,R⟩:=h
   cases hr
   exact wpS_bind (zFm R fun st3 R3=>wpS_pure ⟨rfl,R3⟩)
 ·obtain⟨r,u⟩:=c
  obtain⟨hr,R⟩:=h
  cases hr
  exact wpS_pure (q _ R.1 R.2)
theorem Jm {n e i:Nat} {Q:Bool->SortSt->Prop} {st:SortSt} (g:Gd n st) (c:Chain (pendingOf st).toList 0 e) (he:e<=n) (hi:i+1 < (pendingOf st).size) (q:∀ st',Gd n st'->Chain (pendingOf st').toList 0 e->Q true st'):wpS (model prog w) A E s (mergeAt' i) Q st:=by
 obtain⟨⟨sa,na,p⟩,h1⟩:∃ x,(pendingOf st)[i]? = some x:=⟨_,Array.getElem?_eq_getElem (by omega)⟩
 obtain⟨⟨sb,nb,p'⟩,h2⟩:∃ x,(pendingOf st)[i+1]? = some x:=⟨_,Array.getElem?_eq_getElem hi⟩
 exact zCO g c he h1 h2 q
theorem zGW {c:Prop} [Decidable c] {x:Nat}:(if c then x - 1 else x)<=x:=by split <;> omega
theorem zBM {n:Nat} {Q:Unit->SortSt->Prop} {st:SortSt} (g:Gd n st) (hp:pendingOf st = #[]) (q:∀ st',Gd n st'->Q () st'):wpS (model prog w) A E s sortRuns' Q st:=by
 rw[sortRuns'_eq]
 refine wpS_bind (wpS_get ?_)
 rw[g.size]
 refine wpS_bind (Y5 (fun c st'=>c.1=none/\c.2<=n/\Gd n st'/\Chain (pendingOf st').toList 0 c.2) (fun c st'=>c.1=none/\Gd n st'/\∃ e,e<=n/\Chain (pendingOf st').toList 0 e) ⟨rfl,Nat.zero_le _,g,by rw[hp];rfl⟩ (fun i c st' _ _ h=>?_) (fun c st' h=>⟨h.1,h.2.2.1,_,h.2.1,h.2.2.2⟩) fun c st' h=>?_)
 ·obtain⟨r,lo⟩:=c
  obtain⟨hr,hl,g,c⟩:=h
  cases hr
  have hl:lo<=n:=hl
  have c:Chain (pendingOf st').toList 0 lo:=c
  refine QI (fun _=>wpS_pure ⟨rfl,g,lo,hl,c⟩) fun hlt=>?_
  have hlt:¬ lo ≥ n:=hlt
  refine wpS_bind (zA6 (lo:=lo) (m:=n - lo) g (by omega) (by omega) fun k st2 g2 p2 k1 k2=>?_)
  refine QI (fun _=>wpS_bind (ZM (wpS_bind (Ja (lo:=lo) g2 (by omega) fun st3 g3 p3=>QI (fun h=>absurd h (by decide)) fun _=>?_)))) fun _=>?_
  all_goals first
   | (have g4:=g3
      have c4:Chain (pendingOf st3).toList 0 lo:=by rw[p3,p2];exact c
      generalize st3=st4 at g4 c4 ⊢
      obtain⟨k4,ek⟩:∃ k4,k4=min (n - lo) (minRun' n n 0):=⟨_,rfl⟩
      have k5:1<=k4:=by omega
      have k6:k4<=n - lo:=by omega
      rw[← ek])
   | (have g4:=g2
      have c4:Chain (pendingOf st2).toList 0 lo:=by rw[p2];exact c
      generalize st2=st4 at g4 c4 ⊢
      have k5:=k1
      have k6:=k2
      generalize k=k4 at k5 k6 ⊢)
  all_goals
   refine wpS_bind (wpS_get ?_)
   have fin:∀ st5,Gd n st5->Chain (pendingOf st5).toList 0 lo->Gd n (setPending st5 ((pendingOf st5).push (lo,k4,0)))/\Chain ((pendingOf st5).push (lo,k4,0)).toList 0 (lo+k4):=fun st5 g5 c5=>⟨g5.pend,by rw[Array.toList_push];exact c5.snoc k5⟩
   rcases hb:(pendingOf st4).back? with _ | ⟨s1,n1,x⟩
   ·obtain⟨f1,f2⟩:=fin st4 g4 c4
    exact wpS_bind (wpS_modify (wpS_pure ⟨rfl,by show lo+k4<=n;omega,f1,f2⟩))
   ·refine wpS_bind (Y5 (fun c st5=>c.1=none/\Gd n st5/\Chain (pendingOf st5).toList 0 lo) (fun c st5=>c.1=none/\Gd n st5/\Chain (pendingOf st5).toList 0 lo) ⟨rfl,g4,c4⟩ (fun j c st5 _ _ h=>?_) (fun c st5 h=>h) fun c st5 h=>?_)
    ·obtain⟨hr,g5,c5⟩:=h
     refine wpS_bind (wpS_get ?_)
     dsimp only
     by_cases z:(pendingOf st5).size > 1
     ·rw[if_pos z]
      obtain⟨⟨y1,y2,y3⟩,hy⟩:∃ x,(pendingOf st5)[(pendingOf st5).size - 2]? = some x:=⟨_,Array.getElem?_eq_getElem (by omega)⟩
      rw[hy]
      exact QI (fun _=>wpS_pure ⟨rfl,g5,c5⟩) fun _=>wpS_bind (Jm g5 c5 hl (by omega) fun st6 g6 c6=>QI (fun h=>absurd h (by decide)) fun _=>wpS_pure ⟨rfl,g6,c6⟩)
     ·rw[if_neg z]
      exact wpS_pure ⟨rfl,g5,c5⟩
    ·obtain⟨r,u⟩:=c
     obtain⟨hr,g5,c5⟩:=h
     cases hr
     refine wpS_bind (wpS_modify ?_)
     have c6:Chain ((pendingOf st5).modify ((pendingOf st5).size - 1) fun x=>match x with | (a,b,_)=>(a,b,power' n (2*s1+n1) (2*s1+n1+n1+k4) n)).toList 0 lo:=by
      rw[Array.toList_modify]
      exact Chain.mark _ _ c5
     obtain⟨f1,f2⟩:=fin (setPending st5 _) (g5.pend (p:=_)) c6
     exact wpS_bind (wpS_modify (wpS_pure ⟨rfl,by show lo+k4<=n;omega,f1,f2⟩))
 ·obtain⟨r,lo⟩:=c
  obtain⟨hr,g2,e,he,c2⟩:=h
  cases hr
  refine wpS_bind (Y5 (fun c st5=>c.1=none/\Gd n st5/\Chain (pendingOf st5).toList 0 e) (fun c st5=>c.1=none/\Gd n st5) ⟨rfl,g2,c2⟩ (fun j c st5 _ _ h=>?_) (fun c st5 h=>⟨h.1,h.2.1⟩) fun c st5 h=>?_)
  ·obtain⟨hr,g5,c5⟩:=h
   refine wpS_bind (wpS_get (QI (fun _=>wpS_pure ⟨rfl,g5⟩) fun z=>wpS_bind (Jm g5 c5 he ?_ fun st6 g6 c6=>QI (fun h=>absurd h (by decide)) fun _=>wpS_pure ⟨rfl,g6,c6⟩)))
   have z:¬ (pendingOf st5).size<=1:=z
   exact Nat.lt_of_le_of_lt (Nat.succ_le_succ zGW) (by omega)
  ·obtain⟨r,u⟩:=c
   obtain⟨hr,g5⟩:=h
   cases hr
   exact wpS_pure (q _ g5)
end
end SM
open PySem PyProof.Rows
namespace SM
section
variable {prog:Program} {w:World} {A:Around} {E:Value->Shared->Prop} {s:Shared}
theorem zDf {vs:List Value} {ns:List Int} (h:IntsAre vs ns):AllP (pairsOf vs):=fun x hx=>by
 rw[pairsOf_toList] at hx
 obtain⟨e,hm⟩:=mem_zip_self hx
 obtain⟨n,t,z⟩:=h.all _ hm
 exact⟨⟨n,t,z⟩,n,t,by rw[← e];exact z⟩
theorem zEa {xs:Array Keyed} (h:AllP xs):∃ ns,IntsAre (xs.map (·.2)).toList ns/\ns.length=xs.size:=by
 refine⟨_,intsAre_map _ fun v hv=>?_,?_⟩
 ·rw[Array.toList_map] at hv
  obtain⟨x,hx,rfl⟩:=List.mem_map.mp hv
  exact (h x hx).2
 ·rw[List.length_map,Array.length_toList,Array.size_map]
theorem zDC {a:Addr} {vs:List Value} {ns:List Int} {n:Nat} {P:Fin->Shared->Prop} (ho:s.heap.get? a=some (seqObj "list" vs.toArray n)) (hI:IntsAre vs ns) (h2:2<=vs.length) (h64:vs.length<=1000)
  (h:∀ (out:Array Value) (ns':List Int),IntsAre out.toList ns'->ns'.length=ns.length->P (.done (.ret .none)) { s with heap:=sortedHeap s.heap a vs out }) :
  wpAny (model prog w) A (Builtin.«list.sort» { pos:=[.ref a] }) P E s:=by
 have small:vs.length<=sizeLine:=Nat.le_trans h64 (by decide)
 have hlen:vs.length=ns.length:=IntsAre.length hI
 rw[list_sort_plain]
 refine wpAny_bind (listItems_at ho rfl (wpAny_bind (listUpdate_at ho rfl ?_ (by simpa using small) (by simp))))
 have e1:=get?_update_seq ho (fun _ => #[])
 refine wpAny_bind (seqEpoch_at e1 rfl (wpAny_bind (wpAny_newTuple (wpAny_bind (wpAny_newList (wpAny_holding ?_))) (by simpa using small))))
 have e6:=Heap.get?_push_of_some (seqObj "list" #[] 0) (Heap.get?_push_of_some (seqObj "tuple" vs.toArray 0) e1)
 rw[if_neg (by rw[List.size_toArray];omega)]
 obtain⟨v1,v2,r,rfl⟩:∃ v1 v2 r,vs=v1::v2::r:=by
  match vs,h2 with
  | v1::v2::r,_=>exact⟨v1,v2,r,rfl⟩
 rw[keyKind_ints hI]
 refine wpAny_bind (wpAny_pure ?_)
 rw[if_neg (by rw[List.size_toArray];omega)]
 have g0:Gd (v1::v2::r).length (SortSt.mk' oneType' ((v1::v2::r).toArray.zip (v1::v2::r).toArray) #[] 7 none):=⟨rfl,rfl,pairsOf_size _,zDf hI⟩
 refine wpAny_bind (wpAny_mono (zBM (Q:=fun _ st'=>Gd (v1::v2::r).length st') g0 rfl fun st' g=>g) (fun x s' hx=>?_) fun _ _ e=>e)
 obtain⟨rfl,g⟩:=hx
 obtain⟨⟨⟩,st'⟩:=x
 have g:Gd (v1::v2::r).length st':=g
 refine wpAny_bind (seqEpoch_at e6 rfl (wpAny_bind (listUpdate_at e6 rfl ?_ (by simp) ?_)))
 ·rw[g.failed]
  obtain⟨ns',f1,f2⟩:=zEa g.all
  have:=h _ ns' f1 (by rw[f2,g.size];exact hlen)
  dsimp only
  rw[bne_self_eq_false,if_neg (by decide)]
  exact wpAny_pure this
 ·rw[Array.size_map]
  show (arrOf st').size<=sizeLine+1
  rw[g.size]
  exact Nat.le_succ_of_le small
theorem sorted_any {l:Addr} {vs:List Value} {ns:List Int} {Q:Value->Shared->Prop} (hl:s.heap.IsList l vs.toArray) (hI:IntsAre vs ns) (h2:2<=vs.length) (h64:vs.length<=1000)
  (h:∀ (out:Array Value) (ns':List Int),IntsAre out.toList ns'->ns'.length=ns.length->Q (.ref (s.heap.objs.size+1)) { s with heap:=sortedAll s.heap vs out }) :
  wpAny (model prog w) A (call (.builtin "sorted") [.ref l]) Q E s:=by
 have small:vs.length<=sizeLine:=Nat.le_trans h64 (by decide)
 refine Calls.call_function_entry kind_sorted plain_sorted entry_sorted (args_sorted1 _) ?_
 refine wpAny_bind (wpAny_pure (wpAny_bind (collect_list hl (wpAny_bind (wpAny_newList ?_ small)) small)))
 have sz:((s.heap.push (seqObj "list" #[] 0)).update s.heap.objs.size (Obj.mapSeq fun x=>x++vs.toArray)).objs.size=s.heap.objs.size+1:=by rw[Heap.size_update,size_push']
 have e0:(((s.heap.push (seqObj "list" #[] 0)).update s.heap.objs.size (Obj.mapSeq fun x=>x++vs.toArray)).push (seqObj "list" vs.toArray 0)).get? ((s.heap.push (seqObj "list" #[] 0)).update s.heap.objs.size (Obj.mapSeq fun x=>x++vs.toArray)).objs.size=some (seqObj "list" vs.toArray 0):=Heap.get?_push_size _ rfl
 refine wpAny_bind (wpAny_holding (wpAny_call_entry slot_list_sort ⟨_,e0,rfl⟩ entry_list_sort (zDC e0 hI h2 h64 fun out ns' f1 f2=>⟨_,rfl,wpAny_pure ⟨_,rfl,?_⟩⟩) (args_list_sort _)))
 have q:=h out ns' f1 f2
 unfold sortedAll at q
 rw[← sz] at q
 exact q
end
end SM
namespace L2
open PySem PySem.Spec PyProof.Rows
theorem get?_upd_ne {h:Heap} {a b:Addr} {f:Obj->Obj} (n:b ≠ a):(h.update a f).get? b=h.get? b:=Heap.get?_update_ne _ _ _ _ n
theorem ZA {h:Heap} {vs:List Value} {out:Array Value} {b:Addr} {o:Obj} (e:h.get? b=some o):(sortedAll h vs out).get? b=some o:=by
 have hb:=Heap.lt_size e
 have n0:b ≠ h.objs.size:=Nat.ne_of_lt hb
 have n1:b ≠ h.objs.size+1:=Nat.ne_of_lt (Nat.lt_succ_of_lt hb)
 unfold sortedAll sortedHeap
 rw[get?_upd_ne n1]
 refine Heap.get?_push_of_some _ (Heap.get?_push_of_some _ ?_)
 rw[get?_upd_ne n1]
 refine Heap.get?_push_of_some _ ?_
 rw[get?_upd_ne n0]
 exact Heap.get?_push_of_some _ e
theorem Z0 {h:Heap} {vs:List Value} {out:Array Value}:∃ n,(sortedAll h vs out).get? (h.objs.size+1)=some (seqObj "list" out n):=by
 unfold sortedAll sortedHeap
 have sz:((h.push (seqObj "list" #[] 0)).update h.objs.size (Obj.mapSeq fun x=>x++vs.toArray)).objs.size=h.objs.size+1:=by
  rw[Heap.size_update,size_push']
 have e0:(((h.push (seqObj "list" #[] 0)).update h.objs.size (Obj.mapSeq fun x=>x++vs.toArray)).push (seqObj "list" vs.toArray 0)).get? (h.objs.size+1)=some (seqObj "list" vs.toArray 0):=by
  rw[← sz]
  exact Heap.get?_push_size _ rfl
 have e1:=get?_update_seq e0 (fun _ => #[])
 exact⟨_,get?_update_seq (Heap.get?_push_of_some _ (Heap.get?_push_of_some _ e1)) (fun _=>out)⟩
section
variable {X:Cx}
def srt (a:Addr) (ns:List Int):HO:=.ext fun h=>∃ (vs:List Value) (n:Nat),h.get? a=some (seqObj "list" vs.toArray n)/\IntsAre vs ns
def zHl (K:W.Frag):List V->Hp->VK->Prop:=fun xs H Q=>∃ (l:Addr) (ns:List Int),xs=[.ref l]/\SqL K H l (ns.map V.int)/\ns.length < 64/\∀ p ns',H p=none->ns'.Perm ns->ns'.Pairwise (· <= ·)->Q (.ref p) (upd H p (srt p ns'))
theorem zB0 (hc:X.calm=true):Q9 X (.builtin "sorted") (zHl X.K):=by
 intro pins s σ H xs us Q I r h
 obtain⟨l,ns,rfl,hq,hb,q⟩:=h
 obtain⟨u,rfl,rx⟩:=Y3 r
 cases rx
 obtain⟨its,r',pl,hz⟩:=I.list hq
 have hi:IntsAre its ns:=ZZ (by simpa using r')
 have hvn:its.length=ns.length:=IntsAre.length hi
 refine sorted_ints pl.isList hi (by omega) fun out ns' h1 h2 h3=>?_
 obtain⟨n,hn⟩:=Z0 (h:=s.heap) (vs:=its) (out:=out)
 exact⟨.ref (s.heap.objs.size+1),_,I.laid (o:=srt _ ns') (t':=s.toks) (fun b o e=>ZA e) (Nat.le_succ _) ⟨⟨out.toList,n,hn,h1⟩,⟨_,hn⟩,fun h4 h5 ⟨vs,n,e,z⟩ k=>⟨vs,n,k _ e,z⟩⟩ I.tk,rfl,q _ ns' (I.hok.fresh (Nat.le_succ _)) h2 h3⟩
theorem zAu:∀ {vs:List Value} {ns:List Int},IntsAre vs ns->∀ j (h1:j < vs.length) (h2:j < ns.length),∃ t,vs[j]=.int ns[j] t
 | _::_,_::_,.cons ..,0,_,_=>⟨_,rfl⟩
 | _::_,_::_,.cons _ _ r,j+1,h1,h2=>zAu r j (Nat.lt_of_succ_lt_succ h1) (Nat.lt_of_succ_lt_succ h2)
def zD6 (K:W.Frag):List V->Hp->VK->Prop:=fun xs H Q=>∃ (l:Addr) (ns:List Int),xs=[.ref l]/\SqL K H l (ns.map V.int)/\ns.length<=64/\∀ p ns',H p=none->ns'.length=ns.length->(ns.length < 64->ns'.Perm ns/\ns'.Pairwise (· <= ·))->Q (.ref p) (upd H p (srt p ns'))
theorem zBv (hc:X.calm=true):Q9 X (.builtin "sorted") (zD6 X.K):=by
 intro pins s σ H xs us Q I r h
 obtain⟨l,ns,rfl,hq,hb,q⟩:=h
 by_cases z:ns.length < 64
 ·exact zB0 hc pins s σ H _ us Q I r ⟨l,ns,rfl,hq,z,fun p ns' h1 h2 h3=>q p ns' h1 h2.length_eq fun _=>⟨h2,h3⟩⟩
 obtain⟨u,rfl,rx⟩:=Y3 r
 cases rx
 obtain⟨its,r',pl,hz⟩:=I.list hq
 have hi:IntsAre its ns:=ZZ (by simpa using r')
 have hvn:its.length=ns.length:=IntsAre.length hi
 refine SM.sorted_any pl.isList hi (by omega) (by omega) fun out ns' h1 h2=>?_
 obtain⟨n,hn⟩:=Z0 (h:=s.heap) (vs:=its) (out:=out)
 exact⟨.ref (s.heap.objs.size+1),_,I.laid (o:=srt _ ns') (t':=s.toks) (fun b o e=>ZA e) (Nat.le_succ _) ⟨⟨out.toList,n,hn,h1⟩,⟨_,hn⟩,fun h4 h5 ⟨vs,n,e,z⟩ k=>⟨vs,n,k _ e,z⟩⟩ I.tk,rfl,q _ ns' (I.hok.fresh (Nat.le_succ _)) h2 fun w=>absurd w z⟩
def zHR:R2:=fun x y H Q=>∃ (a b:Addr) (is js:List Int),x=.ref a/\y=.ref b/\H a=some (srt a is)/\H b=some (.lst (js.map V.int))/\is.length<=100/\Q (.bl (decide (is=js))) H
theorem zFS (hu:X.A.units < cLine):OpR X (compareOp .Eq) zHR:=by
 intro pins s σ H x y v u Q I rx ry h
 obtain⟨a,b,is,js,rfl,rfl,ha,hb,hl,q⟩:=h
 cases rx
 cases ry
 obtain⟨⟨its,n,e,r⟩,_,_⟩:=I.hok a _ ha
 obtain⟨_,its2,n2,r2,hl2,e2⟩:=I.lstM hb
 rw[List.length_map] at hl2
 have hl1:its.length=is.length:=IntsAre.length r
 have r2':IntsAre its2 js:=ZZ (by simpa using r2)
 have L1:s.heap.IsList a its.toArray:=⟨_,e,rfl,n,rfl⟩
 have L2:s.heap.IsList b its2.toArray:=⟨_,e2,rfl,n2,rfl⟩
 have sm:(100:Nat)<=sizeLine:=by decide
 by_cases hz:is.length=js.length
 ·refine SeqAt.eq_listAt (e:=fun j=>decide (is[j]? = js[j]?)) L1 L2 (by simp;omega) hu (fun j h1 h2=>?_) ?_
  ·rw[List.size_toArray] at h1 h2
   obtain⟨t1,g1⟩:=zAu r j h1 (by omega)
   obtain⟨t2,g2⟩:=zAu r2' j h2 (by omega)
   have w1:its.toArray[j]=.int is[j] t1:=g1
   have w2:its2.toArray[j]=.int js[j] t2:=g2
   rw[w1,w2]
   have:=SeqAt.EqAt.int_int (A:=X.A.in1) (s:=s) is[j] t1 js[j] t2
   have e:decide (is[j]? = js[j]?)=(is[j] == js[j]):=by
    rw[List.getElem?_eq_getElem (by omega),List.getElem?_eq_getElem (by omega),Bool.eq_iff_iff]
    simp
   rw[e]
   exact this
  ·have e:(List.range its.toArray.size).all (fun j=>decide (is[j]? = js[j]?))=decide (is=js):=by
    rw[Bool.eq_iff_iff,List.all_eq_true,decide_eq_true_eq]
    constructor
    ·intro h
     refine List.ext_getElem? fun j=>?_
     by_cases hj:j < its.length
     ·exact of_decide_eq_true (h j (by rw[List.size_toArray];exact List.mem_range.mpr hj))
     ·rw[List.getElem?_eq_none (by omega),List.getElem?_eq_none (by omega)]
    ·intro h j _
     rw[h]
     exact decide_eq_true rfl
   rw[e]
   exact⟨.bl _,H,I,rfl,q⟩
 ·refine SeqAt.eq_list_lengthsAt L1 L2 (by simp;omega) hu ?_
  rw[decide_eq_false (fun z=>hz (by rw[z]))] at q
  exact⟨.bl false,H,I,rfl,q⟩
theorem zDD (x y:Str) (cs:List Str) (js:List Nat) {sc scope:Scope} {qual:Str} {L f:Addr} {cd:Value} {elt iter t:Expr} {px py tp pos:Pos} {k:Nat} {wi:TI} {tc:TT} {te:TE} (hE:X.env=envOfC qual sc L f cd) (c:CompOkN sc scope X.N [x,y] cs js) (lx:scope.names.lookup x=some .local) (ly:scope.names.lookup y=some .local) (hc:X.calm=true) (hi:PI X (.Tuple [.Name x px,.Name y py] k tp) iter wi)
  (ht:∀ C s₁ H₁ fp,PT (cxN X scope (Q4 X.env scope.names []) [x,y] cs C s₁ H₁ fp) t tc) (he:∀ C s₁ H₁ fp,PE (cxN X scope (Q4 X.env scope.names []) [x,y] cs C s₁ H₁ fp) elt te)
  (hs:∀ x,foldedSetIterable iter X.env x=pure x:=by intro _;rfl):PE X (.ListComp elt [⟨.Tuple [.Name x px,.Name y py] k tp,iter,[t],0⟩] scope pos) (WD 2 wi (zBN X.K) js tc te) :=
 zDU hc (WW hE c) hi (fun _ _ _ _=>zCq hc c.nd lx ly) (fun _ _ _ _=>W9 (ht _ _ _ _)) he hs
theorem JX {K:W.Frag} {a:Addr} {xs:List V} {tc:TT} {te:TE} {τ:St} {fin:List V->Hp->Prop} {H:Hp} (hz:xs.length<=sizeLine) (Pv:Nat->List V->Hp->Prop) (h0:Pv 0 [] H)
  (hk:∀ i zs H,i<=xs.length->Pv i zs H->SqL K H a xs/\zs.length<=i)
  (hs:∀ (i:Nat) x p zs H,xs[i]? = some x->Pv i zs H->H p=none->tc (some (.int (i:Nat))::some x::τ) (upd H p (.tup [.int (i:Nat),x])) fun b H3=>if b=true then te (some (.int (i:Nat))::some x::τ) H3 (fun y H4=>Pv (i+1) (zs++[y]) H4) else Pv (i+1) zs H3)
  (hd:∀ zs H,Pv xs.length zs H->fin zs H):W3 (Ite K a) (zBN K) tc te 2 τ fin H:=by
 refine⟨fun i m zs H=>m=xs.length - i/\i<=xs.length/\Pv i zs H,⟨xs.length,by simp,Nat.zero_le _,h0⟩,?_⟩
 rintro i m zs H ⟨rfl,hi,p⟩
 obtain⟨q1,q3⟩:=hk i zs H hi p
 by_cases hlt:i < xs.length
 ·refine .inr ⟨⟨xs,xs[i],q1,by simp[hlt]⟩,by omega,Pv (i+1),fun ys' H' p'=>⟨xs.length - (i+1),by omega,rfl,hlt,p'⟩,fun x H' y ρ hρ=>?_⟩
  obtain⟨c,u,rfl,hc,rfl,pa⟩:=y
  obtain⟨r1,r2,rfl⟩:∃ r1 r2,ρ=[r1,r2]:=by
   cases ρ with
   | nil=>cases hρ
   | cons r1 ρ =>
    cases ρ with
    | nil=>cases hρ
    | cons r2 ρ =>
     cases ρ with
     | nil=>exact⟨_,_,rfl⟩
     | cons _ _=>cases hρ
  refine⟨c,[.int (i:Nat),u],rfl,SqT.of QH,rfl,_,[u],rfl,u,[],rfl,rfl,⟨[some (.int (i:Nat)),some u],rfl,rfl⟩,?_⟩
  exact hs i u c zs H (pa xs q1) p hc
 ·have e:i=xs.length:=by omega
  subst e
  exact .inl ⟨⟨xs,q1,Nat.le_refl _⟩,hd zs H p⟩
def zGU:R2:=fun x y H Q=>∃ o k,IsKo H o x/\IsK H k y/\YJ 20 o/\Q (.bl (decide (o=some k))) H
theorem zFy (hu:X.A.units+64 < cLine):OpR X (compareOp .Eq) zGU:=by
 intro pins s σ H x y v u Q I rx ry h
 obtain⟨o,k,h1,h2,hs,q⟩:=h
 cases o with
 | some k1 =>
  have e:decide (some k1=some k)=k1.eqb k:=by
   rw[Kd.eqb_dec]
   exact decide_eq_decide.mpr ⟨fun z=>by cases z;rfl,fun z=>by rw[z]⟩
  rw[e] at q
  exact zEq I (n:=20) hs h1 h2 rx ry (by omega) X.prog X.w _ _ ⟨.bl (k1.eqb k),H,I,rfl,q⟩
 | none =>
  cases (show x=.non from h1)
  cases rx
  rw[decide_eq_false (by intro z;cases z)] at q
  cases k with
  | num j=>unfold IsK at h2;subst h2;obtain⟨t',rfl⟩:=ry;exact SeqAt.RcAt.none_int _ _ X.prog X.w _ _ ⟨.bl false,H,I,rfl,q⟩
  | txt j=>unfold IsK at h2;subst h2;obtain⟨t',rfl⟩:=ry;exact SeqAt.RcAt.none_str _ _ X.prog X.w _ _ ⟨.bl false,H,I,rfl,q⟩
  | tup ls =>
   unfold IsK at h2;obtain⟨b,ws,rfl,hb,_,_⟩:=h2;cases ry
   obtain⟨its',r2,p2,_⟩:=I.tuple (SqT.of hb)
   exact SeqAt.RcAt.none_tuple p2 (by omega) X.prog X.w _ _ ⟨.bl false,H,I,rfl,q⟩
def zEc:List V->Hp->VK->Prop:=fun xs H Q=>∃ b,xs=[.bl b]/\Q (.int (if b then 1 else 0)) H
theorem zBx:Q9 X (.type "int") zEc:=by
 intro pins s σ H xs us Q I r h
 obtain⟨b,rfl,q⟩:=h
 obtain⟨u,rfl,rx⟩:=Y3 r
 cases rx
 exact PySem.call_int_bool ⟨.int _,H,I.tok _,I.rI,q⟩
def zGR:R2:=fun x y H Q=>∃ b c,x=.bl b/\y=.bl c/\Q (.bl (b == c)) H
theorem zC4:OpR X (compareOp .Is) zGR:=by
 intro pins s σ H x y v u Q I rx ry h
 obtain⟨b,c,rfl,rfl,q⟩:=h
 cases rx
 cases ry
 exact is_bool ⟨.bl (b == c),H,I,rfl,q⟩
end
end L2
namespace L2
theorem zCm {s:Int} (hs:s % 2=1):∀ (k:Nat) (d:Int),(2:Int) ^ k ∣ d*s->(2:Int) ^ k ∣ d
 | 0,d,_=>by rw[Int.pow_zero];exact Int.one_dvd d
 | k+1,d,h=>by
  have h1:(2:Int) ^ k ∣ d*s:=Int.dvd_trans ⟨2,by rw[Int.pow_succ]⟩ h
  obtain⟨t,rfl⟩:=zCm hs k d h1
  have hp:(2:Int) ^ k ≠ 0:=Int.ne_of_gt (Int.pow_pos (by decide))
  rw[Int.pow_succ,Int.mul_assoc] at h
  have h2:(2:Int) ∣ t*s:=Int.dvd_of_mul_dvd_mul_left hp h
  obtain⟨u,hu⟩:∃ u,s=2*u+1:=⟨s / 2,by omega⟩
  have h3:(2:Int) ∣ t:=by
   rw[hu,Int.mul_add,Int.mul_one] at h2
   have e:t*(2*u)=2*(t*u):=by rw[← Int.mul_assoc,Int.mul_comm t 2,Int.mul_assoc]
   rw[e] at h2
   generalize t*u=z at h2
   omega
  obtain⟨w,rfl⟩:=h3
  exact⟨w,by rw[Int.pow_succ,Int.mul_assoc]⟩
theorem zFc {s:Int} (hs:s % 2=1) {k:Nat} {m i j:Int} (h0:0<=i) (h1:i < 2 ^ k) (h2:0<=j) (h3:j < 2 ^ k) (h:(m+i*s) % 2 ^ k=(m+j*s) % 2 ^ k):i=j:=by
 have e:((m+i*s) - (m+j*s)) % 2 ^ k=0:=Int.emod_eq_emod_iff_emod_sub_eq_zero.mp h
 have e2:(m+i*s) - (m+j*s)=(i - j)*s:=by rw[Int.sub_mul];omega
 rw[e2] at e
 obtain⟨t,ht⟩:=zCm hs k _ (Int.dvd_of_emod_eq_zero e)
 have hp:(0:Int) < 2 ^ k:=Int.pow_pos (by decide)
 generalize (2:Int) ^ k=M at *
 have ht0:t=0:=by
  by_cases c:0 < t
  ·have:M*1<=M*t:=Int.mul_le_mul_of_nonneg_left (by omega) (by omega)
   omega
  ·by_cases c2:t < 0
   ·have:M*t<=M*(-1):=Int.mul_le_mul_of_nonneg_left (by omega) (by omega)
    omega
   ·omega
 rw[ht0,Int.mul_zero] at ht
 omega
theorem zBb {s:Int} (hs:s % 2=1) (m r:Int):∀ k:Nat,∃ c:Int,0<=c/\c < 2 ^ k/\(2:Int) ^ k ∣ m+c*s - r
 | 0=>⟨0,by omega,by decide,by rw[Int.pow_zero];exact Int.one_dvd _⟩
 | k+1=>by
  obtain⟨c,h0,h1,t,ht⟩:=zBb hs m r k
  have hp:(0:Int) < 2 ^ k:=Int.pow_pos (by decide)
  by_cases e:t % 2=0
  ·refine⟨c,h0,by rw[Int.pow_succ];omega,t / 2,?_⟩
   rw[ht,Int.pow_succ,Int.mul_assoc]
   congr 1
   omega
  ·refine⟨c+2 ^ k,by omega,by rw[Int.pow_succ];omega,(t+s) / 2,?_⟩
   have e1:m+(c+2 ^ k)*s - r=2 ^ k*(t+s):=by
    rw[Int.add_mul,Int.mul_add,← ht]
    omega
   rw[e1,Int.pow_succ,Int.mul_assoc]
   congr 1
   omega
end L2
namespace L2
open PySem
theorem zCL (n:Nat):n ||| 1=n+1 - n % 2:=by
 have e1:n=2 ^ 1*(n / 2)+n % 2:=by omega
 have e2:2 ^ 1*(n / 2)+n % 2=2 ^ 1*(n / 2) ||| n % 2:=Nat.two_pow_add_eq_or_of_lt (by omega) _
 have e3:2 ^ 1*(n / 2)+1=2 ^ 1*(n / 2) ||| 1:=Nat.two_pow_add_eq_or_of_lt (by omega) _
 have e4:n % 2 ||| 1=1:=by
  have:n % 2=0\/n % 2=1:=by omega
  rcases this with h | h <;> rw[h] <;> rfl
 have e5:n ||| 1=2 ^ 1*(n / 2)+1:=by
  calc n ||| 1=(2 ^ 1*(n / 2)+n % 2) ||| 1:=by rw[← e1]
   _=(2 ^ 1*(n / 2) ||| n % 2) ||| 1:=by rw[e2]
   _=2 ^ 1*(n / 2) ||| (n % 2 ||| 1):=Nat.or_assoc ..
   _=2 ^ 1*(n / 2) ||| 1:=by rw[e4]
   _=2 ^ 1*(n / 2)+1:=e3.symm
 omega
theorem zDN {z:Int} (h:0<=z):Builtin.bitOr z 1=z+1 - z % 2:=by
 unfold Builtin.bitOr Builtin.bitAnd Builtin.bitNot
 rw[decide_eq_false (by omega)]
 have e:(-(-z - 1) - 1:Int).toNat=z.toNat:=by omega
 have e2:(-(-1 - 1) - 1:Int).toNat=1:=by decide
 show -(-((((-(-z - 1) - 1:Int).toNat ||| (-(-1 - 1) - 1:Int).toNat:Nat)):Int) - 1) - 1=_
 rw[e,e2,zCL]
 omega
def std (m:Int):Int:=m / 32+1 - m / 32 % 2
theorem zCX (m:Int):std m % 2=1:=by unfold std;omega
def pr (m s:Int) (c:Nat):Int:=(m+(c:Int)*std m) % s
theorem zBB {m s:Int} {c:Nat} (hs:0 < s):0<=pr m s c/\pr m s c < s:=⟨Int.emod_nonneg _ (by omega),Int.emod_lt_of_pos _ hs⟩
def zAb (s:Int):Prop:=∃ k:Nat,s=2 ^ k
theorem zG7 {m s:Int} (h:zAb s) {i j:Nat} (hi:(i:Int) < s) (hj:(j:Int) < s) (e:pr m s i=pr m s j):i=j:=by
 obtain⟨k,rfl⟩:=h
 have:=zFc (zCX m) (m:=m) (k:=k) (i:=i) (j:=j) (by omega) hi (by omega) hj e
 omega
theorem zFK {m s:Int} (h:zAb s) (r:Int):∃ c:Nat,(c:Int) < s/\pr m s c=r % s:=by
 obtain⟨k,rfl⟩:=h
 obtain⟨c,h0,h1,h2⟩:=zBb (zCX m) m r k
 refine⟨c.toNat,by omega,?_⟩
 unfold pr
 rw[Int.toNat_of_nonneg h0]
 exact Int.emod_eq_emod_iff_emod_sub_eq_zero.mpr (Int.emod_eq_zero_of_dvd h2)
theorem zFl {m s:Int}:pr m s 0=m % s:=by unfold pr;simp
theorem zF0 {m s:Int} (c:Nat):pr m s (c+1)=(pr m s c+std m) % s:=by
 unfold pr
 rw[Int.emod_add_emod]
 congr 1
 rw[Int.natCast_add,Int.add_mul,Int.natCast_one,Int.one_mul]
 omega
theorem J3 {n:Nat} (h:n<=5000):n < sizeLine:=by
 have:5000 < sizeLine:=by decide
 omega
def S8 (i:Int):Prop:=i=8\/i=16\/i=32\/i=64\/i=128\/i=256\/i=512\/i=1024\/i=2048\/i=4096
instance (i:Int):Decidable (S8 i):=by unfold S8;infer_instance
theorem S8.p2 {i:Int} (h:S8 i):zAb i:=by
 unfold S8 at h
 rcases h with rfl | rfl | rfl | rfl | rfl | rfl | rfl | rfl | rfl | rfl
 ·exact⟨3,rfl⟩
 ·exact⟨4,rfl⟩
 ·exact⟨5,rfl⟩
 ·exact⟨6,rfl⟩
 ·exact⟨7,rfl⟩
 ·exact⟨8,rfl⟩
 ·exact⟨9,rfl⟩
 ·exact⟨10,rfl⟩
 ·exact⟨11,rfl⟩
 ·exact⟨12,rfl⟩
theorem S8.range {i:Int} (h:S8 i):8<=i/\i<=4096/\i % 2=0:=by unfold S8 at h;omega
theorem zHx:∀ n:Nat,n < 4097->8<=n->(decide (Builtin.bitAnd (n:Int) ((n:Int) - 1)=0)=decide (S8 (n:Int))):=by decide +kernel
theorem zHw {i:Int} (h1:8<=i) (h2:i<=4096):decide (Builtin.bitAnd i (i - 1)=0)=decide (S8 i):=by
 have e:i=((i.toNat:Nat):Int):=by omega
 have h:=zHx i.toNat (by omega) (by omega)
 rwa [← e] at h
end L2
namespace L2
open PySem
def sl (m:Int) (n c:Nat):Nat:=(pr m (n:Int) c).toNat
theorem ZY {m:Int} {n c:Nat} (hn:0 < n):((sl m n c:Nat):Int)=pr m n c:=by
 unfold sl
 exact Int.toNat_of_nonneg (zBB (by omega)).1
theorem zE7 {m:Int} {n c:Nat} (hn:0 < n):sl m n c < n:=by
 have h:=(zBB (m:=m) (s:=(n:Int)) (c:=c) (by omega)).2
 have h0:=ZY (m:=m) (c:=c) hn
 omega
theorem zHC {m:Int} {n i j:Nat} (h:zAb (n:Int)) (hi:i < n) (hj:j < n) (e:sl m n i=sl m n j):i=j:=by
 have hn:0 < n:=by omega
 refine zG7 h (by omega) (by omega) ?_ (m:=m)
 rw[← ZY hn,← ZY hn,e]
theorem zFx {m:Int} {n r:Nat} (h:zAb (n:Int)) (hr:r < n):∃ c,c < n/\sl m n c=r:=by
 obtain⟨c,h1,h2⟩:=zFK (m:=m) h (r:Int)
 refine⟨c,by omega,?_⟩
 unfold sl
 rw[h2,Int.emod_eq_of_lt (by omega) (by omega)]
 omega
theorem zGA {m:Int} {n c:Nat} (hn:0 < n):((sl m n (c+1):Nat):Int)=(((sl m n c:Nat):Int)+std m) % (n:Int):=by
 rw[ZY hn,ZY hn,zF0]
def cAt (cs:List Int) (m:Int) (c:Nat):Int:=(cs[sl m cs.length c]?).getD 0
theorem Zt {cs:List Int} {m:Int} {c:Nat} (h:0 < cs.length):cs[sl m cs.length c]? = some (cAt cs m c):=by
 unfold cAt
 rw[List.getElem?_eq_getElem (zE7 h)];rfl
theorem zFQ {cs:List Int} {m:Int} {c:Nat} (h:0 < cs.length):cAt cs m c∈cs:=List.mem_of_getElem? (Zt h)
def IsFirst (P:Nat->Prop) (n c:Nat):Prop:=c < n/\P c/\∀ i,i < c->¬ P i
theorem Yt {P:Nat->Prop} {n:Nat} (h:∃ c,c < n/\P c):∃ c,IsFirst P n c:=by
 classical
 obtain⟨c,hc,hp⟩:=h
 induction c using Nat.strongRecOn with
 | ind c ih =>
  by_cases q:∃ i,i < c/\P i
  ·obtain⟨i,hi,hpi⟩:=q
   exact ih i hi (by omega) hpi
  ·exact⟨c,hc,hp,fun i hi hpi=>q ⟨i,hi,hpi⟩⟩
theorem IsFirst.uniq {P:Nat->Prop} {n c d:Nat} (h:IsFirst P n c) (h':IsFirst P n d):c=d:=by
 obtain⟨h1,h2,h3⟩:=h
 obtain⟨g1,g2,g3⟩:=h'
 rcases Nat.lt_trichotomy c d with z | z | z
 ·exact absurd h2 (g3 c z)
 ·exact z
 ·exact absurd g2 (h3 d z)
theorem Z2 {cs:List Int} {m v:Int} (h:zAb (cs.length:Int)) (hv:v∈cs):∃ c,c < cs.length/\cAt cs m c=v:=by
 obtain⟨i,hi,e⟩:=List.mem_iff_getElem.mp hv
 obtain⟨c,hc,hs⟩:=zFx (m:=m) h hi
 refine⟨c,hc,?_⟩
 unfold cAt
 rw[hs,List.getElem?_eq_getElem hi,e];rfl
structure Laid (st:Nat->Option Int) (n i:Nat) (cs:List Int):Prop where
 len:cs.length=n
 old:∀ (j:Nat) (v:Int),cs[j]? = some v->v = -1\/∃ p,p < i/\v=(p:Int)/\∃ m,st p=some m
 has:∀ p m,p < i->st p=some m->∃ c,c < n/\cAt cs m c=(p:Int)/\∀ c',c' < c->0<=cAt cs m c'/\cAt cs m c' < (p:Int)
 one:∀ (j k:Nat) (v:Int),cs[j]? = some v->cs[k]? = some v->v ≠ -1->j=k
 few:cs.countP (fun v=>v != -1)<=i
theorem Zp {cs:List Int} (h:cs.countP (fun v=>v != -1) < cs.length):(-1:Int)∈cs:=by
 by_cases c:(-1:Int)∈cs
 ·exact c
 ·exfalso
  have:cs.countP (fun v=>v != -1)=cs.length:=List.countP_eq_length.mpr fun v hv=>by
   have:v ≠ -1:=fun e=>c (e ▸ hv)
   simpa using this
  omega
inductive LB (st:Nat->Option Int) (n:Nat):Nat->List Int->Prop
 | zero:LB st n 0 (List.replicate n (-1))
 | skip {i:Nat} {cs:List Int}:LB st n i cs->st i=none->LB st n (i+1) cs
 | put {i c:Nat} {m:Int} {cs:List Int}:LB st n i cs->st i=some m->IsFirst (fun c=>cAt cs m c = -1) n c->LB st n (i+1) (cs.set (sl m n c) (i:Int))
theorem J2 {cs:List Int} {m:Int} {c:Nat} (h2:zAb (cs.length:Int)) (hc:c<=cs.length) (h:∀ i,i < c->cAt cs m i ≠ -1):c<=cs.countP (fun v=>v != -1):=by
 have z:∀ i,i<=c->∃ ds:List Int,ds.length=cs.length/\ds.countP (fun v=>v != -1)+i=cs.countP (fun v=>v != -1)/\∀ j,i<=j->j < c->ds[sl m cs.length j]? = cs[sl m cs.length j]? := by
  intro i
  induction i with
  | zero=>intro _;exact⟨cs,rfl,rfl,fun _ _ _=>rfl⟩
  | succ i ih =>
   intro hi
   obtain⟨ds,d1,d2,d3⟩:=ih (by omega)
   have n0:0 < cs.length:=by omega
   have hs:sl m cs.length i < ds.length:=by rw[d1];exact zE7 n0
   have e1:ds[sl m cs.length i]? = some (cAt cs m i):=by rw[d3 i (Nat.le_refl _) (by omega)];exact Zt n0
   have e2:ds[sl m cs.length i]=cAt cs m i:=by
    rw[List.getElem?_eq_getElem hs] at e1
    exact Option.some.inj e1
   refine⟨ds.set (sl m cs.length i) (-1),by rw[List.length_set];exact d1,?_,fun j h1 hj=>?_⟩
   ·rw[List.countP_set hs,e2]
    have hne:=h i (by omega)
    have b1:(cAt cs m i != -1)=true:=by simpa using hne
    have pos:0 < ds.countP (fun v=>v != -1):=List.countP_pos_iff.mpr ⟨cAt cs m i,List.mem_of_getElem? e1,b1⟩
    simp only[b1,if_true,bne_self_eq_false,Bool.false_eq_true,if_false]
    omega
   ·rw[List.getElem?_set_ne (fun y=>by have:=zHC h2 (by omega) (by omega) y;omega)]
    exact d3 j (by omega) hj
 obtain⟨ds,_,d2,_⟩:=z c (Nat.le_refl _)
 omega
end L2
namespace My
open PySem L2 PyProof.Rows
def top (i:Nat):Stmt:=PySem.Challenge.pw_slotbook_k36_whole_form_is_enough.main.body.getD i (.Pass ⟨0,0,0,0⟩)
abbrev JJ:Stmt:=top 8
abbrev zAm:Stmt:=top 9
abbrev Y9:Stmt:=top 1
abbrev WL:Stmt:=top 5
abbrev zBp:Stmt:=top 6
abbrev zAv:Stmt:=top 12
abbrev Yo:Stmt:=top 13
abbrev Yh:Stmt:=top 14
abbrev zAF:Stmt:=top 18
abbrev JE:Stmt:=top 19
abbrev Zi:Stmt:=top 20
abbrev WB:Stmt:=top 22
abbrev YZ:Stmt:=top 23
abbrev YT:Stmt:=top 24
abbrev Q5:Stmt:=top 25
abbrev Yv:Stmt:=top 26
abbrev YB:Stmt:=top 27
abbrev Zj:Stmt:=top 29
abbrev JI:Stmt:=top 30
abbrev WA:Stmt:=top 31
abbrev zAU:Stmt:=top 32
abbrev W5:Stmt:=top 33
abbrev zAi:Stmt:=top 34
abbrev zAY:Stmt:=top 35
abbrev Zc:Stmt:=top 36
abbrev zBu:Stmt:=top 37
abbrev Ye:Stmt:=top 38
abbrev Y0:Stmt:=top 39
abbrev W1:Stmt:=top 40
abbrev Yg:Stmt:=top 41
abbrev zB1:Stmt:=top 42
abbrev Wr:Stmt:=top 43
abbrev Z9:Stmt:=top 44
set_option genInjectivity false in
set_option genSizeOfSpec false in
structure Ad where
 f_stride:Addr
 d_stride:FuncData
 f_probe:Addr
 d_probe:FuncData
 f_is_number:Addr
 d_is_number:FuncData
 f_is_size:Addr
 d_is_size:FuncData
 f_room:Addr
 d_room:FuncData
 f_stamp:Addr
 d_stamp:FuncData
 f_text_stamp:Addr
 d_text_stamp:FuncData
 f_tuple_stamp:Addr
 d_tuple_stamp:FuncData
 f_paper:Addr
 d_paper:FuncData
 f_is_end:Addr
 d_is_end:FuncData
 f_place_of:Addr
 d_place_of:FuncData
 f_in_form:Addr
 d_in_form:FuncData
 f_numbers_fit:Addr
 d_numbers_fit:FuncData
 f_no_two_alike:Addr
 d_no_two_alike:FuncData
 f_each_in_one_cell:Addr
 d_each_in_one_cell:FuncData
 f_each_found:Addr
 d_each_found:FuncData
 f_places_of_keys:Addr
 d_places_of_keys:FuncData
 f_Lcell_at:Addr
 d_Lcell_at:FuncData
 f_Lwhole:Addr
 d_Lwhole:FuncData
 f_Lstream:Addr
 d_Lstream:FuncData
 f_Ltext:Addr
 d_Ltext:FuncData
 f_Lstamp:Addr
 d_Lstamp:FuncData
 f_Lstep:Addr
 d_Lstep:FuncData
 f_Lleaf:Addr
 d_Lleaf:FuncData
 f_Lany_key:Addr
 d_Lany_key:FuncData
 f_Lkey:Addr
 d_Lkey:FuncData
 f_Lfirst_bare:Addr
 d_Lfirst_bare:FuncData
 f_Leach_once:Addr
 d_Leach_once:FuncData
 f_Lfound:Addr
 d_Lfound:FuncData
 f_Lpaper_ends:Addr
 d_Lpaper_ends:FuncData
 f_Lown:Addr
 d_Lown:FuncData
 f_Ldrawn:Addr
 d_Ldrawn:FuncData
 f_law:Addr
 d_law:FuncData
 t_EMPTY:Tok
 t_GONE:Tok
 t_GREATEST:Tok
 t_LEAST:Tok
 t_TURN:Tok
structure Txt (K:W.Frag) (mg:Str->Option Value) (a:Ad):Prop where
 F_stride:Fun K "stride" "stride" JJ a.f_stride a.d_stride
 b_stride:Binds K a.d_stride ["stamp"] []
 m_stride:mg "stride" = some (.ref a.f_stride)
 F_probe:Fun K "probe" "probe" zAm a.f_probe a.d_probe
 b_probe:Binds K a.d_probe ["stamp", "size", "count"] []
 m_probe:mg "probe" = some (.ref a.f_probe)
 F_is_number:Fun K "is_number" "is_number" Y9 a.f_is_number a.d_is_number
 b_is_number:Binds K a.d_is_number ["thing"] []
 m_is_number:mg "is_number" = some (.ref a.f_is_number)
 F_is_size:Fun K "is_size" "is_size" WL a.f_is_size a.d_is_size
 b_is_size:Binds K a.d_is_size ["thing"] []
 m_is_size:mg "is_size" = some (.ref a.f_is_size)
 F_room:Fun K "room" "room" zBp a.f_room a.d_room
 b_room:Binds K a.d_room ["size"] []
 m_room:mg "room" = some (.ref a.f_room)
 F_stamp:Fun K "stamp" "stamp" zAv a.f_stamp a.d_stamp
 b_stamp:Binds K a.d_stamp ["key"] []
 m_stamp:mg "stamp" = some (.ref a.f_stamp)
 F_text_stamp:Fun K "text_stamp" "text_stamp" Yo a.f_text_stamp a.d_text_stamp
 b_text_stamp:Binds K a.d_text_stamp ["text"] []
 m_text_stamp:mg "text_stamp" = some (.ref a.f_text_stamp)
 F_tuple_stamp:Fun K "tuple_stamp" "tuple_stamp" Yh a.f_tuple_stamp a.d_tuple_stamp
 b_tuple_stamp:Binds K a.d_tuple_stamp ["parts"] []
 m_tuple_stamp:mg "tuple_stamp" = some (.ref a.f_tuple_stamp)
 F_paper:Fun K "paper" "paper" zAF a.f_paper a.d_paper
 b_paper:Binds K a.d_paper ["cells", "row", "key"] []
 m_paper:mg "paper" = some (.ref a.f_paper)
 F_is_end:Fun K "is_end" "is_end" JE a.f_is_end a.d_is_end
 b_is_end:Binds K a.d_is_end ["cell", "row", "key"] []
 m_is_end:mg "is_end" = some (.ref a.f_is_end)
 F_place_of:Fun K "place_of" "place_of" Zi a.f_place_of a.d_place_of
 b_place_of:Binds K a.d_place_of ["cells", "row", "key"] []
 m_place_of:mg "place_of" = some (.ref a.f_place_of)
 F_in_form:Fun K "in_form" "in_form" WB a.f_in_form a.d_in_form
 b_in_form:Binds K a.d_in_form ["cells", "row"] []
 m_in_form:mg "in_form" = some (.ref a.f_in_form)
 F_numbers_fit:Fun K "numbers_fit" "numbers_fit" YZ a.f_numbers_fit a.d_numbers_fit
 b_numbers_fit:Binds K a.d_numbers_fit ["cells", "row"] []
 m_numbers_fit:mg "numbers_fit" = some (.ref a.f_numbers_fit)
 F_no_two_alike:Fun K "no_two_alike" "no_two_alike" YT a.f_no_two_alike a.d_no_two_alike
 b_no_two_alike:Binds K a.d_no_two_alike ["row"] []
 m_no_two_alike:mg "no_two_alike" = some (.ref a.f_no_two_alike)
 F_each_in_one_cell:Fun K "each_in_one_cell" "each_in_one_cell" Q5 a.f_each_in_one_cell a.d_each_in_one_cell
 b_each_in_one_cell:Binds K a.d_each_in_one_cell ["cells", "row"] []
 m_each_in_one_cell:mg "each_in_one_cell" = some (.ref a.f_each_in_one_cell)
 F_each_found:Fun K "each_found" "each_found" Yv a.f_each_found a.d_each_found
 b_each_found:Binds K a.d_each_found ["cells", "row"] []
 m_each_found:mg "each_found" = some (.ref a.f_each_found)
 F_places_of_keys:Fun K "places_of_keys" "places_of_keys" YB a.f_places_of_keys a.d_places_of_keys
 b_places_of_keys:Binds K a.d_places_of_keys ["row"] []
 m_places_of_keys:mg "places_of_keys" = some (.ref a.f_places_of_keys)
 F_Lcell_at:Fun K "_law_cell_at" "_law_cell_at" Zj a.f_Lcell_at a.d_Lcell_at
 b_Lcell_at:Binds K a.d_Lcell_at ["_law_script", "_law_k"] []
 m_Lcell_at:mg "_law_cell_at" = some (.ref a.f_Lcell_at)
 F_Lwhole:Fun K "_law_whole" "_law_whole" JI a.f_Lwhole a.d_Lwhole
 b_Lwhole:Binds K a.d_Lwhole ["_law_found_here"] []
 m_Lwhole:mg "_law_whole" = some (.ref a.f_Lwhole)
 F_Lstream:Fun K "_law_stream" "_law_stream" WA a.f_Lstream a.d_Lstream
 b_Lstream:Binds K a.d_Lstream ["_law_script", "_law_many"] []
 m_Lstream:mg "_law_stream" = some (.ref a.f_Lstream)
 F_Ltext:Fun K "_law_text" "_law_text" zAU a.f_Ltext a.d_Ltext
 b_Ltext:Binds K a.d_Ltext ["_law_number", "_law_size"] []
 m_Ltext:mg "_law_text" = some (.ref a.f_Ltext)
 F_Lstamp:Fun K "_law_stamp" "_law_stamp" W5 a.f_Lstamp a.d_Lstamp
 b_Lstamp:Binds K a.d_Lstamp ["_law_key_here"] []
 m_Lstamp:mg "_law_stamp" = some (.ref a.f_Lstamp)
 F_Lstep:Fun K "_law_step" "_law_step" zAi a.f_Lstep a.d_Lstep
 b_Lstep:Binds K a.d_Lstep ["_law_mark"] []
 m_Lstep:mg "_law_step" = some (.ref a.f_Lstep)
 F_Lleaf:Fun K "_law_leaf" "_law_leaf" zAY a.f_Lleaf a.d_Lleaf
 b_Lleaf:Binds K a.d_Lleaf ["_law_number"] []
 m_Lleaf:mg "_law_leaf" = some (.ref a.f_Lleaf)
 F_Lany_key:Fun K "_law_any_key" "_law_any_key" Zc a.f_Lany_key a.d_Lany_key
 b_Lany_key:Binds K a.d_Lany_key ["_law_number"] []
 m_Lany_key:mg "_law_any_key" = some (.ref a.f_Lany_key)
 F_Lkey:Fun K "_law_key" "_law_key" zBu a.f_Lkey a.d_Lkey
 b_Lkey:Binds K a.d_Lkey ["_law_way", "_law_base", "_law_j"] []
 m_Lkey:mg "_law_key" = some (.ref a.f_Lkey)
 F_Lfirst_bare:Fun K "_law_first_bare" "_law_first_bare" Ye a.f_Lfirst_bare a.d_Lfirst_bare
 b_Lfirst_bare:Binds K a.d_Lfirst_bare ["_law_cells", "_law_key_here"] []
 m_Lfirst_bare:mg "_law_first_bare" = some (.ref a.f_Lfirst_bare)
 F_Leach_once:Fun K "_law_each_once" "_law_each_once" Y0 a.f_Leach_once a.d_Leach_once
 b_Leach_once:Binds K a.d_Leach_once ["_law_cells", "_law_row"] []
 m_Leach_once:mg "_law_each_once" = some (.ref a.f_Leach_once)
 F_Lfound:Fun K "_law_found" "_law_found" W1 a.f_Lfound a.d_Lfound
 b_Lfound:Binds K a.d_Lfound ["_law_cells", "_law_row", "_law_key_here", "_law_place"] []
 m_Lfound:mg "_law_found" = some (.ref a.f_Lfound)
 F_Lpaper_ends:Fun K "_law_paper_ends" "_law_paper_ends" Yg a.f_Lpaper_ends a.d_Lpaper_ends
 b_Lpaper_ends:Binds K a.d_Lpaper_ends ["_law_cells", "_law_row", "_law_key_here", "_law_place"] []
 m_Lpaper_ends:mg "_law_paper_ends" = some (.ref a.f_Lpaper_ends)
 F_Lown:Fun K "_law_own" "_law_own" zB1 a.f_Lown a.d_Lown
 b_Lown:Binds K a.d_Lown ["_law_row", "_law_key_here"] []
 m_Lown:mg "_law_own" = some (.ref a.f_Lown)
 F_Ldrawn:Fun K "_law_drawn" "_law_drawn" Wr a.f_Ldrawn a.d_Ldrawn
 b_Ldrawn:Binds K a.d_Ldrawn ["_law_xs", "_law_row", "_law_size"] []
 m_Ldrawn:mg "_law_drawn" = some (.ref a.f_Ldrawn)
 F_law:Fun K "law" "law" Z9 a.f_law a.d_law
 b_law:Binds K a.d_law ["_law_script"] []
 m_law:mg "law" = some (.ref a.f_law)
 z_all:mg "all" = none
 z_bool:mg "bool" = none
 z_enumerate:mg "enumerate" = none
 z_int:mg "int" = none
 z_isinstance:mg "isinstance" = none
 z_len:mg "len" = none
 z_list:mg "list" = none
 z_ord:mg "ord" = none
 z_range:mg "range" = none
 z_set:mg "set" = none
 z_sorted:mg "sorted" = none
 z_str:mg "str" = none
 z_tuple:mg "tuple" = none
 c_EMPTY:mg "EMPTY" = some (.int (-1) (a.t_EMPTY+1))
 c_GONE:mg "GONE" = some (.int (-2) (a.t_GONE+1))
 c_GREATEST:mg "GREATEST" = some (.int 4096 (a.t_GREATEST+1))
 c_LEAST:mg "LEAST" = some (.int 8 (a.t_LEAST+1))
 c_TURN:mg "TURN" = some (.int 2147483647 (a.t_TURN+1))
abbrev zEF:List Str:=["stamp"]
abbrev JT:List Str:=["stamp"]
theorem sc_stride:FnScope zEF JT (QJ JJ):=⟨rfl,rfl,rfl,by decide +kernel,rfl,by decide +kernel,by decide +kernel⟩
abbrev zFh:List Str:=["stamp", "size", "count"]
abbrev zAJ:List Str:=["stamp", "size", "count"]
theorem sc_probe:FnScope zFh zAJ (QJ zAm):=⟨rfl,rfl,rfl,by decide +kernel,rfl,by decide +kernel,by decide +kernel⟩
abbrev zBT:List Str:=["thing"]
abbrev ZB:List Str:=["thing"]
theorem sc_is_number:FnScope zBT ZB (QJ Y9):=⟨rfl,rfl,rfl,by decide +kernel,rfl,by decide +kernel,by decide +kernel⟩
abbrev zDO:List Str:=["thing"]
abbrev WJ:List Str:=["thing"]
theorem sc_is_size:FnScope zDO WJ (QJ WL):=⟨rfl,rfl,rfl,by decide +kernel,rfl,by decide +kernel,by decide +kernel⟩
abbrev zGd:List Str:=["size"]
abbrev zB4:List Str:=["size"]
theorem sc_room:FnScope zGd zB4 (QJ zBp):=⟨rfl,rfl,rfl,by decide +kernel,rfl,by decide +kernel,by decide +kernel⟩
abbrev zFP:List Str:=["key"]
abbrev Zo:List Str:=["key"]
theorem sc_stamp:FnScope zFP Zo (QJ zAv):=⟨rfl,rfl,rfl,by decide +kernel,rfl,by decide +kernel,by decide +kernel⟩
abbrev zAl:List Str:=["text", "reckoned", "sign"]
abbrev Yu:List Str:=["text"]
theorem sc_text_stamp:FnScope zAl Yu (QJ Yo):=⟨rfl,rfl,rfl,by decide +kernel,rfl,by decide +kernel,by decide +kernel⟩
abbrev Jk:List Str:=["parts", "reckoned", "part"]
abbrev Yb:List Str:=["parts"]
theorem sc_tuple_stamp:FnScope Jk Yb (QJ Yh):=⟨rfl,rfl,rfl,by decide +kernel,rfl,by decide +kernel,by decide +kernel⟩
abbrev zFw:List Str:=["cells", "row", "key", "mark", "pairs", "count", "slot"]
abbrev Wp:List Str:=["cells", "row", "key"]
theorem sc_paper:FnScope zFw Wp (QJ zAF):=⟨rfl,rfl,rfl,by decide +kernel,rfl,by decide +kernel,by decide +kernel⟩
abbrev zD1:List Str:=["cell", "row", "key"]
abbrev JN:List Str:=["cell", "row", "key"]
theorem sc_is_end:FnScope zD1 JN (QJ JE):=⟨rfl,rfl,rfl,by decide +kernel,rfl,by decide +kernel,by decide +kernel⟩
abbrev zBm:List Str:=["cells", "row", "key", "pairs", "cell"]
abbrev Yw:List Str:=["cells", "row", "key"]
theorem sc_place_of:FnScope zBm Yw (QJ Zi):=⟨rfl,rfl,rfl,by decide +kernel,rfl,by decide +kernel,by decide +kernel⟩
abbrev zC6:List Str:=["cells", "row"]
abbrev WC:List Str:=["cells", "row"]
theorem sc_in_form:FnScope zC6 WC (QJ WB):=⟨rfl,rfl,rfl,by decide +kernel,rfl,by decide +kernel,by decide +kernel⟩
abbrev Je:List Str:=["cells", "row", "size"]
abbrev Yd:List Str:=["cells", "row"]
theorem sc_numbers_fit:FnScope Je Yd (QJ YZ):=⟨rfl,rfl,rfl,by decide +kernel,rfl,by decide +kernel,by decide +kernel⟩
abbrev W8:List Str:=["row", "keys"]
abbrev YU:List Str:=["row"]
theorem sc_no_two_alike:FnScope W8 YU (QJ YT):=⟨rfl,rfl,rfl,by decide +kernel,rfl,by decide +kernel,by decide +kernel⟩
abbrev Ze:List Str:=["cells", "row", "held"]
abbrev Q2:List Str:=["cells", "row"]
theorem sc_each_in_one_cell:FnScope Ze Q2 (QJ Q5):=⟨rfl,rfl,rfl,by decide +kernel,rfl,by decide +kernel,by decide +kernel⟩
abbrev zAV:List Str:=["cells", "row"]
abbrev Yr:List Str:=["cells", "row"]
theorem sc_each_found:FnScope zAV Yr (QJ Yv):=⟨rfl,rfl,rfl,by decide +kernel,rfl,by decide +kernel,by decide +kernel⟩
abbrev WF:List Str:=["row"]
abbrev Qu:List Str:=["row"]
theorem sc_places_of_keys:FnScope WF Qu (QJ YB):=⟨rfl,rfl,rfl,by decide +kernel,rfl,by decide +kernel,by decide +kernel⟩
abbrev zCG:List Str:=["_law_script", "_law_k"]
abbrev Yx:List Str:=["_law_script", "_law_k"]
theorem sc_Lcell_at:FnScope zCG Yx (QJ Zj):=⟨rfl,rfl,rfl,by decide +kernel,rfl,by decide +kernel,by decide +kernel⟩
abbrev zDq:List Str:=["_law_found_here"]
abbrev JD:List Str:=["_law_found_here"]
theorem sc_Lwhole:FnScope zDq JD (QJ JI):=⟨rfl,rfl,rfl,by decide +kernel,rfl,by decide +kernel,by decide +kernel⟩
abbrev zDi:List Str:=["_law_script", "_law_many", "_law_number", "_law_cell", "_law_found_here", "_law_k"]
abbrev WK:List Str:=["_law_script", "_law_many"]
theorem sc_Lstream:FnScope zDi WK (QJ WA):=⟨rfl,rfl,rfl,by decide +kernel,rfl,by decide +kernel,by decide +kernel⟩
abbrev zFb:List Str:=["_law_number", "_law_size", "_law_some", "_law_found_here", "_law_k"]
abbrev Zz:List Str:=["_law_number", "_law_size"]
theorem sc_Ltext:FnScope zFb Zz (QJ zAU):=⟨rfl,rfl,rfl,by decide +kernel,rfl,by decide +kernel,by decide +kernel⟩
abbrev zEV:List Str:=["_law_key_here", "_law_mark", "_law_sign", "_law_part"]
abbrev Yk:List Str:=["_law_key_here"]
theorem sc_Lstamp:FnScope zEV Yk (QJ W5):=⟨rfl,rfl,rfl,by decide +kernel,rfl,by decide +kernel,by decide +kernel⟩
abbrev zFV:List Str:=["_law_mark"]
abbrev zAZ:List Str:=["_law_mark"]
theorem sc_Lstep:FnScope zFV zAZ (QJ zAi):=⟨rfl,rfl,rfl,by decide +kernel,rfl,by decide +kernel,by decide +kernel⟩
abbrev zFu:List Str:=["_law_number", "_law_rest"]
abbrev zAe:List Str:=["_law_number"]
theorem sc_Lleaf:FnScope zFu zAe (QJ zAY):=⟨rfl,rfl,rfl,by decide +kernel,rfl,by decide +kernel,by decide +kernel⟩
abbrev zCD:List Str:=["_law_number", "_law_rest", "_law_parts"]
abbrev Zh:List Str:=["_law_number"]
theorem sc_Lany_key:FnScope zCD Zh (QJ Zc):=⟨rfl,rfl,rfl,by decide +kernel,rfl,by decide +kernel,by decide +kernel⟩
abbrev zGo:List Str:=["_law_way", "_law_base", "_law_j", "_law_stem", "_law_at", "_law_text_here", "_law_mark"]
abbrev zB5:List Str:=["_law_way", "_law_base", "_law_j"]
theorem sc_Lkey:FnScope zGo zB5 (QJ zBu):=⟨rfl,rfl,rfl,by decide +kernel,rfl,by decide +kernel,by decide +kernel⟩
abbrev Jf:List Str:=["_law_cells", "_law_key_here", "_law_mark", "_law_at"]
abbrev Yf:List Str:=["_law_cells", "_law_key_here"]
theorem sc_Lfirst_bare:FnScope Jf Yf (QJ Ye):=⟨rfl,rfl,rfl,by decide +kernel,rfl,by decide +kernel,by decide +kernel⟩
abbrev zAP:List Str:=["_law_cells", "_law_row", "_law_place", "_law_key_here"]
abbrev Ys:List Str:=["_law_cells", "_law_row"]
theorem sc_Leach_once:FnScope zAP Ys (QJ Y0):=⟨rfl,rfl,rfl,by decide +kernel,rfl,by decide +kernel,by decide +kernel⟩
abbrev zEJ:List Str:=["_law_cells", "_law_row", "_law_key_here", "_law_place", "_law_told"]
abbrev Wz:List Str:=["_law_cells", "_law_row", "_law_key_here", "_law_place"]
theorem sc_Lfound:FnScope zEJ Wz (QJ W1):=⟨rfl,rfl,rfl,by decide +kernel,rfl,by decide +kernel,by decide +kernel⟩
abbrev Jc:List Str:=["_law_cells", "_law_row", "_law_key_here", "_law_place", "_law_found_here", "_law_full"]
abbrev Ya:List Str:=["_law_cells", "_law_row", "_law_key_here", "_law_place"]
theorem sc_Lpaper_ends:FnScope Jc Ya (QJ Yg):=⟨rfl,rfl,rfl,by decide +kernel,rfl,by decide +kernel,by decide +kernel⟩
abbrev zGq:List Str:=["_law_row", "_law_key_here", "_law_place", "_law_one"]
abbrev zCI:List Str:=["_law_row", "_law_key_here"]
theorem sc_Lown:FnScope zGq zCI (QJ zB1):=⟨rfl,rfl,rfl,by decide +kernel,rfl,by decide +kernel,by decide +kernel⟩
abbrev zDv:List Str:=["_law_xs", "_law_row", "_law_size", "_law_places", "_law_cells", "_law_slot", "_law_place", "_law_number", "_law_some", "_law_at", "_law_other", "_law_cell"]
abbrev JF:List Str:=["_law_xs", "_law_row", "_law_size"]
theorem sc_Ldrawn:FnScope zDv JF (QJ Wr):=⟨rfl,rfl,rfl,by decide +kernel,rfl,by decide +kernel,by decide +kernel⟩
abbrev zHb:List Str:=["_law_script", "_law_size", "_law_many", "_law_way", "_law_base", "_law_xs", "_law_row", "_law_number", "_law_key_here", "_law_cells", "_law_told", "_law_there", "_law_k", "_law_place"]
abbrev zEt:List Str:=["_law_script"]
theorem sc_law:FnScope zHb zEt (QJ Z9):=⟨rfl,rfl,rfl,by decide +kernel,rfl,by decide +kernel,by decide +kernel⟩
def zBt:Sp:=fun vs H Q _=>∃ x,vs=[.str x]/\Q (.int (tst x.cps.toList)) H
def zAK (d:Nat):Sp:=fun vs H Q _=>∃ v k,vs=[v]/\IsK H k v/\k.deep<=d/\Q (.int k.st) H
def zHr (d:Nat):Sp:=fun vs H Q _=>∃ a ws ks,vs=[.ref a]/\H a=some (.tup ws)/\IsKs H ks ws/\Kd.deepL ks<=d/\Q (.int (Kd.stL 11 ks)) H
def zBQ:Sp:=fun vs H Q _=>∃ m,vs=[.int m]/\0<=m/\Q (.int (std m)) H
def zCu:Sp:=fun vs H Q _=>∃ m s c,vs=[.int m,.int s,.int c]/\0<=m/\0 < s/\0<=c/\c<=100000/\Q (.int (pr m s c.toNat)) H
def YA (ns:List Int) (k:Int):Int:=(ns[k.toNat]?).getD 0
def zBo (K:W.Frag):Sp:=fun vs H Q _=>∃ (b:Addr) (ns:List Int) (k:Int),vs=[.ref b,.int k]/\SqL K H b (ns.map V.int)/\0<=k/\Q (.int (YA ns k)) H
def zA7 (K:W.Frag):Sp:=fun vs H Q _=>∃ (b:Addr) (ns:List Int) (m:Int),vs=[.ref b,.int m]/\SqL K H b (ns.map V.int)/\0<=m/\m<=1000 /\
 ∀ p (xs:List Int),H p=none->xs.length=m.toNat->(∀ x∈xs,(0:Int)<=x/\x < 2 ^ 44)->Q (.ref p) (upd H p (.lst (xs.map V.int)))
def Wc:Sp:=fun vs H Q _=>∃ i n,vs=[.int i,.int n]/\0<=n/\n<=100/\∀ x:Str,x.length=n.toNat->Q (.str x) H
def zCp:Sp:=fun vs H Q _=>∃ m,vs=[.int m]/\Q (.int (std m)) H
def zEh:Sp:=fun vs H Q _=>∃ i,vs=[.int i]/\0<=i/\i < 2 ^ 60/\∀ v k,IsK H k v->k.deep=0->Q v H
def zGP:Sp:=fun vs H Q _=>∃ i,vs=[.int i]/\0<=i/\i < 2 ^ 59/\∀ v k H',Same H H'->IsK H' k v->k.deep<=3->Q v H'
def zB8:Sp:=fun vs H Q _=>∃ w b j,vs=[.int w,.int b,.int j]/\0<=b/\b < 10 ^ 12/\0<=j/\j<=1000/\∀ v k H',Same H H'->IsK H' k v->k.deep<=3->Q v H'
theorem ZG {H:Hp} {i:Int}:IsK H (.num i) (.int i):=by unfold IsK;rfl
theorem Wm {H:Hp} {x:Str}:IsK H (.txt x) (.str x):=by unfold IsK;rfl
theorem ZK {H:Hp} {t:Addr} {ks:List Kd} {vs:List V} (h:H t=some (.tup vs)) (hz:vs.length<=1000) (hk:IsKs H ks vs):IsK H (.tup ks) (.ref t):=by unfold IsK;exact⟨t,vs,rfl,h,hz,hk⟩
theorem zCv {H:Hp} {p:Addr} {o o':HO}:upd (upd H p o) p o'=upd H p o':=by
 funext b
 by_cases e:b=p
 ·subst e;rw[QH,QH]
 ·rw[QQ e,QQ e,QQ e]
theorem zGC (m:Int):(if m / 32 % 2=0 then m / 32+1 else m / 32)=std m:=by unfold std;split <;> omega
theorem zCx (a b:Str):(a++b).length=a.length+b.length:=Array.size_append
theorem JK {i:Int}:(Kd.num i).deep=0:=by unfold Kd.deep;rfl
theorem Zs {i:Str}:(Kd.txt i).deep=0:=by unfold Kd.deep;rfl
def YK (os:List (Option Kd)) (k:Kd) (v:Int):Prop:=v = -1\/(0<=v/\os[v.toNat]? = some (some k))
instance (os:List (Option Kd)) (k:Kd) (v:Int):Decidable (YK os k v):=by unfold YK;infer_instance
def pap (cs:List Int) (m:Int) (c:Nat):List (Option Kd):=(List.range (c+1)).map fun i=>some (.tup [.num (sl m cs.length i:Nat),.num (cAt cs m i)])
def NoN (H:Hp) (x:V):Prop:=(∃ b,x=.bl b)\/x=.non\/(∃ z,x=.str z)\/(∃ a xs,x=.ref a/\H a=some (.tup xs))\/(∃ a xs,x=.ref a/\H a=some (.lst xs))\/∃ a xs,x=.ref a/\H a=some (.dK xs)
def Tg (H:Hp) (x:V) (n s:Bool):Prop:=(∃ i,x=.int i/\n=true/\s=decide (S8 i))\/(NoN H x/\n=false/\s=false)
def zGH:Sp:=fun vs H Q _=>∃ x n s,vs=[x]/\Tg H x n s/\Q (.bl n) H
def zHp:Sp:=fun vs H Q _=>∃ x n s,vs=[x]/\Tg H x n s/\Q (.bl s) H
def zD2:Sp:=fun vs H Q _=>∃ i,vs=[.int i]/\Q (.int (2*i / 3)) H
def zGV:Sp:=fun vs H Q _=>∃ v r xs os x k,vs=[.int v,.ref r,x]/\H r=some (.lst xs)/\IsKos H os xs/\IsK H k x/\(0<=v->∃ k',os[v.toNat]? = some (some k')/\k'.deep<=20)/\Q (.bl (decide (YK os k v))) H
def Js (cs:List Int) (os:List (Option Kd)):Prop:=∀ v∈cs,0<=v->∃ k',os[v.toNat]? = some (some k')/\k'.deep<=20
def zAd:Sp:=fun vs H Q _=>∃ p r cs xs os x k c,vs=[.ref p,.ref r,x]/\H p=some (.lst (cs.map V.int))/\H r=some (.lst xs)/\IsKos H os xs/\IsK H k x/\k.deep<=3/\0 < cs.length/\cs.length<=4096/\Js cs os /\
 IsFirst (fun c=>YK os k (cAt cs k.st c)) cs.length c/\∀ q ys H',Same H H'->H q=none->H' q=some (.lst ys)->IsKos H' (pap cs k.st c) ys->Q (.ref q) H'
def zAh:Sp:=fun vs H Q _=>∃ p r cs xs os x k c,vs=[.ref p,.ref r,x]/\H p=some (.lst (cs.map V.int))/\H r=some (.lst xs)/\IsKos H os xs/\IsK H k x/\k.deep<=3/\0 < cs.length/\cs.length<=4096/\Js cs os /\
 IsFirst (fun c=>YK os k (cAt cs k.st c)) cs.length c/\∀ H',Same H H'->Q (if cAt cs k.st c = -1 then .non else .int (cAt cs k.st c)) H'
theorem Wd {cs:List Int} {m:Int} {c:Nat}:(pap cs m c).length=c+1:=by unfold pap;rw[List.length_map,List.length_range]
theorem zGl {cs:List Int} {m:Int} {c:Nat}:¬ pap cs m c=[]:=fun h=>by have:=Wd (cs:=cs) (m:=m) (c:=c);rw[h] at this;cases this
theorem zFX {cs:List Int} {m:Int} {c i:Nat} (h:i < c+1):(pap cs m c)[i]? = some (some (.tup [.num (sl m cs.length i:Nat),.num (cAt cs m i)])):=by unfold pap;rw[List.getElem?_map,List.getElem?_range h];rfl
theorem zDl {cs:List Int} {m:Int} {c:Nat}:∀ o∈pap cs m c,YJ 20 o:=fun o ho=>by
 unfold pap at ho
 obtain⟨i,_,rfl⟩:=List.mem_map.mp ho
 show (Kd.tup [.num _,.num _]).deep<=20
 simp only[Kd.deep,Kd.deepL]
 decide
theorem zEE {cs:List Int} {m:Int} {c i:Nat} {H:Hp} {ys:List V} {y:V} (h:IsKos H (pap cs m c) ys) (e:ys[i]? = some y):∃ t,y=.ref t/\H t=some (.tup [.int (sl m cs.length i:Nat),.int (cAt cs m i)]):=by
 obtain⟨o,e1,e2⟩:=h.get e
 have il:i < c+1:=by have:=(List.getElem?_eq_some_iff.mp e1).1;rwa [Wd] at this
 rw[zFX il] at e1
 cases e1
 exact zES e2
def Qx (cs:List Int):List Int:=cs.filter fun v=>decide (v ≠ -1) && decide (v ≠ -2)
def Qo (os:List (Option Kd)):List Kd:=os.filterMap id
def Fnd (cs:List Int) (os:List (Option Kd)) (k:Kd) (p:Nat):Prop:=∃ c,IsFirst (fun c=>YK os k (cAt cs k.st c)) cs.length c/\cAt cs k.st c=(p:Int)
def zBk (cs:List Int) (os:List (Option Kd)) (bs:List Bool):Prop:=∀ (j:Nat) (b:Bool),bs[j]? = some b->∃ (v:Nat) (k:Kd),(plc os os.length)[j]? = some (v:Int)/\os[v]? = some (some k)/\(b=true ↔ Fnd cs os k v)
def zFO (cs:List Int) (os:List (Option Kd)):Prop:=∀ p k,os[p]? = some (some k)->Fnd cs os k p
def Fit (cs:List Int) (os:List (Option Kd)):Prop:=S8 (cs.length:Int)/\(os.length:Int)<=2*(cs.length:Int) / 3/\(((cz cs).count (some (.num (-2))):Nat):Int)<=((os.count none:Nat):Int)
def Frm (cs:List Int) (os:List (Option Kd)):Prop:=Fit cs os/\(Qo os).Nodup/\(Qx cs).Perm (plc os os.length)/\zFO cs os
theorem zBA {os:List (Option Kd)} {i:Nat} (h:os[i]? = some none):Qo (os.take (i+1))=Qo (os.take i):=by
 unfold Qo
 rw[List.take_add_one,h,List.filterMap_append]
 simp
theorem zBY {os:List (Option Kd)} {i:Nat} {k:Kd} (h:os[i]? = some (some k)):Qo (os.take (i+1))=Qo (os.take i)++[k]:=by
 unfold Qo
 rw[List.take_add_one,h,List.filterMap_append]
 simp
theorem JH {os:List (Option Kd)}:(Qo os).length<=os.length:=List.length_filterMap_le _ _
theorem keysOf_mem {os:List (Option Kd)} {k:Kd}:k∈Qo os ↔ some k∈os:=by
 unfold Qo
 simp[List.mem_filterMap]
theorem zB7 {cs:List Int} {i:Nat} {v:Int} (h:cs[i]? = some v):Qx (cs.take (i+1))=if v ≠ -1/\v ≠ -2 then Qx (cs.take i)++[v] else Qx (cs.take i):=by
 unfold Qx
 rw[List.take_add_one,h,List.filter_append]
 by_cases z:v ≠ -1/\v ≠ -2
 ·rw[if_pos z]
  simp[z.1,z.2]
 ·rw[if_neg z]
  have:(decide (v ≠ -1) && decide (v ≠ -2))=false:=by
   rw[Bool.and_eq_false_iff]
   simp only[decide_eq_false_iff_not]
   omega
  simp only[Option.toList_some,List.filter_cons,this]
  simp
theorem heldL_mem {cs:List Int} {v:Int}:v∈Qx cs ↔ v∈cs/\v ≠ -1/\v ≠ -2:=by
 unfold Qx
 rw[List.mem_filter,Bool.and_eq_true,decide_eq_true_eq,decide_eq_true_eq]
theorem Jw {cs:List Int}:(Qx cs).length<=cs.length:=List.length_filter_le _ _
theorem plc_iff {os:List (Option Kd)} {i:Nat} {v:Int}:v∈plc os i ↔ ∃ (p:Nat) (k:Kd),v=(p:Int)/\p < i/\os[p]? = some (some k):=by
 constructor
 ·intro h
  obtain⟨k,h1,h2,h3⟩:=zFH h
  exact⟨v.toNat,k,by omega,by omega,h3⟩
 ·rintro ⟨p,k,rfl,h1,h2⟩
  unfold plc
  refine List.mem_map.mpr ⟨p,List.mem_filter.mpr ⟨List.mem_range.mpr h1,?_⟩,rfl⟩
  rw[h2]
  rfl
theorem plc_rise {os:List (Option Kd)} {i:Nat}:(plc os i).Pairwise (· < ·):=by
 unfold plc
 rw[List.pairwise_map]
 exact (List.pairwise_lt_range.filter _).imp fun h=>Int.ofNat_lt.mpr h
theorem zFt {a b:List Int} (h:a.Perm b) (ha:a.Pairwise (· <= ·)) (hb:b.Pairwise (· < ·)):a=b:=PySem.W.ksm_same h ha (hb.imp Int.le_of_lt)
def zGF:Sp:=fun vs H Q _=>∃ p r cs xs os,vs=[.ref p,.ref r]/\H p=some (.lst (cs.map V.int))/\H r=some (.lst xs)/\IsKos H os xs/\(∀ o∈os,YJ 3 o)/\∀ b,(b=true ↔ Fit cs os)->Q (.bl b) H
def zGI:Sp:=fun vs H Q _=>∃ r xs os,vs=[.ref r]/\H r=some (.lst xs)/\IsKos H os xs/\(∀ o∈os,YJ 3 o)/\os.length<=76/\∀ H' b,Same H H'->(b=true ↔ (Qo os).Nodup)->Q (.bl b) H'
def zBc:Sp:=fun vs H Q _=>∃ r xs os,vs=[.ref r]/\H r=some (.lst xs)/\IsKos H os xs/\os.length<=1000/\∀ p H',Same H H'->H p=none->H' p=some (.lst ((plc os os.length).map V.int))->Q (.ref p) H'
def zE9:Sp:=fun vs H Q _=>∃ p r cs xs os,vs=[.ref p,.ref r]/\H p=some (.lst (cs.map V.int))/\H r=some (.lst xs)/\IsKos H os xs/\os.length<=1000/\cs.length<=1000/\(Qx cs).length<=64/\os.length < 64/\∀ H' b,Same H H'->(b=true ↔ (Qx cs).Perm (plc os os.length))->Q (.bl b) H'
def zD0:Sp:=fun vs H Q _=>∃ p r cs xs os,vs=[.ref p,.ref r]/\H p=some (.lst (cs.map V.int))/\H r=some (.lst xs)/\IsKos H os xs/\(∀ o∈os,YJ 3 o)/\os.length<=1000/\S8 (cs.length:Int)/\(Qx cs).Perm (plc os os.length)/\∀ H' b,Same H H'->(b=true ↔ zFO cs os)->Q (.bl b) H'
def zB6:Sp:=fun vs H Q _=>∃ p r cs xs os,vs=[.ref p,.ref r]/\H p=some (.lst (cs.map V.int))/\H r=some (.lst xs)/\IsKos H os xs/\(∀ o∈os,YJ 3 o)/\cs.length<=90/\(Qx cs).length<=64/\∀ H' b,Same H H'->(b=true ↔ Frm cs os)->Q (.bl b) H'
def zEO:Sp:=fun vs H Q _=>∃ (p:Addr) (cs:List Int) (x:V) (k:Kd) (c:Nat),vs=[.ref p,x]/\H p=some (.lst (cs.map V.int))/\zAb (cs.length:Int)/\IsK H k x/\k.deep<=3/\IsFirst (fun c=>cAt cs k.st c = -1) cs.length c/\Q (.int (sl k.st cs.length c:Nat)) H
def hl (cs:List Int):Nat:=(Qx cs).length
structure CR (p r:Addr) (H:Hp) (cs:List Int) (os:List (Option Kd)):Prop where
 hp:H p=some (.lst (cs.map V.int))
 hr:∃ xs,H r=some (.lst xs)/\IsKos H os xs
 ne:p ≠ r
 sh:∀ o∈os,YJ 3 o
theorem CR.same {p r:Addr} {H H':Hp} {cs:List Int} {os:List (Option Kd)} (C:CR p r H cs os) (g:Same H H'):CR p r H' cs os:=by
 obtain⟨xs,h1,h2⟩:=C.hr
 exact⟨g _ _ C.hp,⟨xs,g _ _ h1,h2.same g.tups⟩,C.ne,C.sh⟩
theorem zDx (f:Int->Bool) {v:Int}:∀ (cs:List Int) (i:Nat),((cs.set i v).filter f).length<=(cs.filter f).length+(if f v=true then 1 else 0)
 | [],i=>by simp
 | c::cs,0=>by
  rw[List.set_cons_zero,List.filter_cons,List.filter_cons]
  split <;> split <;> (try rw[List.length_cons]) <;> (try rw[List.length_cons]) <;> omega
 | c::cs,i+1=>by
  rw[List.set_cons_succ,List.filter_cons,List.filter_cons]
  have:=zDx f (v:=v) cs i
  by_cases z:f c=true
  ·rw[if_pos z,if_pos z,List.length_cons,List.length_cons]
   omega
  ·rw[if_neg z,if_neg z]
   exact this
theorem plc_nodup {os:List (Option Kd)} {i:Nat}:(plc os i).Nodup:=plc_rise.imp fun h e=>by omega
theorem zDZ {cs:List Int} {j:Nat} {v:Int} (h:cs[j]? = some (-1)):(cs.set j v).countP (fun v=>v != -1)<=cs.countP (fun v=>v != -1)+1:=by
 have:=zDx (fun v=>v != -1) (v:=v) cs j
 rw[List.countP_eq_length_filter,List.countP_eq_length_filter]
 split at this <;> omega
theorem zIB {n:Nat}:(List.replicate n [V.int (-1)]).flatten=(List.replicate n (-1:Int)).map V.int:=by
 rw[List.map_replicate]
 induction n with
 | zero=>rfl
 | succ z ih=>rw[List.replicate_succ,List.flatten_cons,ih,List.replicate_succ];rfl
def zHq:Sp:=fun vs H Q _=>∃ x b,vs=[x]/\((∃ i,x=.int i/\b=true)\/(x=.non/\b=false))/\Q (.bl b) H
def GoodC (cs:List Int) (os:List (Option Kd)):Prop:=∀ v∈cs,v = -1\/v = -2\/v∈plc os os.length
def zFk (cs:List Int) (os:List (Option Kd)):Prop:=(∀ q:Nat,q < os.length->cs.count (q:Int)=if (q:Int)∈plc os os.length then 1 else 0)/\cs.count (-2)<=os.count none
def zHO (cs:List Int) (os:List (Option Kd)) (i:Nat):Prop:=∀ q:Nat,q < i->cs.count (q:Int)=if (q:Int)∈plc os os.length then 1 else 0
def NoI (os:List (Option Kd)) (k:Kd) (i:Nat):Prop:=∀ n:Nat,n < i->os[n]? ≠ some (some k)
def zAT:Sp:=fun vs H Q _=>∃ (p r:Addr) (cs:List Int) (os:List (Option Kd)),vs=[.ref p,.ref r]/\CR p r H cs os/\cs.length<=90/\∀ H' b,Same H H'->(b=true ↔ zFk cs os)->Q (.bl b) H'
def PlV (v:V) (o:Option Nat):Prop:=(v=.non/\o=none)\/∃ n:Nat,v=.int (n:Int)/\o=some n
def FnV (a:Int):Option Nat->Prop
 | none=>a = -1
 | some n=>a=(n:Int)
def EnV (cs:List Int) (c:Nat):Option Nat->Prop
 | none=>c+cs.count (-1)<=cs.length
 | some _=>c+1+cs.count (-1)<=cs.length
def OwV (os:List (Option Kd)) (k:Kd):Option Nat->Prop
 | none=>∀ n:Nat,os[n]? ≠ some (some k)
 | some n=>os[n]? = some (some k)
def Z8:Sp:=fun vs H Q _=>∃ (p r:Addr) (cs:List Int) (os:List (Option Kd)) (x v:V) (k:Kd) (c:Nat) (o:Option Nat),vs=[.ref p,.ref r,x,v]/\CR p r H cs os/\0 < cs.length/\cs.length<=90/\Js cs os/\IsK H k x/\k.deep<=3/\IsFirst (fun c=>YK os k (cAt cs k.st c)) cs.length c/\PlV v o /\
 ∀ H' b,Same H H'->(b=true ↔ FnV (cAt cs k.st c) o)->Q (.bl b) H'
def Wq:Sp:=fun vs H Q _=>∃ (p r:Addr) (cs:List Int) (os:List (Option Kd)) (x v:V) (k:Kd) (c:Nat) (o:Option Nat),vs=[.ref p,.ref r,x,v]/\CR p r H cs os/\0 < cs.length/\cs.length<=90/\Js cs os/\IsK H k x/\k.deep<=3/\IsFirst (fun c=>YK os k (cAt cs k.st c)) cs.length c/\PlV v o /\
 FnV (cAt cs k.st c) o/\EnV cs c o/\∀ H',Same H H'->Q (.bl true) H'
def zEk:Sp:=fun vs H Q _=>∃ (r:Addr) (xs:List V) (os:List (Option Kd)) (x:V) (k:Kd),vs=[.ref r,x]/\H r=some (.lst xs)/\IsKos H os xs/\(∀ o∈os,YJ 3 o)/\IsK H k x/\∀ H' v o,Same H H'->PlV v o->OwV os k o->Q v H'
def zCz:Sp:=fun vs H Q _=>∃ (xa r:Addr) (ws:List Int) (xs:List V) (os:List (Option Kd)) (S:Int),vs=[.ref xa,.ref r,.int S]/\H xa=some (.lst (ws.map V.int))/\H r=some (.lst xs)/\IsKos H os xs/\(∀ o∈os,YJ 3 o)/\S8 S/\S<=64/\3*(os.length:Int)<=2*S/\16<=ws.length/\(∀ x∈ws,0<=x) /\
 ∀ p cs H',Same H H'->H p=none->H' p=some (.lst (cs.map V.int))->(cs.length:Int)=S->GoodC cs os->Q (.ref p) H'
def DrI (H H':Hp) (p pa:Addr) (S:Int) (os:List (Option Kd)) (i:Nat):Prop:=Same H H'/\H' pa=some (.lst ((plc os os.length).map V.int))/\∃ cs,H' p=some (.lst (cs.map V.int))/\(cs.length:Int)=S/\GoodC cs os/\cs.countP (fun v=>v != -1)<=i
theorem GoodC.set {cs:List Int} {os:List (Option Kd)} {j:Nat} {v:Int} (h:GoodC cs os) (hv:v = -1\/v = -2\/v∈plc os os.length):GoodC (cs.set j v) os:=fun u hu=>by
 rcases List.mem_or_eq_of_mem_set hu with z | z
 ·exact h u z
 ·rw[z];exact hv
def RwI (H:Hp) (r:Addr) (i:Nat):Prop:=∃ ys os,H r=some (.lst ys)/\IsKos H os ys/\os.length=i/\(∀ o∈os,YJ 3 o)/\(Qo os).Nodup
theorem Y4 {cs:List Int} {v:Int}:(cz cs).count (some (Kd.num v))=cs.count v:=by
 unfold cz
 induction cs with
 | nil=>rfl
 | cons c cs ih =>
  rw[List.map_cons,List.count_cons,List.count_cons,ih]
  by_cases z:c=v
  ·subst z;simp
  ·rw[if_neg (fun h=>z (by have:=eq_of_beq h;injection this with this;injection this)),if_neg (fun h=>z (eq_of_beq h))]
theorem zF1 {cs:List Int} {os:List (Option Kd)} (h:GoodC cs os) (sh:∀ o∈os,YJ 3 o):Js cs os:=fun v hv v0=>by
 rcases h v hv with z | z | z
 ·omega
 ·omega
 ·obtain⟨p,k,e1,e2,e3⟩:=plc_iff.mp z
  subst e1
  exact⟨k,by rw[Int.toNat_natCast];exact e3,shal_mono (sh _ (List.mem_of_getElem? e3))⟩
theorem zD7 {cs:List Int}:cs.countP (fun v=>v != -1)=(Qx cs).length+cs.count (-2):=by
 unfold Qx
 induction cs with
 | nil=>rfl
 | cons c cs ih =>
  rw[List.countP_cons,List.filter_cons,List.count_cons,ih]
  by_cases z1:c = -1
  ·subst z1;simp
  ·by_cases z2:c = -2
   ·subst z2;simp;omega
   ·simp[z1,z2];omega
theorem zBw {cs:List Int}:cs.countP (fun v=>v != -1)+cs.count (-1)=cs.length:=by
 induction cs with
 | nil=>rfl
 | cons c cs ih =>
  rw[List.countP_cons,List.count_cons,List.length_cons]
  by_cases z1:c = -1
  ·subst z1;simp;omega
  ·simp[z1];omega
theorem Jq {os:List (Option Kd)}:∀ i,i<=os.length->(plc os i).length+(os.take i).count none=i
 | 0,_=>by simp[plc]
 | i+1,h=>by
  have e:os[i]? = some os[i]:=List.getElem?_eq_getElem (by omega)
  have ih:=Jq (os:=os) i (by omega)
  rw[Zy e,List.take_add_one,e,List.count_append]
  cases os[i] with
  | none=>simp;omega
  | some k=>simp;omega
theorem JS {cs:List Int} {v:Int} (h1:v ≠ -1) (h2:v ≠ -2):(Qx cs).count v=cs.count v:=by
 unfold Qx
 exact List.count_filter (by simp[h1,h2])
theorem J1 {cs:List Int} {os:List (Option Kd)} (gc:GoodC cs os) (O:zFk cs os):(Qx cs).Perm (plc os os.length):=by
 refine List.perm_iff_count.mpr fun v=>?_
 by_cases hv:v∈plc os os.length
 ·obtain⟨q,k,rfl,h1,h2⟩:=plc_iff.mp hv
  rw[JS (by omega) (by omega),O.1 q h1,plc_nodup.count]
 ·rw[List.count_eq_zero.mpr hv,List.count_eq_zero.mpr fun h=>?_]
  obtain⟨h1,h2,h3⟩:=heldL_mem.mp h
  rcases gc v h1 with z | z | z
  ·exact h2 z
  ·exact h3 z
  ·exact hv z
theorem zDt {cs:List Int} {os:List (Option Kd)} (h:Frm cs os):zFk cs os:=by
 refine⟨fun q hq=>?_,?_⟩
 ·rw[← JS (cs:=cs) (v:=(q:Int)) (by omega) (by omega),List.perm_iff_count.mp h.2.2.1 (q:Int),plc_nodup.count]
 ·have:=h.1.2.2
  rw[Y4] at this
  omega
theorem zDr {cs:List Int} {os:List (Option Kd)} (gc:GoodC cs os) (O:zFk cs os):cs.countP (fun v=>v != -1)<=os.length:=by
 have h1:=(J1 gc O).length_eq
 have h2:=Jq (os:=os) os.length (Nat.le_refl _)
 rw[List.take_length] at h2
 have h3:=O.2
 rw[zD7]
 omega
theorem zAC {cs:List Int} {os:List (Option Kd)} (h8:S8 (cs.length:Int)) (hf:cs.countP (fun v=>v != -1) < cs.length) (AF:zFO cs os) {k:Kd} {o:Option Nat} (h:OwV os k o):∃ c,IsFirst (fun c=>YK os k (cAt cs k.st c)) cs.length c/\FnV (cAt cs k.st c) o/\EnV cs c o:=by
 have bc:=zBw (cs:=cs)
 cases o with
 | none =>
  obtain⟨c0,c1,c2⟩:=Z2 (m:=k.st) h8.p2 (Zp hf)
  obtain⟨c,hc⟩:=Yt (P:=fun c=>YK os k (cAt cs k.st c)) ⟨c0,c1,.inl c2⟩
  refine⟨c,hc,?_,?_⟩
  ·rcases hc.2.1 with z | ⟨_,z⟩
   ·exact z
   ·exact absurd z (h _)
  ·have:=J2 (m:=k.st) h8.p2 (Nat.le_of_lt hc.1) fun i hi z=>hc.2.2 i hi (.inl z)
   show c+cs.count (-1)<=cs.length
   omega
 | some n =>
  obtain⟨c,hc,e⟩:=AF n k h
  refine⟨c,hc,e,?_⟩
  have:=J2 (m:=k.st) (c:=c+1) h8.p2 hc.1 fun i hi z=>by
   by_cases y:i=c
   ·rw[y,e] at z
    omega
   ·exact hc.2.2 i (by omega) (.inl z)
  show c+1+cs.count (-1)<=cs.length
  omega
theorem WV {os:List (Option Kd)} {o:Option Kd}:Qo (os++[o])=Qo os++(match o with | some k=>[k] | none=>[]):=by
 unfold Qo
 rw[List.filterMap_append]
 cases o <;> rfl
def zBC (K:W.Frag):Sp:=fun vs H Q _=>∃ (a:Addr) (ns:List Int),vs=[.ref a]/\SqL K H a (ns.map V.int)/\ns.length<=63/\∀ H',Q (.bl true) H'
local macro_rules | `(tactic| walk_at "rd") => `(tactic| simp only [L2.Q1, L2.tC, L2.tOp, L2.tUn, L2.rI, L2.rI0, L2.rU, L2.zD9, L2.tB, L2.zHh, L2.tOr, L2.zFq, L2.zGG, L2.zHn, L2.zGQ, L2.tIf, L2.zEY, L2.zFe, L2.zDs, L2.zHo, L2.zGf, L2.YW, L2.Wy, L2.WR, L2.tCB, L2.zAN, L2.Qt, L2.zGM, L2.zHZ, L2.zHi, L2.Zk, L2.tSl, L2.zGT, L2.zCa, L2.ZF, L2.zCs, L2.zGj, L2.zDw, L2.zFF, L2.zFN, L2.zGx, L2.zF2, L2.zHG, L2.zFj, L2.zF3, L2.zHL, L2.Wv, L2.YR, L2.zDY, L2.zHU, L2.zFW, L2.tBM, L2.zH8, Option.getD_some, L2.zFA, L2.zHm, L2.zGN, L2.zHg,
 Int.reduceLT,Int.reduceLE,Int.reduceToNat,Int.reducePow,Int.reduceMul,Int.reduceSub,Int.reduceAdd,Int.reduceNeg,Int.reduceEq,Int.reduceNe,Int.reduceDiv,Int.reduceMod,Nat.reduceLT,Nat.reducePow,Nat.reduceLeDiff,Nat.reduceMul,
 List.map_cons,List.map_nil,List.length_cons,List.length_nil,List.cons_append,List.nil_append,Nat.zero_add,Nat.reduceAdd,Nat.reduceSub,Nat.sub_self,List.replicate_succ,List.replicate_zero,List.append_nil,List.getElem?_cons_zero,List.getElem?_cons_succ,List.set_cons_zero,List.set_cons_succ,
 Option.some.injEq,L2.V.int.injEq,L2.V.bl.injEq,L2.V.str.injEq,L2.V.ref.injEq,and_assoc,exists_and_left,exists_eq',exists_eq,exists_eq_left,exists_eq_left',decide_eq_true_eq,Bool.not_eq_true',decide_eq_false_iff_not,↓reduceIte,Bool.false_eq_true,if_true,if_false,Bool.not_true,Bool.not_false,true_and,and_true,List.cons.injEq,Bool.true_eq_false,reduceCtorEq,decide_true,decide_false,L2.zHH,L2.zA9,L2.Jb,L2.zBV,L2.zAt,L2.zB2,L2.zAg,L2.zBr,L2.zBP,L2.zA8,L2.Jg,L2.zA3,L2.zAa,L2.zAx,L2.Jd,L2.zBR,L2.zAc,L2.ZC,L2.ZX,L2.Y7,L2.zAQ,L2.zBD,L2.Ji,L2.WU,L2.zAH,L2.zBq,L2.zAX,L2.JO,L2.zBS,zBt,L2.zGp,L2.zCc,L2.zGu,L2.zHM,L2.zE2,L2.zGD,L2.WD,L2.zGL,L2.zE8,L2.zD6,L2.zEc,L2.zGR,L2.zHs])
section
variable {P:Program} {w:World} {K:W.Frag} {mg:Str->Option Value} {base:Heap} {a:Ad}
theorem ZQ (T:Txt K mg a):FnOk P w K mg base CX0 1 a.f_text_stamp a.d_text_stamp Yu zBt:=by
 refine T.F_text_stamp.ok sc_text_stamp (fun vs H Q E h=>?_) (fun cdv A outer s H vs Q E hr h=>?_)
 ·obtain⟨x,rfl,_⟩:=h
  rfl
 have nd:=sc_text_stamp.nd
 obtain⟨x,rfl,q⟩:=h
 refine⟨_,(QC (QP (i:=1) nd rfl (Or.inl rfl) QB)
 (QC (Q3 PassesOwn.never rfl (zEd (pv 0)) (Qg (i:=2) nd rfl (Or.inl rfl)) (QG (QP (i:=1) nd rfl (Or.inl rfl) (QF QR (QF QZ (QF Qh QB (pv 1)) (QL zAD rfl T.z_ord boot_ord (QA (pv 2) QD))) (YI (v:=.int 2147483647) rfl T.c_TURN ⟨_,rfl⟩)))))
 (QG (QM (pv 1))))),?_⟩
 walk_at "rd"
 refine zBZ (fun i σ H'=>H'=H/\∃ u,σ=[some (.str x),some (.int (tst (x.cps.toList.take i))),u]) ⟨rfl,_,rfl⟩ (fun i c σ H' hc h=>?_) (fun σ H' h=>?_)
 ·obtain⟨rfl,u,rfl⟩:=h
  walk_at "rd"
  refine⟨.inl ⟨by decide,by decide⟩,?_⟩
  rw[ZL hc,zBJ]
 ·obtain⟨rfl,u,rfl⟩:=h
  walk_at "rd"
  have e:x.cps.toList.take x.cps.size=x.cps.toList:=List.take_of_length_le (by simp)
  rw[e]
  exact q
theorem WX {n k:Nat} (T:Txt K mg a) (hn:1<=n) (G_text_stamp:FnOk P w K mg base CX0 1 a.f_text_stamp a.d_text_stamp Yu zBt)
  (G_tuple_stamp:∀ m,k=m+1->FnOk P w K mg base CX0 n a.f_tuple_stamp a.d_tuple_stamp Yb (zHr m)):FnOk P w K mg base CX0 (n+1) a.f_stamp a.d_stamp Zo (zAK k):=by
 refine T.F_stamp.ok sc_stamp (fun vs H Q E h=>?_) (fun cdv A outer s H vs Q E hr h=>?_)
 ·obtain⟨v,k,rfl,_⟩:=h
  rfl
 have nd:=sc_stamp.nd
 obtain⟨v,kd,rfl,hk,hd,q⟩:=h
 cases kd with
 | num i =>
  unfold IsK at hk
  subst hk
  refine⟨_,(QC (QX (Qy (QL Qf rfl T.z_isinstance boot_isinstance (QA (pv 0) (QA (Qm (v:=.ty "str") rfl T.z_str boot_str rfl) QD)))) Qs QT) (QC (QX (Qy (QL Qf rfl T.z_isinstance boot_isinstance (QA (pv 0) (QA (Qm (v:=.ty "tuple") rfl T.z_tuple boot_tuple rfl) QD)))) Qs QT) (QG (QM (QF QR (pv 0) (YI (v:=.int 2147483647) rfl T.c_TURN ⟨_,rfl⟩)))))),?_⟩
  walk_at "rd"
  unfold Kd.st at q
  exact q
 | txt x =>
  unfold IsK at hk
  subst hk
  refine⟨_,(QC (QX (Qy (QL Qf rfl T.z_isinstance boot_isinstance (QA (pv 0) (QA (Qm (v:=.ty "str") rfl T.z_str boot_str rfl) QD)))) (QG (QM (QK (G_text_stamp.mono hn) hr rfl T.m_text_stamp T.F_text_stamp.kp T.b_text_stamp .nil QU (QA (pv 0) QD)))) QT) (QC zDy Qs)),?_⟩
  walk_at "rd"
  unfold Kd.st at q
  exact q
 | tup ks =>
  unfold IsK at hk
  obtain⟨b,ws,rfl,hb,_,hks⟩:=hk
  unfold Kd.deep at hd
  obtain⟨m,rfl⟩:∃ m,k=m+1:=⟨k - 1,by omega⟩
  have G_tuple_stamp:=G_tuple_stamp m rfl
  refine⟨_,(QC (QX (Qy (QL Qf rfl T.z_isinstance boot_isinstance (QA (pv 0) (QA (Qm (v:=.ty "str") rfl T.z_str boot_str rfl) QD)))) Qs QT) (QC (QX (Qy (QL Qf rfl T.z_isinstance boot_isinstance (QA (pv 0) (QA (Qm (v:=.ty "tuple") rfl T.z_tuple boot_tuple rfl) QD)))) (QG (QM (QK G_tuple_stamp hr rfl T.m_tuple_stamp T.F_tuple_stamp.kp T.b_tuple_stamp .nil QU (QA (pv 0) QD)))) QT) Qs)),?_⟩
  (iterate 4 ((try simp only[ZC hb,ZX hb]);(try walk_at "rd")))
  unfold Kd.st at q
  exact⟨_,_,_,rfl,hb,hks,by omega,q⟩
theorem Zx {n k:Nat} (T:Txt K mg a) (G_stamp:FnOk P w K mg base CX0 n a.f_stamp a.d_stamp Zo (zAK k)):FnOk P w K mg base CX0 (n+1) a.f_tuple_stamp a.d_tuple_stamp Yb (zHr k):=by
 refine T.F_tuple_stamp.ok sc_tuple_stamp (fun vs H Q E h=>?_) (fun cdv A outer s H vs Q E hr h=>?_)
 ·obtain⟨v,k,ks,rfl,_⟩:=h
  rfl
 have nd:=sc_tuple_stamp.nd
 obtain⟨b,ws,ks,rfl,hb,hks,hd,q⟩:=h
 refine⟨_,(QC (QP (i:=1) nd rfl (Or.inl rfl) QB)
 (QC (Q3 PassesOwn.never rfl (zD5 (pv 0)) (Qg (i:=2) nd rfl (Or.inl rfl)) (QG (QP (i:=1) nd rfl (Or.inl rfl) (QF QR (QF zBz (QF Qh QB (pv 1)) (QK G_stamp hr rfl T.m_stamp T.F_stamp.kp T.b_stamp .nil QU (QA (pv 2) QD))) (YI (v:=.int 2147483647) rfl T.c_TURN ⟨_,rfl⟩)))))
 (QG (QM (pv 1))))),?_⟩
 walk_at "rd"
 refine⟨⟨_,SqT.of hb⟩,?_⟩
 refine zA4 (xs:=ws) (fun i σ H'=>H'=H/\∃ u,σ=[some (.ref b),some (.int (Kd.stL 11 (ks.take i))),u]) ⟨rfl,_,by unfold Kd.stL;rfl⟩ (fun i σ H' _ h=>by rw[h.1];exact SqT.of hb) (fun i x σ H' hc h=>?_) (fun σ H' h=>?_)
 ·obtain⟨rfl,u,rfl⟩:=h
  obtain⟨k',e1,e2⟩:=hks.get hc
  walk_at "rd"
  refine⟨.inl ⟨by decide,by decide⟩,x,k',rfl,e2,Nat.le_trans (Kd.deep_le (List.mem_of_getElem? e1)) hd,?_⟩
  walk_at "rd"
  rw[ZL e1,Kd.stL_snoc]
 ·obtain⟨rfl,u,rfl⟩:=h
  walk_at "rd"
  rw[List.take_of_length_le (by rw[hks.length];exact Nat.le_refl _)]
  exact q
theorem Zr (T:Txt K mg a):∀ d:Nat,FnOk P w K mg base CX0 (2*d+2) a.f_stamp a.d_stamp Zo (zAK d)
 | 0=>WX (n:=1) (k:=0) T (Nat.le_refl _) (ZQ T) (fun m h=>by cases h)
 | d + 1 => WX (n := 2 * d + 3) (k := d + 1) T (by omega) (ZQ T) (fun m h => by
   cases h
   exact Zx T (Zr T d))
theorem zDk (T:Txt K mg a):FnOk P w K mg base CX0 1 a.f_stride a.d_stride JT zBQ:=by
 refine T.F_stride.ok sc_stride (fun vs H Q E h=>?_) (fun cdv A outer s H vs Q E hr h=>?_)
 ·obtain⟨m,rfl,_⟩:=h
  rfl
 have nd:=sc_stride.nd
 obtain⟨m,rfl,h0,q⟩:=h
 refine⟨_,(QG (QM (QF zHQ (QF QV (pv 0) QB) QB))),?_⟩
 walk_at "rd"
 rw[zDN (by omega)]
 exact q
theorem zEw (T:Txt K mg a)(G_stride:FnOk P w K mg base CX0 1 a.f_stride a.d_stride JT zBQ):FnOk P w K mg base CX0 2 a.f_probe a.d_probe zAJ zCu:=by
 refine T.F_probe.ok sc_probe (fun vs H Q E h=>?_) (fun cdv A outer s H vs Q E hr h=>?_)
 ·obtain⟨m,s,c,rfl,_⟩:=h
  rfl
 have nd:=sc_probe.nd
 obtain⟨m,s,c,rfl,h0,h1,h2,h3,q⟩:=h
 refine⟨_,(QG (QM (QF QR (QF QZ (pv 0) (QF Qh (pv 2) (QK (G_stride.mono (by decide)) hr rfl T.m_stride T.F_stride.kp T.b_stride .nil QU (QA (pv 0) QD)))) (pv 1)))),?_⟩
 walk_at "rd"
 refine⟨_,rfl,h0,?_⟩
 walk_at "rd"
 refine⟨.inl ⟨by omega,by omega⟩,h1,?_⟩
 have e:pr m s c.toNat=(m+c*std m) % s:=by unfold pr;rw[Int.toNat_of_nonneg h2]
 rw[← e]
 exact q
theorem zAy (T:Txt K mg a):FnOk P w K mg base CX0 1 a.f_Lcell_at a.d_Lcell_at Yx (zBo K):=by
 refine T.F_Lcell_at.ok sc_Lcell_at (fun vs H Q E h=>?_) (fun cdv A outer s H vs Q E hr h=>?_)
 ·obtain⟨b,ns,k,rfl,_⟩:=h
  rfl
 have nd:=sc_Lcell_at.nd
 obtain⟨b,ns,k,rfl,hS,h0,q⟩:=h
 refine⟨_,(QC (QX (QS zGK (pv 1) (QL Yy rfl T.z_len PySem.boot_len (QA (pv 0) QD)) (QN _)) (QG (QM (Qp zCt (pv 0) (pv 1) (fun _ _=>rfl)))) QT)
 (QG (QM QB))),?_⟩
 walk_at "rd"
 refine⟨_,.inl hS,?_⟩
 rw[List.length_map]
 refine Q8 (fun c=>?_) (fun c=>?_)
 ·have e:k=((k.toNat:Nat):Int):=by omega
  have hk:k.toNat < ns.length:=by omega
  refine⟨b,_,k,V.int ns[k.toNat],rfl,rfl,hS,?_,?_⟩
  ·have e3:atI (ns.map V.int) ((k.toNat:Nat):Int)=some (V.int ns[k.toNat]):=Qn (by simp[hk])
   rw[← e] at e3
   exact e3
  ·have e2:YA ns k=ns[k.toNat]:=by unfold YA;rw[List.getElem?_eq_getElem hk];rfl
   rw[← e2];exact q
 ·have e2:YA ns k=0:=by unfold YA;rw[List.getElem?_eq_none (by omega)];rfl
  rw[e2] at q
  exact q
end
section
variable {P:Program} {w:World} {K:W.Frag} {mg:Str->Option Value} {base:Heap} {a:Ad}
theorem zCJ (T:Txt K mg a)(G_Lcell_at:FnOk P w K mg base CX0 1 a.f_Lcell_at a.d_Lcell_at Yx (zBo K)):FnOk P w K mg base CX0 2 a.f_Lstream a.d_Lstream WK (zA7 K):=by
 refine T.F_Lstream.ok sc_Lstream (fun vs H Q E h=>?_) (fun cdv A outer s H vs Q E hr h=>?_)
 ·obtain⟨b,ns,m,rfl,_⟩:=h
  rfl
 have nd:=sc_Lstream.nd
 obtain⟨b,ns,m,rfl,hS,h0,h1,q⟩:=h
 refine⟨_,(QC (QP (i:=2) nd rfl (Or.inl rfl) QB)
 (QC (Q3 PassesOwn.never rfl (YM (pv 0)) (Qg (i:=3) nd rfl (Or.inl rfl)) (QG (QP (i:=2) nd rfl (Or.inl rfl) (QF QR (QF QZ (QF Qh (pv 2) QB) (pv 3)) (QF QZ (QF Y2 QB QB) QB)))))
 (QC (QP (i:=4) nd rfl (Or.inl rfl) (Za QD))
 (QC (Q3 PassesOwn.never rfl (YG rfl T.z_range (QA (pv 1) QD)) (Qg (i:=5) nd rfl (Or.inl rfl)) (QC (QP (i:=2) nd rfl (Or.inl rfl) (QF QR (QF QZ (QF QZ (QF Qh (pv 2) QB) (QK (G_Lcell_at.mono (by decide)) hr rfl T.m_Lcell_at T.F_Lcell_at.kp T.b_Lcell_at .nil QU (QA (pv 0) (QA (pv 5) QD)))) QB) (QF Y2 QB QB)))
 (QG (Wk (ZW PySem.F.plainAttrs_list PySem.F.slot_list_append PySem.F.type_list_append Wf (pv 4) (QA (QF QV (pv 2) (QF Y2 QB QB)) QD))))))
 (QG (QM (pv 4))))))),?_⟩
 walk_at "rd"
 refine⟨⟨_,hS⟩,ZJ (xs:=ns.map V.int) (fun _ σ H'=>H'=H/\∃ z u,σ=[some (.ref b),some (.int m),some (.int z),u,none,none]) ⟨rfl,_,_,rfl⟩ (fun _ _ _ _ h=>by rw[h.1];exact hS) (fun i x σ H' e h=>?_) (fun σ H' h=>?_)⟩
 ·obtain⟨rfl,z,u,rfl⟩:=h
  obtain⟨n,_,rfl⟩:=List.mem_map.mp (List.mem_of_getElem? e)
  walk_at "rd"
  exact .inr ⟨by decide,by decide⟩
 obtain⟨rfl,z,u,rfl⟩:=h
 walk_at "rd"
 refine⟨by decide,fun p hp=>⟨by omega,by omega,?_⟩⟩
 refine YV (fun i σ H1=>∃ z u v xs,σ=[some (.ref b),some (.int m),some (.int z),u,some (.ref p),v]/\H1=upd H' p (.lst (xs.map V.int))/\xs.length=i/\∀ x∈xs,(0:Int)<=x/\x < 2 ^ 44) ⟨z,u,none,[],rfl,rfl,rfl,fun x hx=>by cases hx⟩ (fun i σ H1 hi h=>?_) (fun σ H1 h=>?_)
 ·obtain⟨z,u,v,xs,rfl,rfl,hl,hx⟩:=h
  have g1:=QE (o:=HO.lst (xs.map V.int)) hp
  walk_at "rd"
  refine⟨.inr ⟨by decide,by decide⟩,b,ns,_,rfl,g1.seq hS,by omega,?_⟩
  walk_at "rd"
  rw[zFi QH,W6 QH,List.length_map,hl]
  refine⟨True.intro,Qd (by omega),xs++[_],by rw[zCv,List.map_append];rfl,by rw[List.length_append,hl];rfl,fun x hx'=>?_⟩
  rcases List.mem_append.mp hx' with y | y
  ·exact hx x y
  ·rw[List.mem_singleton.mp y]
   omega
 ·obtain⟨z,u,v,xs,rfl,rfl,hl,hx⟩:=h
  walk_at "rd"
  exact q p xs hp (by omega) hx
theorem zE6 (T:Txt K mg a):FnOk P w K mg base CX0 1 a.f_Ltext a.d_Ltext Zz Wc:=by
 refine T.F_Ltext.ok sc_Ltext (fun vs H Q E h=>?_) (fun cdv A outer s H vs Q E hr h=>?_)
 ·obtain⟨i,n,rfl,_⟩:=h
  rfl
 have nd:=sc_Ltext.nd
 obtain⟨i,n,rfl,h0,h1,q⟩:=h
 refine⟨_,(QC (QP (i:=2) nd rfl (Or.inl rfl) zBn)
 (QC (QP (i:=2) nd rfl (Or.inl rfl) (QF Yp (pv 2) zBn))
 (QC (QP (i:=3) nd rfl (Or.inl rfl) zBn)
 (QC (Q3 PassesOwn.never rfl (YG rfl T.z_range (QA (pv 1) QD)) (Qg (i:=4) nd rfl (Or.inl rfl)) (QC (QP (i:=0) nd rfl (Or.inl rfl) (QF QR (QF QZ (QF Qh (pv 0) QB) QB) QB))
 (QG (QP (i:=3) nd rfl (Or.inl rfl) (QF Yp (pv 3) (Qp zGs (pv 2) (QF QR (pv 0) QB) (fun _ _=>rfl)))))))
 (QG (QM (pv 3))))))),?_⟩
 walk_at "rd"
 refine⟨by decide +kernel,?_⟩
 generalize hz:(Str.ofString " !\"#$&'()*+,-./0123456789:;<=>?@ABCDEFGHIJKLMNOPQRSTUVWXYZ[\\]^_`" ++ Str.ofString "abcdefghijklmnopqrstuvwxyz{|}~")=z
 have hl:z.cps.toList.length=94:=by rw[← hz];decide +kernel
 have hl2:z.length<=sizeLine:=by rw[← hz];decide +kernel
 refine⟨by omega,by omega,?_⟩
 refine YV (fun k σ H'=>H'=H/\∃ (i:Int) (x:Str) (u:Option V),σ=[some (.int i),some (.int n),some (.str z),some (.str x),u]/\x.length=k) ⟨rfl,_,_,_,rfl,rfl⟩ (fun k σ H' hi h=>?_) (fun σ H' h=>?_)
 ·obtain⟨rfl,i,x,u,rfl,hx⟩:=h
  walk_at "rd"
  refine⟨.inr ⟨by decide,by decide⟩,?_⟩
  obtain⟨c,hc⟩:=zGY (l:=z.cps.toList) (i:=(i*48271+11) % 2147483629 % 94) (by omega) (by rw[hl];omega)
  refine⟨z,_,c,rfl,rfl,hl2,hc,⟨#[c]⟩,rfl,?_,rfl,?_⟩
  ·show x.length+1<=sizeLine
   exact Nat.le_of_lt (Qd (by omega))
  ·rw[zCx,hx];rfl
 ·obtain⟨rfl,i,x,u,rfl,hx⟩:=h
  walk_at "rd"
  exact q x (by omega)
theorem Zv {d:Nat} (T:Txt K mg a) (G_Lstamp:∀ m,d=m+1->FnOk P w K mg base CX0 d a.f_Lstamp a.d_Lstamp Yk (zAK m)):FnOk P w K mg base CX0 (d+1) a.f_Lstamp a.d_Lstamp Yk (zAK d):=by
 refine T.F_Lstamp.ok sc_Lstamp (fun vs H Q E h=>?_) (fun cdv A outer s H vs Q E hr h=>?_)
 ·obtain⟨v,k,rfl,_⟩:=h
  rfl
 have nd:=sc_Lstamp.nd
 obtain⟨v,k,rfl,hk,hd,q⟩:=h
 cases k with
 | num i =>
  unfold IsK at hk
  subst hk
  refine⟨_,(QC (QX (Qy (QL Qf rfl T.z_isinstance boot_isinstance (QA (pv 0) (QA (Qm (v:=.ty "int") rfl T.z_int boot_int rfl) QD)))) (QG (QM (QF QR (pv 0) QB))) QT) Qs),?_⟩
  walk_at "rd"
  unfold Kd.st at q
  exact q
 | txt x =>
  unfold IsK at hk
  subst hk
  refine⟨_,(QC (QX (Qy (QL Qf rfl T.z_isinstance boot_isinstance (QA (pv 0) (QA (Qm (v:=.ty "int") rfl T.z_int boot_int rfl) QD)))) Qs QT) (QC (QX (Qy (QL Qf rfl T.z_isinstance boot_isinstance (QA (pv 0) (QA (Qm (v:=.ty "str") rfl T.z_str boot_str rfl) QD)))) (QC (QP (i:=1) nd rfl (Or.inl rfl) QB)
   (QC (Q3 PassesOwn.never rfl (zEd (pv 0)) (Qg (i:=2) nd rfl (Or.inl rfl)) (QG (QP (i:=1) nd rfl (Or.inl rfl) (QF QR (QF QZ (QF Qh QB (pv 1)) (QL zAD rfl T.z_ord boot_ord (QA (pv 2) QD))) QB))))
   (QG (QM (pv 1))))) QT) Qs)),?_⟩
  walk_at "rd"
  refine zBZ (fun i σ H'=>H'=H/\∃ u w,σ=[some (.str x),some (.int (tst (x.cps.toList.take i))),u,w]) ⟨rfl,_,_,rfl⟩ (fun i c σ H' hc h=>?_) (fun σ H' h=>?_)
  ·obtain⟨rfl,u,w,rfl⟩:=h
   walk_at "rd"
   refine⟨.inl ⟨by decide,by decide⟩,?_⟩
   rw[ZL hc,zBJ]
  ·obtain⟨rfl,u,w,rfl⟩:=h
   walk_at "rd"
   have e:x.cps.toList.take x.cps.size=x.cps.toList:=List.take_of_length_le (by simp)
   rw[e]
   unfold Kd.st at q
   exact q
 | tup ks =>
  unfold IsK at hk
  obtain⟨b,ws,rfl,hb,hz,hks⟩:=hk
  unfold Kd.deep at hd
  unfold Kd.st at q
  obtain⟨m,rfl⟩:∃ m,d=m+1:=⟨d - 1,by omega⟩
  have G_Lstamp:=G_Lstamp m rfl
  refine⟨_,(QC (QX (Qy (QL Qf rfl T.z_isinstance boot_isinstance (QA (pv 0) (QA (Qm (v:=.ty "int") rfl T.z_int boot_int rfl) QD)))) Qs QT) (QC (QX (Qy (QL Qf rfl T.z_isinstance boot_isinstance (QA (pv 0) (QA (Qm (v:=.ty "str") rfl T.z_str boot_str rfl) QD)))) Qs QT) (QC (QP (i:=1) nd rfl (Or.inl rfl) QB)
   (QC (Q3 PassesOwn.never rfl (zD5 (pv 0)) (Qg (i:=3) nd rfl (Or.inl rfl)) (QG (QP (i:=1) nd rfl (Or.inl rfl) (QF QR (QF zBz (QF Qh QB (pv 1)) (QK G_Lstamp hr rfl T.m_Lstamp T.F_Lstamp.kp T.b_Lstamp .nil QU (QA (pv 3) QD))) QB))))
   (QG (QM (pv 1))))))),?_⟩
  (iterate 4 ((try simp only[Y7 hb,ZC hb]);(try walk_at "rd")))
  refine⟨⟨_,SqT.of hb⟩,?_⟩
  refine zA4 (xs:=ws) (fun i σ H'=>H'=H/\∃ u w,σ=[some (.ref b),some (.int (Kd.stL 11 (ks.take i))),u,w]) ⟨rfl,_,_,by unfold Kd.stL;rfl⟩ (fun i σ H' _ h=>by rw[h.1];exact SqT.of hb) (fun i x σ H' hc h=>?_) (fun σ H' h=>?_)
  ·obtain⟨rfl,u,w,rfl⟩:=h
   obtain⟨k',e1,e2⟩:=hks.get hc
   walk_at "rd"
   refine⟨.inl ⟨by decide,by decide⟩,x,k',rfl,e2,Nat.le_trans (Kd.deep_le (List.mem_of_getElem? e1)) (by omega),?_⟩
   walk_at "rd"
   rw[ZL e1,Kd.stL_snoc]
  ·obtain⟨rfl,u,w,rfl⟩:=h
   walk_at "rd"
   rw[List.take_of_length_le (by rw[hks.length];exact Nat.le_refl _)]
   exact q
theorem Zg (T:Txt K mg a):∀ d:Nat,FnOk P w K mg base CX0 (d+1) a.f_Lstamp a.d_Lstamp Yk (zAK d)
 | 0=>Zv T (fun m h=>by cases h)
 | d+1=>Zv T (fun m h=>by cases h;exact Zg T d)
theorem zEm (T:Txt K mg a):FnOk P w K mg base CX0 1 a.f_Lstep a.d_Lstep zAZ zCp:=by
 refine T.F_Lstep.ok sc_Lstep (fun vs H Q E h=>?_) (fun cdv A outer s H vs Q E hr h=>?_)
 ·obtain⟨m,rfl,_⟩:=h
  rfl
 have nd:=sc_Lstep.nd
 obtain⟨m,rfl,q⟩:=h
 refine⟨_,(QC (QX (QS Qw (QF QR (QF QV (pv 0) QB) QB) QB (QN _)) (QG (QM (QF QZ (QF QV (pv 0) QB) QB))) QT)
 (QG (QM (QF QV (pv 0) QB)))),?_⟩
 walk_at "rd"
 rw[← zGC] at q
 refine Q8 (fun c=>?_) (fun c=>?_)
 ·rw[if_pos c] at q;exact q
 ·rw[if_neg c] at q;exact q
theorem zEW (T:Txt K mg a)(G_Ltext:FnOk P w K mg base CX0 1 a.f_Ltext a.d_Ltext Zz Wc):FnOk P w K mg base CX0 2 a.f_Lleaf a.d_Lleaf zAe zEh:=by
 refine T.F_Lleaf.ok sc_Lleaf (fun vs H Q E h=>?_) (fun cdv A outer s H vs Q E hr h=>?_)
 ·obtain⟨i,rfl,_⟩:=h
  rfl
 have nd:=sc_Lleaf.nd
 obtain⟨i,rfl,h0,h1,q⟩:=h
 refine⟨_,(QC (QP (i:=1) nd rfl (Or.inl rfl) (QF QV (pv 0) QB))
 (QC (QX (QS Qw (QF QR (pv 0) QB) QB (QN _)) (QG (QM (QF WH (QF QR (pv 1) QB) QB))) QT)
 (QC (QX (QS Qw (QF QR (pv 0) QB) QB (QN _)) (QG (QM (QF QZ (QF WH (QF QR (QF Qh (pv 1) (QF Y2 QB QB)) (QF WH (QF Qh QB (QF Y2 QB QB)) QB)) (QF Y2 QB QB)) QB))) QT)
 (QC (QX (QS Qw (QF QR (pv 0) QB) QB (QN _)) (QG (QM (QK (G_Ltext.mono (by decide)) hr rfl T.m_Ltext T.F_Ltext.kp T.b_Ltext .nil QU (QA (pv 1) (QA (QF QR (QF QV (pv 1) QB) QB) QD))))) QT)
 (QG (QM (QF QZ (QF QR (pv 1) QB) (QF Qh QB (QF QR (QF QV (pv 1) QB) QB))))))))),?_⟩
 have qn:∀ j,Q (.int j) H:=fun j=>q _ (.num j) ZG JK
 have qt:∀ x,Q (.str x) H:=fun x=>q _ (.txt x) Wm Zs
 walk_at "rd"
 refine Q8 (fun _=>qn _) (fun _=>Q8 (fun _=>?_) (fun _=>Q8 (fun _=>?_) (fun _=>?_)))
 ·exact⟨⟨by decide,by decide,by decide⟩,.inl ⟨by omega,by omega⟩,.inl ⟨by decide,by decide⟩,qn _⟩
 ·refine⟨_,_,rfl,by omega,by omega,fun x _=>qt x⟩
 ·exact⟨.inl ⟨by decide,by decide⟩,qn _⟩
end
section
variable {P:Program} {w:World} {K:W.Frag} {mg:Str->Option Value} {base:Heap} {a:Ad}
theorem zBL (T:Txt K mg a)(G_Ltext:FnOk P w K mg base CX0 1 a.f_Ltext a.d_Ltext Zz Wc)(G_Lleaf:FnOk P w K mg base CX0 2 a.f_Lleaf a.d_Lleaf zAe zEh):FnOk P w K mg base CX0 3 a.f_Lany_key a.d_Lany_key Zh zGP:=by
 refine T.F_Lany_key.ok sc_Lany_key (fun vs H Q E h=>?_) (fun cdv A outer s H vs Q E hr h=>?_)
 ·obtain⟨i,rfl,_⟩:=h
  rfl
 have nd:=sc_Lany_key.nd
 obtain⟨i,rfl,h0,h1,q⟩:=h
 refine⟨_,(QC (QP (i:=1) nd rfl (Or.inr rfl) (QF QV (pv 0) QB))
 (QC (QX (QS Qw (QF QR (pv 0) QB) QB (QN _)) (QG (QM (QK (G_Ltext.mono (by decide)) hr rfl T.m_Ltext T.F_Ltext.kp T.b_Ltext .nil QU (QA (pv 1) (QA (QF QR (pv 1) QB) QD))))) QT)
 (QC (QX (QS zGK (QF QR (pv 0) QB) QB (QN _)) (QG (QM (QK (G_Lleaf.mono (by decide)) hr rfl T.m_Lleaf T.F_Lleaf.kp T.b_Lleaf .nil QU (QA (pv 1) QD)))) QT)
 (QC (zF5 (i:=2) nd rfl (Or.inl rfl) "_law_k" ["_law_rest"] [1] rfl ⟨rfl,rfl,by decide +kernel,by decide +kernel,rfl,by decide +kernel,by decide +kernel,rfl,by decide +kernel⟩ rfl (YG rfl T.z_range (QA (QF QR (pv 1) QB) QD)) (fun C s1 H1 fp=>(QK (G_Lleaf.mono (by decide)) hr rfl T.m_Lleaf T.F_Lleaf.kp T.b_Lleaf .nil QU (QA (QF QZ (QF QV (pv 1) (QF QZ (QF Qh (pv 0) (pv 0)) QB)) (QF Qh QB (pv 0))) QD))))
 (QC (QX (PW.pt (zAo (QS Qw (QF QR (pv 0) QB) QB (QN _)) (Wh (QS zHj (QL Qb rfl T.z_len PySem.boot_len (QA (pv 2) QD)) QB (QN _))))) (QG (WE (zAI (QA (Qr Jy rfl T.z_tuple boot_tuple (QA (Ym Wb (pv 2) (Y1 QB) Z5) QD)) (QA (zAI QD) QD))) (WN (pv 2) (QF QR (QF QV (pv 1) QB) (QL Qb rfl T.z_len PySem.boot_len (QA (pv 2) QD))) J4))) QT)
 (QG (QM (Qr Jy rfl T.z_tuple boot_tuple (QA (pv 2) QD))))))))),?_⟩
 walk_at "rd"
 refine Q8 (fun _=>?_) (fun _=>Q8 (fun _=>?_) (fun _=>?_))
 ·exact⟨_,_,rfl,by omega,by omega,fun x _=>q _ (.txt x) H (Same.refl H) Wm (by rw[Zs];decide)⟩
 ·exact⟨_,rfl,by omega,by omega,fun v k hk hd=>q v k H (Same.refl H) hk (by omega)⟩
 refine⟨by omega,by omega,?_⟩
 refine WT (fun n ys H'=>H'=H/\ys.length=n/\∃ ks,IsKs H ks ys/\Kd.deepL ks=0) ⟨rfl,rfl,[],IsKs.nil,rfl⟩ (fun n ys H' hn h=>?_) (fun n ys H' hn h=>?_) (fun ys H' h=>?_)
 ·obtain⟨rfl,hl,_⟩:=h
  exact Qd (by omega)
 ·obtain⟨rfl,hl,ks,hks,hd⟩:=h
  have hn7:n < 7:=by omega
  have nn:((n:Int))*n<=6*6:=Int.mul_le_mul (by omega) (by omega) (by omega) (by omega)
  have n0:0<=((n:Int))*n:=Int.mul_nonneg (by omega) (by omega)
  have e1:0<=i / 6 / ((n:Int)*n+1):=Int.ediv_nonneg (by omega) (by omega)
  have e2:i / 6 / ((n:Int)*n+1)<=i / 6:=Int.ediv_le_self _ (by omega)
  walk_at "rd"
  rw[Int.zero_add]
  refine⟨.inl ⟨by omega,by omega⟩,by omega,by omega,.inl ⟨by omega,by omega⟩,_,rfl,by omega,by omega,fun v k hk hdk=>?_⟩
  refine⟨rfl,by rw[List.length_append,hl];rfl,ks++[k],hks.snoc hk,?_⟩
  have:Kd.deepL (ks++[k])<=0:=Kd.deepL_le fun x hx=>by
   rcases List.mem_append.mp hx with y | y
   ·have:=Kd.deep_le y;omega
   ·rw[List.mem_singleton.mp y];omega
  omega
 obtain⟨rfl,hl,ks,hks,hd⟩:=h
 intro p hp
 have d0:∀ k∈ks,k.deep<=0:=fun k hk=>by have:=Kd.deep_le hk;omega
 have ml:ys.length<=6:=by omega
 have fin:∀ H1 t vs ks',Same H' H1->H1 t=some (HO.tup vs)->vs.length<=6->IsKs H1 ks' vs->Kd.deepL ks'<=2->Q (.ref t) H1:=fun H1 t vs ks' g ht hv hk hdp=>q _ (.tup ks') H1 g (ZK ht (by omega) hk) (by unfold Kd.deep;omega)
 have g1:=QE (o:=HO.lst ys) hp
 have plain:zFs [V.ref p] (upd H' p (HO.lst ys)) Q:=by
  rw[JA QH]
  intro t ht
  have g2:=g1.trans (QE (o:=HO.tup ys) ht)
  exact fin _ t ys ks g2 QH ml (hks.same g2.tups) (by omega)
 refine Q8 (fun _=>?_) (fun _=>plain)
 rw[Qi QH]
 refine⟨_,rfl,Q8 (fun c0=>?_) (fun _=>plain)⟩
 refine⟨p,_,rfl,SqL.of QH,fun r hr'=>?_⟩
 rw[show (some (1:Int))=some ((1:Nat):Int) from rfl,zCy]
 have g2:=QE (o:=HO.lst (ys.drop 1)) hr'
 show zFs [V.ref r] _ _
 rw[JA QH]
 intro t ht
 have g3:=QE (o:=HO.tup (ys.drop 1)) ht
 refine⟨by decide,fun p1 hp1=>⟨by decide,fun p2 hp2=>?_⟩⟩
 have g4:=QE (o:=HO.tup []) hp1
 have g5:=QE (o:=HO.tup [V.ref t,V.ref p1]) hp2
 have gl:=(g2.trans g3).trans (g4.trans g5)
 have hp5:=gl _ _ (QH (H:=H') (a:=p) (o:=HO.lst ys))
 rw[Qi hp5]
 refine⟨_,rfl,by omega,?_⟩
 have j0:=Int.emod_nonneg (i / 6 / 7) (show (ys.length:Int) ≠ 0 by omega)
 have j1:=Int.emod_lt_of_pos (i / 6 / 7) (show 0 < (ys.length:Int) by omega)
 rw[ZH hp5 (j:=(i / 6 / 7 % (ys.length:Int)).toNat) (by omega) (by omega),JA QH]
 intro t2 ht2
 have gA:Same H' _:=g1.trans gl
 have gB:=gA.upd (o:=HO.lst (ys.set (i / 6 / 7 % (ys.length:Int)).toNat (V.ref p2))) hp
 have gC:=gB.trans (QE (o:=HO.tup (ys.set (i / 6 / 7 % (ys.length:Int)).toNat (V.ref p2))) ht2)
 have tups:∀ b xs,upd (upd (upd (upd (upd H' p (HO.lst ys)) r (HO.lst (ys.drop 1))) t (HO.tup (ys.drop 1))) p1 (HO.tup [])) p2 (HO.tup [V.ref t,V.ref p1]) b=some (HO.tup xs)->_:=(Zf (o:=HO.lst (ys.set (i / 6 / 7 % (ys.length:Int)).toNat (V.ref p2))) hp5).trans (QE (o:=HO.tup (ys.set (i / 6 / 7 % (ys.length:Int)).toNat (V.ref p2))) ht2).tups
 refine fin _ t2 _ (ks.set (i / 6 / 7 % (ys.length:Int)).toNat (.tup [.tup (ks.drop 1),.tup []])) gC QH (by rw[List.length_set];exact ml) ((hks.same gC.tups).set ?_ _) (Kd.deepL_le fun k hk=>?_)
 ·refine ZK (tups _ _ QH) (by show 2<=1000;decide) (IsKs.two ?_ ?_)
  ·refine ZK (tups _ _ ((g4.trans g5) _ _ QH)) (by rw[List.length_drop];omega) ((hks.same gC.tups).drop 1)
  ·exact ZK (tups _ _ (g5 _ _ QH)) (by decide) IsKs.nil
 ·rcases List.mem_or_eq_of_mem_set hk with y | y
  ·have:=d0 k y;omega
  ·subst y
   have z:Kd.deepL (ks.drop 1)<=0:=Kd.deepL_le fun k hk=>d0 k (List.mem_of_mem_drop hk)
   simp only[Kd.deep,Kd.deepL]
   omega
theorem zFM (T:Txt K mg a)(G_Ltext:FnOk P w K mg base CX0 1 a.f_Ltext a.d_Ltext Zz Wc)(G_Lstamp:FnOk P w K mg base CX0 1 a.f_Lstamp a.d_Lstamp Yk (zAK 0))(G_Lany_key:FnOk P w K mg base CX0 3 a.f_Lany_key a.d_Lany_key Zh zGP):FnOk P w K mg base CX0 5 a.f_Lkey a.d_Lkey zB5 zB8:=by
 refine T.F_Lkey.ok sc_Lkey (fun vs H Q E h=>?_) (fun cdv A outer s H vs Q E hr h=>?_)
 ·obtain⟨w,b,j,rfl,_⟩:=h
  rfl
 have nd:=sc_Lkey.nd
 obtain⟨w,b,j,rfl,b0,b1,j0,j1,q⟩:=h
 refine⟨_,(QC (QX (QS Qw (pv 0) QB (QN _)) (QG (QM (QF QZ (pv 1) (QF Qh QB (pv 2))))) QT)
 (QC (QX (QS Qw (pv 0) QB (QN _)) (QG (QM (QF QZ (pv 1) (QF Qh QB (pv 2))))) QT)
 (QC (QX (QS Qw (pv 0) QB (QN _)) (QC (QP (i:=3) nd rfl (Or.inl rfl) (QK (G_Ltext.mono (by decide)) hr rfl T.m_Ltext T.F_Ltext.kp T.b_Ltext .nil QU (QA (pv 1) (QA (QF QR (pv 1) QB) QD))))
 (QC (QP (i:=4) nd rfl (Or.inl rfl) (QF QR (QF QV (pv 1) QB) (QF QZ (QL Qb rfl T.z_len PySem.boot_len (QA (pv 3) QD)) QB)))
 (QG (QM (QF Yp (QF Yp (Ym zEr (pv 3) Z5 (Y1 (pv 4))) (QK (G_Ltext.mono (by decide)) hr rfl T.m_Ltext T.F_Ltext.kp T.b_Ltext .nil QU (QA (pv 2) (QA QB QD)))) (Ym zEr (pv 3) (Y1 (pv 4)) Z5)))))) QT)
 (QC (QX (QS Qw (pv 0) QB (QN _)) (QC (QP (i:=5) nd rfl (Or.inl rfl) (QK (G_Ltext.mono (by decide)) hr rfl T.m_Ltext T.F_Ltext.kp T.b_Ltext .nil QU (QA (pv 1) (QA (QF QR (pv 1) QB) QD))))
 (QC (QP (i:=6) nd rfl (Or.inl rfl) (QK (G_Lstamp.mono (by decide)) hr rfl T.m_Lstamp T.F_Lstamp.kp T.b_Lstamp .nil QU (QA (pv 5) QD)))
 (QC (QX (QS Qw (pv 2) QB (QN _)) (QG (QM (pv 5))) QT)
 (QC (QX (QS Qw (QF QR (pv 2) QB) QB (QN _)) (QG (QM (QF QZ (pv 6) (QF Qh QB (QF QV (pv 2) QB))))) QT)
 (QG (QM (zAI (QA (QF QZ (QF zBz QB (pv 6)) (QF Qh QB (QF WH (QF QV (pv 2) QB) QB))) QD)))))))) QT)
 (QG (QM (QK (G_Lany_key.mono (by decide)) hr rfl T.m_Lany_key T.F_Lany_key.kp T.b_Lany_key .nil QU (QA (QF QR (QF Qh (QF QZ (pv 1) (pv 2)) (QF Y2 QB QB)) (QF QZ (QF Y2 QB QB) QB)) QD)))))))),?_⟩
 have qn:∀ n,Q (.int n) H:=fun n=>q _ (.num n) H (Same.refl H) ZG (by rw[JK];decide)
 have qt:∀ x,Q (.str x) H:=fun x=>q _ (.txt x) H (Same.refl H) Wm (by rw[Zs];decide)
 have big:∀ n:Nat,n<=1000->n<=sizeLine:=fun n h=>Nat.le_of_lt (Qd h)
 walk_at "rd"
 refine Q8 (fun _=>⟨.inl ⟨by decide,by decide⟩,qn _⟩) (fun _=>Q8 (fun _=>⟨.inl ⟨by decide,by decide⟩,qn _⟩) (fun _=>Q8 (fun _=>?_) (fun _=>Q8 (fun _=>?_) (fun _=>?_))))
 ·refine⟨b,_,rfl,by omega,by omega,fun x hx=>?_⟩
  show zBj [V.str x] _ _
  rw[zEo (big _ (by omega))]
  have s1:=Txt.slice_le x none (some (b / 20 % ((x.length:Int)+1)))
  have s2:=Txt.slice_le x (some (b / 20 % ((x.length:Int)+1))) none
  refine⟨_,rfl,by omega,x,rfl,big _ (by omega),j,2,rfl,by decide,by decide,fun y hy=>?_⟩
  have hy2:y.length=2:=hy
  refine⟨_,rfl,_,rfl,big _ (by omega),x,rfl,big _ (by omega),_,rfl,big _ (by rw[zCx];omega),qt _⟩
 ·refine⟨b,_,rfl,by omega,by omega,fun x hx=>⟨.str x,.txt x,rfl,Wm,by rw[Zs];exact Nat.le_refl _,?_⟩⟩
  refine Q8 (fun _=>qt x) (fun _=>Q8 (fun _=>⟨.inl ⟨by decide,by decide⟩,_,rfl,qn _⟩) (fun _=>⟨_,rfl,.inl ⟨by decide,by decide⟩,by decide,fun p hp=>?_⟩))
  exact q _ (.tup [.num _]) _ (QE hp) (ZK QH (by show 1<=1000;decide) (IsKs.one ZG)) (by simp only[Kd.deep,Kd.deepL];decide)
 ·exact⟨⟨by decide,by decide,by decide⟩,.inr ⟨by decide,by decide⟩,_,rfl,by omega,by omega,q⟩
end
section
variable {P:Program} {w:World} {K:W.Frag} {mg:Str->Option Value} {base:Heap} {a:Ad}
theorem zAW (T:Txt K mg a):FnOk P w K mg base CX0 1 a.f_is_number a.d_is_number ZB zGH:=by
 refine T.F_is_number.ok sc_is_number (fun vs H Q E h=>?_) (fun cdv A outer s H vs Q E hr h=>?_)
 ·obtain⟨x,n,s,rfl,_⟩:=h
  rfl
 have nd:=sc_is_number.nd
 obtain⟨x,n,s,rfl,hx,q⟩:=h
 refine⟨_,(QG (QM (YC (QL Qf rfl T.z_isinstance boot_isinstance (QA (pv 0) (QA (Qm (v:=.ty "int") rfl T.z_int boot_int rfl) QD))) (YY (zDm (QL Qf rfl T.z_isinstance boot_isinstance (QA (pv 0) (QA (Qm (v:=.ty "bool") rfl T.z_bool boot_bool rfl) QD)))))))),?_⟩
 rcases hx with ⟨i,rfl,rfl,rfl⟩ | ⟨hx,rfl,rfl⟩
 ·walk_at "rd"
  exact q
 rcases hx with ⟨b,rfl⟩ | rfl | ⟨z,rfl⟩ | ⟨p,xs,rfl,hp⟩ | ⟨p,xs,rfl,hp⟩ | ⟨p,xs,rfl,hp⟩
 ·walk_at "rd"
  exact q
 ·walk_at "rd"
  exact q
 ·walk_at "rd"
  exact q
 ·walk_at "rd"
  rw[Y7 hp]
  exact⟨_,rfl,zHB q⟩
 ·walk_at "rd"
  rw[WU hp]
  exact⟨_,rfl,zHB q⟩
 ·walk_at "rd"
  rw[JO hp]
  exact⟨_,rfl,zHB q⟩
theorem zBg (T:Txt K mg a)(G_is_number:FnOk P w K mg base CX0 1 a.f_is_number a.d_is_number ZB zGH):FnOk P w K mg base CX0 2 a.f_is_size a.d_is_size WJ zHp:=by
 refine T.F_is_size.ok sc_is_size (fun vs H Q E h=>?_) (fun cdv A outer s H vs Q E hr h=>?_)
 ·obtain⟨x,n,s,rfl,_⟩:=h
  rfl
 have nd:=sc_is_size.nd
 obtain⟨x,n,s,rfl,hx,q⟩:=h
 refine⟨_,(QG (QM (YC (QK (G_is_number.mono (by decide)) hr rfl T.m_is_number T.F_is_number.kp T.b_is_number .nil QU (QA (pv 0) QD)) (YC (zER JR JR (YI (v:=.int 8) rfl T.c_LEAST ⟨_,rfl⟩) (pv 0) (YI (v:=.int 4096) rfl T.c_GREATEST ⟨_,rfl⟩)) (YY (Qj Qw (QF zHE (pv 0) (QF WH (pv 0) QB)) QB (QN _))))))),?_⟩
 walk_at "rd"
 refine⟨x,n,s,rfl,hx,?_⟩
 rcases hx with ⟨i,rfl,rfl,rfl⟩ | ⟨hx,rfl,rfl⟩
 ·walk_at "rd"
  refine Q8 (fun c=>?_) (fun c=>?_)
  ·refine Q8 (fun c2=>?_) (fun c2=>?_)
   ·rw[zHw c c2]
    exact q
   ·have e:decide (S8 i)=false:=decide_eq_false (by unfold S8;omega)
    rw[e] at q
    exact q
  ·have e:decide (S8 i)=false:=decide_eq_false (by unfold S8;omega)
   rw[e] at q
   exact q
 ·walk_at "rd"
  exact q
theorem zF9 (T:Txt K mg a):FnOk P w K mg base CX0 1 a.f_room a.d_room zB4 zD2:=by
 refine T.F_room.ok sc_room (fun vs H Q E h=>?_) (fun cdv A outer s H vs Q E hr h=>?_)
 ·obtain⟨i,rfl,_⟩:=h
  rfl
 have nd:=sc_room.nd
 obtain⟨i,rfl,q⟩:=h
 refine⟨_,(QG (QM (QF QV (QF Qh QB (pv 0)) QB))),?_⟩
 walk_at "rd"
 exact⟨.inl ⟨by decide,by decide⟩,q⟩
theorem zDT (T:Txt K mg a):FnOk P w K mg base CX0 1 a.f_is_end a.d_is_end JN zGV:=by
 refine T.F_is_end.ok sc_is_end (fun vs H Q E h=>?_) (fun cdv A outer s H vs Q E hr h=>?_)
 ·obtain⟨v,r,xs,os,x,k,rfl,_⟩:=h
  rfl
 have nd:=sc_is_end.nd
 obtain⟨v,r,xs,os,x,k,rfl,hr1,hos,hk,hv,q⟩:=h
 refine⟨_,(QG (QM (zHc (Qj Qw (pv 0) (YI (v:=.int (-1)) rfl T.c_EMPTY ⟨_,rfl⟩) (QN _)) (YY (YC (Qj zHV (pv 0) QB (QN _)) (YY (Qj (zEI hr.units) (Qp YL (pv 1) (pv 0) (fun _ _=>rfl)) (pv 2) (QN _)))))))),?_⟩
 walk_at "rd"
 refine Q8 (fun z=>?_) (fun z=>Q8 (fun z2=>?_) (fun z2=>?_))
 ·rw[decide_eq_true (show YK os k v from .inl z)] at q
  exact q
 ·obtain⟨k',e1,e2⟩:=hv z2
  obtain⟨y,e3,e4⟩:=hos.get' e1
  have at':atI xs v=some y:=by
   have:=Qn e3
   rwa [Int.toNat_of_nonneg z2] at this
  rw[Qe hr1 at']
  refine⟨k',k,e4,hk,e2,?_⟩
  have e:k'.eqb k=decide (YK os k v):=by
   rw[Kd.eqb_dec]
   refine decide_eq_decide.mpr ⟨fun e=>.inr ⟨z2,by rw[e1,e]⟩,fun h=>?_⟩
   rcases h with h | ⟨_,h⟩
   ·exact absurd h z
   ·rw[e1] at h
    exact Option.some.inj (Option.some.inj h)
  rw[e]
  exact q
 ·have e:¬ YK os k v:=fun h=>by
   rcases h with h | ⟨h,_⟩
   ·exact z h
   ·exact z2 h
  rw[decide_eq_false e] at q
  exact q
theorem zEC (T:Txt K mg a)(G_stamp:FnOk P w K mg base CX0 8 a.f_stamp a.d_stamp Zo (zAK 3))(G_probe:FnOk P w K mg base CX0 2 a.f_probe a.d_probe zAJ zCu)(G_is_end:FnOk P w K mg base CX0 1 a.f_is_end a.d_is_end JN zGV):FnOk P w K mg base CX0 9 a.f_paper a.d_paper Wp zAd:=by
 refine T.F_paper.ok sc_paper (fun vs H Q E h=>?_) (fun cdv A outer s H vs Q E hr h=>?_)
 ·obtain⟨p,r,cs,xs,os,x,k,c,rfl,_⟩:=h
  rfl
 have nd:=sc_paper.nd
 obtain⟨p,r,cs,xs,os,x,k,c,rfl,hp,hrw,hos,hk,hd,l0,l1,hg,hc,q⟩:=h
 refine⟨_,(QC (QP (i:=3) nd rfl (Or.inl rfl) (QK (G_stamp.mono (by decide)) hr rfl T.m_stamp T.F_stamp.kp T.b_stamp .nil QU (QA (pv 2) QD)))
 (QC (QP (i:=4) nd rfl (Or.inl rfl) (Za QD))
 (QC (Q3 PassesOwn.never rfl (YG rfl T.z_range (QA (QL Qb rfl T.z_len PySem.boot_len (QA (pv 0) QD)) QD)) (Qg (i:=5) nd rfl (Or.inl rfl)) (QC (QP (i:=6) nd rfl (Or.inl rfl) (QK (G_probe.mono (by decide)) hr rfl T.m_probe T.F_probe.kp T.b_probe .nil QU (QA (pv 3) (QA (QL Qb rfl T.z_len PySem.boot_len (QA (pv 0) QD)) (QA (pv 5) QD)))))
 (QC (Wk (ZW PySem.F.plainAttrs_list PySem.F.slot_list_append PySem.F.type_list_append Wf (pv 4) (QA (zAI (QA (pv 6) (QA (Qp YL (pv 0) (pv 6) (fun _ _=>rfl)) QD))) QD)))
 (QG (QX (Qy (QK (G_is_end.mono (by decide)) hr rfl T.m_is_end T.F_is_end.kp T.b_is_end .nil QU (QA (Qp YL (pv 0) (pv 6) (fun _ _=>rfl)) (QA (pv 1) (QA (pv 2) QD))))) (QG zD8) QT)))))
 (QG (QM (pv 4)))))),?_⟩
 have rg:=Kd.st_range k
 obtain⟨c1,c2,c3⟩:=hc
 walk_at "rd"
 refine⟨x,k,rfl,hk,hd,?_⟩
 refine⟨by decide,fun b hb=>?_⟩
 have g1:=QE (o:=HO.lst []) hb
 show zBj [V.ref p] _ _
 rw[Qi (g1 _ _ hp),List.length_map]
 refine⟨_,rfl,by omega,by omega,?_⟩
 rw[Int.toNat_natCast]
 refine YV (fun i σ H'=>i<=c/\Same H H'/\(∃ ys,H' b=some (.lst ys)/\IsKos H' ((List.range i).map fun i=>some (.tup [.num (sl k.st cs.length i:Nat),.num (cAt cs k.st i)])) ys)/\∃ u w,σ=[some (.ref p),some (.ref r),some x,some (.int k.st),some (.ref b),u,w]) ⟨Nat.zero_le _,g1,⟨[],QH,IsKos.nil⟩,none,none,rfl⟩ (fun i σ H' hi h=>?_) (fun σ H' h=>?_)
 ·obtain⟨hic,g,⟨ys,hy,hoy⟩,u,w,rfl⟩:=h
  walk_at "rd"
  rw[Qi (g _ _ hp),List.length_map]
  refine⟨_,_,_,rfl,rg.1,by omega,by omega,by omega,?_⟩
  rw[Int.zero_add,Int.toNat_natCast,← ZY l0]
  have at':atI (cs.map V.int) ((sl k.st cs.length i:Nat):Int)=some (V.int (cAt cs k.st i)):=Qn (by rw[List.getElem?_map,Zt l0];rfl)
  refine⟨.inl ⟨rfl,_,SqL.of hy⟩,?_⟩
  rw[Qe (g _ _ hp) at']
  refine⟨by decide,fun t ht=>?_⟩
  have gt:=QE (o:=HO.tup [V.int (sl k.st cs.length i:Nat),V.int (cAt cs k.st i)]) ht
  rw[W6 (gt _ _ hy)]
  have hyl:=hoy.len
  rw[List.length_map,List.length_range] at hyl
  refine⟨by rw[hyl];exact J3 (by omega),?_⟩
  have tb:=Zf (o:=HO.lst (ys++[V.ref t])) (gt _ _ hy)
  have g2:=(g.trans gt).upd (o:=HO.lst (ys++[V.ref t])) hb
  rw[Qe (g2 _ _ hp) at']
  have hoy2:IsKos (upd (upd H' t (HO.tup [V.int (sl k.st cs.length i:Nat),V.int (cAt cs k.st i)])) b (HO.lst (ys++[V.ref t]))) ((List.range (i+1)).map fun i=>some (.tup [.num (sl k.st cs.length i:Nat),.num (cAt cs k.st i)])) (ys++[V.ref t]):=by
   rw[List.range_succ,List.map_append]
   refine (hoy.same (gt.tups.trans tb)).snoc ?_
   exact ZK (tb _ _ QH) (by show 2<=1000;decide) (IsKs.two ZG ZG)
  refine⟨_,r,xs,os,x,k,rfl,g2 _ _ hrw,hos.same g2.tups,hk.same g2.tups,fun h=>hg _ (zFQ l0) h,_,rfl,?_⟩
  by_cases z:YK os k (cAt cs k.st i)
  ·have e:i=c:=by
    rcases Nat.lt_or_ge i c with y | y
    ·exact absurd z (c3 i y)
    ·omega
   rw[if_pos (decide_eq_true z)]
   show zDs (Q1 4) _ _ _
   walk_at "rd"
   rw[e] at hoy2
   rw[e]
   exact q b _ _ (e ▸ g2) hb QH hoy2
  ·rw[if_neg (by simp[z])]
   refine⟨?_,g2,_,QH,hoy2⟩
   rcases Nat.lt_or_ge i c with y | y
   ·omega
   ·have e:i=c:=by omega
    rw[e] at z
    exact absurd c2 z
 ·obtain⟨hic,g,⟨ys,hy,hoy⟩,u,w,rfl⟩:=h
  omega
theorem zBH (T:Txt K mg a)(G_paper:FnOk P w K mg base CX0 9 a.f_paper a.d_paper Wp zAd):FnOk P w K mg base CX0 10 a.f_place_of a.d_place_of Yw zAh:=by
 refine T.F_place_of.ok sc_place_of (fun vs H Q E h=>?_) (fun cdv A outer s H vs Q E hr h=>?_)
 ·obtain⟨p,r,cs,xs,os,x,k,c,rfl,_⟩:=h
  rfl
 have nd:=sc_place_of.nd
 obtain⟨p,r,cs,xs,os,x,k,c,rfl,hp,hrw,hos,hk,hd,l0,l1,hg,hc,q⟩:=h
 refine⟨_,(QC (QP (i:=3) nd rfl (Or.inl rfl) (QK (G_paper.mono (by decide)) hr rfl T.m_paper T.F_paper.kp T.b_paper .nil QU (QA (pv 0) (QA (pv 1) (QA (pv 2) QD)))))
 (QC (QP (i:=4) nd rfl (Or.inl rfl) (Qp YL (Qp YL (pv 3) (ZV Yc QB) (fun _ _=>rfl)) QB (fun _ _=>rfl)))
 (QG (QM (zEP (QS Qw (pv 4) (YI (v:=.int (-1)) rfl T.c_EMPTY ⟨_,rfl⟩) (QN _)) Q7 (pv 4)))))),?_⟩
 walk_at "rd"
 refine⟨p,r,cs,xs,os,x,k,c,rfl,hp,hrw,hos,hk,hd,l0,l1,hg,hc,fun f ys H' g hf0 hf hoy=>?_⟩
 have hyl:ys.length=c+1:=by rw[hoy.len,Wd]
 obtain⟨y,ey⟩:∃ y,ys[c]? = some y:=⟨ys[c],List.getElem?_eq_getElem (by omega)⟩
 obtain⟨t,rfl,ht⟩:=zEE hoy ey
 have qq:=q H' g
 show ixC (V.ref f) (V.int (-1)) _ _
 rw[Qe hf ((zCY hyl).trans ey),zCr (v:=V.int (cAt cs k.st c)) ht rfl,ZF]
 refine⟨_,rfl,?_⟩
 by_cases z:cAt cs k.st c = -1
 ·rw[if_pos (decide_eq_true z)]
  rw[if_pos z] at qq
  exact qq
 ·rw[if_neg (by simp[z])]
  rw[if_neg z] at qq
  exact qq
end
section
variable {P:Program} {w:World} {K:W.Frag} {mg:Str->Option Value} {base:Heap} {a:Ad}
theorem JV (T:Txt K mg a)(G_is_size:FnOk P w K mg base CX0 2 a.f_is_size a.d_is_size WJ zHp)(G_room:FnOk P w K mg base CX0 1 a.f_room a.d_room zB4 zD2):FnOk P w K mg base CX0 3 a.f_numbers_fit a.d_numbers_fit Yd zGF:=by
 refine T.F_numbers_fit.ok sc_numbers_fit (fun vs H Q E h=>?_) (fun cdv A outer s H vs Q E hr h=>?_)
 ·obtain⟨p,r,cs,xs,os,rfl,_⟩:=h
  rfl
 have nd:=sc_numbers_fit.nd
 obtain⟨p,r,cs,xs,os,rfl,hp,hrw,hos,hsh,q⟩:=h
 refine⟨_,(QC (QP (i:=2) nd rfl (Or.inl rfl) (QL Qb rfl T.z_len PySem.boot_len (QA (pv 0) QD)))
 (QG (QM (YC (QK (G_is_size.mono (by decide)) hr rfl T.m_is_size T.F_is_size.kp T.b_is_size .nil QU (QA (pv 2) QD)) (YC (Qj JR (QL Qb rfl T.z_len PySem.boot_len (QA (pv 1) QD)) (QK (G_room.mono (by decide)) hr rfl T.m_room T.F_room.kp T.b_room .nil QU (QA (pv 2) QD)) (QN _)) (YY (Qj JR (ZW PySem.F.plainAttrs_list PySem.F.slot_list_count PySem.F.type_list_count (YP hr.units) (pv 0) (QA (YI (v:=.int (-2)) rfl T.c_GONE ⟨_,rfl⟩) QD)) (ZW PySem.F.plainAttrs_list PySem.F.slot_list_count PySem.F.type_list_count (YP hr.units) (pv 1) (QA Q7 QD)) (QN _)))))))),?_⟩
 walk_at "rd"
 rw[Qi hp,List.length_map]
 refine⟨.int cs.length,true,decide (S8 (cs.length:Int)),rfl,.inl ⟨_,rfl,rfl,rfl⟩,_,rfl,?_⟩
 by_cases h8:S8 (cs.length:Int)
 ·rw[if_pos (decide_eq_true h8),Qi hrw,hos.len]
  refine⟨_,rfl,_,rfl,_,rfl,?_⟩
  by_cases hl:(os.length:Int)<=2*(cs.length:Int) / 3
  ·rw[if_pos hl]
   refine⟨.inl ⟨rfl,_,SqL.of hp⟩,p,_,cz cs,some (.num (-2)),_,rfl,rfl,hp,Yl _,Zq,Zn,.inl ⟨rfl,_,SqL.of hrw⟩,r,xs,os,none,_,rfl,rfl,hrw,hos,rfl,fun o ho=>shal_mono (hsh o ho),_,rfl,_,rfl,?_⟩
   exact q _ (by rw[decide_eq_true_eq];exact⟨fun h=>⟨h8,hl,h⟩,fun h=>h.2.2⟩)
  ·rw[if_neg hl]
   exact q false ⟨fun h=>(nomatch h),fun h=>absurd h.2.1 hl⟩
 ·rw[if_neg (by simp[h8])]
  exact q false ⟨fun h=>(nomatch h),fun h=>absurd h.1 h8⟩
theorem WY (T:Txt K mg a):FnOk P w K mg base CX0 1 a.f_no_two_alike a.d_no_two_alike YU zGI:=by
 refine T.F_no_two_alike.ok sc_no_two_alike (fun vs H Q E h=>?_) (fun cdv A outer s H vs Q E hr h=>?_)
 ·obtain⟨r,xs,os,rfl,_⟩:=h
  rfl
 have nd:=sc_no_two_alike.nd
 obtain⟨r,xs,os,rfl,hrw,hos,hsh,hl,q⟩:=h
 refine⟨_,(QC (JL (i:=1) nd rfl (Or.inl rfl) "key" [] [] rfl ⟨rfl,rfl,by decide +kernel,by decide +kernel,rfl,by decide +kernel,by decide +kernel,rfl,by decide +kernel⟩ rfl (YM (pv 0)) (fun C s1 H1 fp=>(QS ZE (pv 0) Q7 (QN _))) (fun C s1 H1 fp=>(pv 0)))
 (QG (QM (Qj Qw (QL zCU rfl T.z_len PySem.boot_len (QA (Qr (zCR rfl (Nat.lt_of_le_of_lt (Nat.add_le_add_left (by decide) _) hr.units)) rfl T.z_set boot_set (QA (pv 1) QD)) QD)) (QL Qb rfl T.z_len PySem.boot_len (QA (pv 1) QD)) (QN _))))),?_⟩
 walk_at "rd"
 have xl:=hos.len
 refine⟨⟨_,SqL.of hrw⟩,YS (xs:=xs) (fun i ys H'=>H'=H/\IsKs H (Qo (os.take i)) ys) ⟨rfl,by show IsKs H [] [];unfold IsKs;rfl⟩ (fun _ _ _ _ h=>by rw[h.1];exact SqL.of hrw) (fun i ys H' hi h=>?_) (fun i x ys H' e h=>?_) (fun ys H' h=>?_)⟩
 ·have h1:=IsKs.length h.2
  have h2:=JH (os:=os.take i)
  rw[List.length_take] at h2
  exact Qd (by omega)
 ·obtain⟨rfl,hk⟩:=h
  obtain⟨o,e1,e2⟩:=hos.get e
  walk_at "rd"
  cases o with
  | none =>
   rw[if_neg (fun z=>z e2),zBA e1]
   exact hk
  | some k =>
   rw[if_pos (of_decide_eq_false e2.non),zBY e1]
   exact IsKs.snoc hk e2
 ·obtain⟨rfl,hk⟩:=h
  rw[xl,List.take_length] at hk
  intro pk hpk
  have kl:=IsKs.length hk
  have kl2:=JH (os:=os)
  have g1:=QE (o:=HO.lst ys) hpk
  refine⟨ys,SqL.of QH,Qo os,hk.same g1.tups,fun k hk=>?_,by omega,fun p1 n hp1 hn1 hn2=>⟨n,QH,by omega,?_⟩⟩
  ·have:k.deep<=3:=hsh _ (keysOf_mem.mp hk)
   omega
  ·have g2:=QE (o:=sko p1 n) hp1
   rw[Qi (g2 _ _ QH),ZF,kl]
   refine q _ _ (g1.trans g2) ?_
   rw[decide_eq_true_eq,← hn2]
   omega
theorem Zw (T:Txt K mg a):FnOk P w K mg base CX0 1 a.f_places_of_keys a.d_places_of_keys Qu zBc:=by
 refine T.F_places_of_keys.ok sc_places_of_keys (fun vs H Q E h=>?_) (fun cdv A outer s H vs Q E hr h=>?_)
 ·obtain⟨r,xs,os,rfl,_⟩:=h
  rfl
 have nd:=sc_places_of_keys.nd
 obtain⟨r,xs,os,rfl,hrw,hos,hl,q⟩:=h
 refine⟨_,(QG (QM (zDD "place" "key" [] [] rfl ⟨rfl,rfl,by decide +kernel,by decide +kernel,by decide +kernel,by decide +kernel,rfl,by decide +kernel⟩ rfl rfl rfl (Wj rfl rfl T.z_enumerate (pv 0)) (fun C s1 H1 fp=>(QS ZE (pv 1) Q7 (QN _))) (fun C s1 H1 fp=>(pv 0))))),?_⟩
 walk_at "rd"
 have xl:=hos.len
 refine⟨⟨_,SqL.of hrw⟩,JX (xs:=xs) (Nat.le_of_lt (Qd (by omega))) (fun i zs H'=>Same H H'/\zs=(plc os i).map V.int) ⟨Same.refl _,rfl⟩ (fun i zs H' hi h=>⟨SqL.of (h.1 _ _ hrw),by rw[h.2,List.length_map];exact YX⟩) (fun i x p zs H' e h hp=>?_) (fun zs H' h=>?_)⟩
 ·obtain⟨g,rfl⟩:=h
  obtain⟨o,e1,e2⟩:=hos.get e
  have gt:=QE (o:=HO.tup [V.int (i:Nat),x]) hp
  walk_at "rd"
  rw[Zy e1]
  cases o with
  | none =>
   rw[if_neg (fun z=>z e2)]
   exact⟨g.trans gt,rfl⟩
  | some k =>
   rw[if_pos (of_decide_eq_false e2.non)]
   exact⟨g.trans gt,by rw[if_neg (by simp),List.map_append];rfl⟩
 ·obtain⟨g,rfl⟩:=h
  rw[xl]
  intro p hp
  exact q p _ (g.trans (QE hp)) (g.free hp) QH
theorem ZP (T:Txt K mg a)(G_places_of_keys:FnOk P w K mg base CX0 1 a.f_places_of_keys a.d_places_of_keys Qu zBc):FnOk P w K mg base CX0 2 a.f_each_in_one_cell a.d_each_in_one_cell Q2 zE9:=by
 refine T.F_each_in_one_cell.ok sc_each_in_one_cell (fun vs H Q E h=>?_) (fun cdv A outer s H vs Q E hr h=>?_)
 ·obtain⟨p,r,cs,xs,os,rfl,_⟩:=h
  rfl
 have nd:=sc_each_in_one_cell.nd
 obtain⟨p,r,cs,xs,os,rfl,hp,hrw,hos,hl,cl,h64,o64,q⟩:=h
 refine⟨_,(QC (JL (i:=2) nd rfl (Or.inl rfl) "cell" [] [] rfl ⟨rfl,rfl,by decide +kernel,by decide +kernel,rfl,by decide +kernel,by decide +kernel,rfl,by decide +kernel⟩ rfl (YM (pv 0)) (fun C s1 H1 fp=>(PW.pt (zAo (QS JB (pv 0) (YI (v:=.int (-1)) rfl T.c_EMPTY ⟨_,rfl⟩) (QN _)) (Wh (QS JB (pv 0) (YI (v:=.int (-2)) rfl T.c_GONE ⟨_,rfl⟩) (QN _)))))) (fun C s1 H1 fp=>(pv 0)))
 (QG (QM (Qj (zFS (Nat.lt_of_le_of_lt (Nat.le_add_right _ _) hr.units)) (QL (zBv rfl) rfl T.z_sorted boot_sorted (QA (pv 2) QD)) (QK (G_places_of_keys.mono (by decide)) hr rfl T.m_places_of_keys T.F_places_of_keys.kp T.b_places_of_keys .nil QU (QA (pv 1) QD)) (QN _))))),?_⟩
 walk_at "rd"
 refine⟨⟨_,SqL.of hp⟩,YS (xs:=cs.map V.int) (fun i ys H'=>H'=H/\ys=(Qx (cs.take i)).map V.int) ⟨rfl,rfl⟩ (fun _ _ _ _ h=>by rw[h.1];exact SqL.of hp) (fun i ys H' hi h=>?_) (fun i x ys H' e h=>?_) (fun ys H' h=>?_)⟩
 ·have h2:=Jw (cs:=cs.take i)
  rw[List.length_take] at h2
  rw[h.2,List.length_map]
  exact Qd (by omega)
 ·obtain⟨rfl,rfl⟩:=h
  rw[List.getElem?_map] at e
  cases ev:cs[i]? with
  | none=>rw[ev] at e;cases e
  | some v =>
   rw[ev] at e
   cases e
   rw[zB7 ev]
   walk_at "rd"
   by_cases z:v = -1
   ·rw[if_neg (fun h=>h z),if_neg (fun h=>h.1 z)]
   ·rw[if_pos z]
    by_cases z2:v = -2
    ·rw[if_neg (fun h=>h z2),if_neg (fun h=>h.2 z2)]
    ·rw[if_pos z2,if_pos ⟨z,z2⟩,List.map_append]
     rfl
 ·obtain⟨rfl,rfl⟩:=h
  rw[List.length_map,List.take_length]
  intro ph hph
  have g1:=QE (o:=HO.lst ((Qx cs).map V.int)) hph
  refine⟨Qx cs,SqL.of QH,h64,fun p1 ns hp1 ln pms=>?_⟩
  have g2:=QE (o:=srt p1 ns) hp1
  have G2:=g1.trans g2
  refine⟨r,xs,os,rfl,G2 _ _ hrw,hos.same G2.tups,hl,fun pq H2 g3 hpq hpl=>?_⟩
  have pl:=YX (os:=os) (i:=os.length)
  refine⟨p1,pq,ns,plc os os.length,rfl,rfl,g3 _ _ QH,hpl,by omega,q _ _ (G2.trans g3) ?_⟩
  rw[decide_eq_true_eq]
  by_cases z:(Qx cs).length < 64
  ·obtain⟨pm,srtd⟩:=pms z
   exact⟨fun h=>h ▸ pm.symm,fun h=>zFt (pm.trans h) srtd plc_rise⟩
  ·refine⟨fun h=>?_,fun h=>?_⟩
   ·rw[h] at ln
    omega
   ·have:=h.length_eq
    omega
theorem Jl (T:Txt K mg a)(G_places_of_keys:FnOk P w K mg base CX0 1 a.f_places_of_keys a.d_places_of_keys Qu zBc)(G_place_of:FnOk P w K mg base CX0 10 a.f_place_of a.d_place_of Yw zAh):FnOk P w K mg base CX0 11 a.f_each_found a.d_each_found Yr zD0:=by
 refine T.F_each_found.ok sc_each_found (fun vs H Q E h=>?_) (fun cdv A outer s H vs Q E hr h=>?_)
 ·obtain⟨p,r,cs,xs,os,rfl,_⟩:=h
  rfl
 have nd:=sc_each_found.nd
 obtain⟨p,r,cs,xs,os,rfl,hp,hrw,hos,hsh,hl,h8,hpm,q⟩:=h
 refine⟨_,(QG (QM (QL (JU rfl) rfl T.z_all boot_all (QA (zAj "place" ["cells", "row"] [0,1] rfl ⟨rfl,rfl,by decide +kernel,by decide +kernel,rfl,by decide +kernel,by decide +kernel,rfl,by decide +kernel⟩ rfl (YM (QK (G_places_of_keys.mono (by decide)) hr rfl T.m_places_of_keys T.F_places_of_keys.kp T.b_places_of_keys .nil QU (QA (pv 1) QD))) (fun C s1 H1 fp=>(Qj (zFy hr.units) (QK (G_place_of.mono (by decide)) hr rfl T.m_place_of T.F_place_of.kp T.b_place_of .nil QU (QA (pv 1) (QA (pv 2) (QA (Qp YL (pv 2) (pv 0) (fun _ _=>rfl)) QD)))) (pv 0) (QN _)))) QD)))),?_⟩
 walk_at "rd"
 have r8:=h8.range
 have xl:=hos.len
 have n0:0 < cs.length:=by omega
 have hg:Js cs os:=fun v hv v0=>by
  obtain⟨p,k,e1,e2,e3⟩:=plc_iff.mp (hpm.mem_iff.mp (heldL_mem.mpr ⟨hv,by omega,by omega⟩))
  subst e1
  exact⟨k,by rw[Int.toNat_natCast];exact e3,shal_mono (hsh _ (List.mem_of_getElem? e3))⟩
 refine⟨r,xs,os,rfl,hrw,hos,hl,fun pp H1 g1 hpp hpl=>?_⟩
 refine⟨pp,rfl,⟨_,SqL.of hpl⟩,YS (xs:=(plc os os.length).map V.int) (fun i ys H'=>Same H1 H'/\∃ bs:List Bool,ys=bs.map V.bl/\bs.length=i/\zBk cs os bs) ⟨Same.refl _,[],rfl,rfl,fun j b h=>absurd h (by rw[List.getElem?_nil];exact fun z=>nomatch z)⟩ (fun _ _ _ _ h=>SqL.of (h.1 _ _ hpl)) (fun i ys H' hi h=>?_) (fun i x ys H' e h=>?_) (fun ys H' h=>?_)⟩
 ·obtain⟨_,bs,rfl,hb,_⟩:=h
  rw[List.length_map] at hi ⊢
  have:=YX (os:=os) (i:=os.length)
  exact Qd (by omega)
 ·obtain⟨g,bs,rfl,hb,hh⟩:=h
  rw[List.getElem?_map] at e
  cases ev:(plc os os.length)[i]? with
  | none=>rw[ev] at e;cases e
  | some v0 =>
   rw[ev] at e
   cases e
   obtain⟨v,k,rfl,hv,hk⟩:=plc_iff.mp (List.mem_of_getElem? ev)
   obtain⟨y,ey,hy⟩:=hos.get' hk
   have G:=g1.trans g
   have hy':IsK H' k y:=IsK.same G.tups hy
   have vin:(v:Int)∈cs:=(heldL_mem.mp (hpm.mem_iff.mpr (plc_iff.mpr ⟨v,k,rfl,hv,hk⟩))).1
   obtain⟨c0,c1,c2⟩:=Z2 (m:=k.st) h8.p2 vin
   obtain⟨c,hc⟩:=Yt (P:=fun c=>YK os k (cAt cs k.st c)) ⟨c0,c1,.inr (by rw[c2];exact⟨by omega,by rw[Int.toNat_natCast];exact hk⟩)⟩
   walk_at "rd"
   rw[Qe (G _ _ hrw) (Qn ey)]
   refine⟨p,r,cs,xs,os,y,k,c,rfl,G _ _ hp,G _ _ hrw,hos.same G.tups,hy',hsh _ (List.mem_of_getElem? hk),n0,by omega,hg,hc,fun H2 g2=>?_⟩
   have fin:∀ o z,IsKo H2 o z->YJ 20 o->(o=some (.num v) ↔ Fnd cs os k v)->zGU z (V.int (v:Int)) H2 fun y H4=>Same H1 H4/\∃ bs':List Bool,bs.map V.bl++[y]=bs'.map V.bl/\bs'.length=i+1/\zBk cs os bs':=fun o z ho hs hf=>by
    refine⟨o,.num v,ho,ZG,hs,g.trans g2,bs++[decide (o=some (.num v))],by rw[List.map_append];rfl,by rw[List.length_append,hb];rfl,fun j b hj=>?_⟩
    by_cases jl:j < bs.length
    ·rw[List.getElem?_append_left jl] at hj
     exact hh j b hj
    ·have je:j=bs.length:=by
      have:=(List.getElem?_eq_some_iff.mp hj).1
      rw[List.length_append] at this
      simp at this
      omega
     subst je
     rw[List.getElem?_append_right (Nat.le_refl _)] at hj
     simp at hj
     refine⟨v,k,by rw[hb];exact ev,hk,?_⟩
     rw[← hj,decide_eq_true_eq]
     exact hf
   have fnd:Fnd cs os k v ↔ cAt cs k.st c=(v:Int):=⟨fun ⟨d,hd,e⟩=>by rw[hc.uniq hd];exact e,fun e=>⟨c,hc,e⟩⟩
   by_cases z:cAt cs k.st c = -1
   ·rw[if_pos z]
    refine fin none _ rfl True.intro ?_
    rw[fnd]
    exact⟨fun h=>(nomatch h),fun h=>by omega⟩
   ·rw[if_neg z]
    refine fin (some (.num (cAt cs k.st c))) _ Zq (by show (Kd.num (cAt cs k.st c)).deep<=20;rw[JK];decide) ?_
    rw[fnd]
    exact⟨fun h=>by injection h with h;injection h,fun h=>by rw[h]⟩
 ·obtain⟨g,bs,rfl,hb,hh⟩:=h
  rw[List.length_map] at hb
  intro pa hpa
  have ga:=QE (o:=HO.lst (bs.map V.bl)) hpa
  refine⟨pa,bs,rfl,SqL.of QH,q _ _ (g1.trans (g.trans ga)) ?_⟩
  rw[List.all_eq_true]
  constructor
  ·intro h pq k hk
   have hv:=(List.getElem?_eq_some_iff.mp hk).1
   obtain⟨j,hj⟩:=List.getElem?_of_mem (plc_iff.mpr ⟨pq,k,rfl,hv,hk⟩)
   have jl:j < bs.length:=by rw[hb];exact (List.getElem?_eq_some_iff.mp hj).1
   obtain⟨v,k',e1,e2,e3⟩:=hh j bs[j] (List.getElem?_eq_getElem jl)
   rw[hj] at e1
   have ev:pq=v:=by have:=Option.some.inj e1;omega
   subst ev
   rw[hk] at e2
   cases e2
   exact e3.mp (h _ (List.getElem_mem jl))
  ·intro h b hbm
   obtain⟨j,hj⟩:=List.getElem?_of_mem hbm
   obtain⟨v,k',e1,e2,e3⟩:=hh j b hj
   exact e3.mpr (h v k' e2)
theorem zBe (T:Txt K mg a)(G_numbers_fit:FnOk P w K mg base CX0 3 a.f_numbers_fit a.d_numbers_fit Yd zGF)(G_no_two_alike:FnOk P w K mg base CX0 1 a.f_no_two_alike a.d_no_two_alike YU zGI)(G_each_in_one_cell:FnOk P w K mg base CX0 2 a.f_each_in_one_cell a.d_each_in_one_cell Q2 zE9)(G_each_found:FnOk P w K mg base CX0 11 a.f_each_found a.d_each_found Yr zD0):FnOk P w K mg base CX0 12 a.f_in_form a.d_in_form WC zB6:=by
 refine T.F_in_form.ok sc_in_form (fun vs H Q E h=>?_) (fun cdv A outer s H vs Q E hr h=>?_)
 ·obtain⟨p,r,cs,xs,os,rfl,_⟩:=h
  rfl
 have nd:=sc_in_form.nd
 obtain⟨p,r,cs,xs,os,rfl,hp,hrw,hos,hsh,cl,h64,q⟩:=h
 refine⟨_,(QG (QM (YC (QK (G_numbers_fit.mono (by decide)) hr rfl T.m_numbers_fit T.F_numbers_fit.kp T.b_numbers_fit .nil QU (QA (pv 0) (QA (pv 1) QD))) (YC (QK (G_no_two_alike.mono (by decide)) hr rfl T.m_no_two_alike T.F_no_two_alike.kp T.b_no_two_alike .nil QU (QA (pv 1) QD)) (YC (QK (G_each_in_one_cell.mono (by decide)) hr rfl T.m_each_in_one_cell T.F_each_in_one_cell.kp T.b_each_in_one_cell .nil QU (QA (pv 0) (QA (pv 1) QD))) (YY (QK (G_each_found.mono (by decide)) hr rfl T.m_each_found T.F_each_found.kp T.b_each_found .nil QU (QA (pv 0) (QA (pv 1) QD))))))))),?_⟩
 walk_at "rd"
 refine⟨p,r,cs,xs,os,rfl,hp,hrw,hos,hsh,fun b hb=>⟨b,rfl,?_⟩⟩
 cases b with
 | false =>
  rw[if_neg (by decide)]
  exact q H false (Same.refl _) ⟨fun h=>(nomatch h),fun h=>hb.mpr h.1⟩
 | true =>
  rw[if_pos rfl]
  have ft:=hb.mp rfl
  have ol:os.length<=76:=by have:=ft.2.1;omega
  refine⟨r,xs,os,rfl,hrw,hos,hsh,ol,fun H1 b1 g1 hb1=>⟨b1,rfl,?_⟩⟩
  cases b1 with
  | false =>
   rw[if_neg (by decide)]
   exact q _ false g1 ⟨fun h=>(nomatch h),fun h=>hb1.mpr h.2.1⟩
  | true =>
   rw[if_pos rfl]
   refine⟨p,r,cs,xs,os,rfl,g1 _ _ hp,g1 _ _ hrw,hos.same g1.tups,by omega,by omega,h64,by have:=ft.2.1;omega,fun H2 b2 g2 hb2=>⟨b2,rfl,?_⟩⟩
   have G2:=g1.trans g2
   cases b2 with
   | false =>
    rw[if_neg (by decide)]
    exact q _ false G2 ⟨fun h=>(nomatch h),fun h=>hb2.mpr h.2.2.1⟩
   | true =>
    rw[if_pos rfl]
    refine⟨p,r,cs,xs,os,rfl,G2 _ _ hp,G2 _ _ hrw,hos.same G2.tups,hsh,by omega,ft.1,hb2.mp rfl,fun H3 b3 g3 hb3=>?_⟩
    exact q _ b3 (G2.trans g3) ⟨fun h=>⟨ft,hb1.mp rfl,hb2.mp rfl,hb3.mp h⟩,fun h=>hb3.mpr h.2.2.2⟩
end
section
variable {P:Program} {w:World} {K:W.Frag} {mg:Str->Option Value} {base:Heap} {a:Ad}
theorem Wx (T:Txt K mg a)(G_Lstamp:FnOk P w K mg base CX0 4 a.f_Lstamp a.d_Lstamp Yk (zAK 3))(G_Lstep:FnOk P w K mg base CX0 1 a.f_Lstep a.d_Lstep zAZ zCp):FnOk P w K mg base CX0 5 a.f_Lfirst_bare a.d_Lfirst_bare Yf zEO:=by
 refine T.F_Lfirst_bare.ok sc_Lfirst_bare (fun vs H Q E h=>?_) (fun cdv A outer s H vs Q E hr h=>?_)
 ·obtain⟨p,cs,x,k,c,rfl,_⟩:=h
  rfl
 have nd:=sc_Lfirst_bare.nd
 obtain⟨p,cs,x,k,c,rfl,hp,h2,hk,hd,hc,q⟩:=h
 refine⟨_,(QC (QP (i:=2) nd rfl (Or.inl rfl) (QK (G_Lstamp.mono (by decide)) hr rfl T.m_Lstamp T.F_Lstamp.kp T.b_Lstamp .nil QU (QA (pv 1) QD)))
 (QC (QP (i:=3) nd rfl (Or.inl rfl) (QF QR (pv 2) (QL Qb rfl T.z_len PySem.boot_len (QA (pv 0) QD))))
 (QC (zEb PassesOwn.never (QS JB (Qp YL (pv 0) (pv 3) (fun _ _=>rfl)) (ZV Yc QB) (QN _)) (QG (QP (i:=3) nd rfl (Or.inl rfl) (QF QR (QF QZ (pv 3) (QK (G_Lstep.mono (by decide)) hr rfl T.m_Lstep T.F_Lstep.kp T.b_Lstep .nil QU (QA (pv 2) QD))) (QL Qb rfl T.z_len PySem.boot_len (QA (pv 0) QD))))))
 (QG (QM (pv 3)))))),?_⟩
 obtain⟨c1,c2,c3⟩:=hc
 have n0:0 < cs.length:=by omega
 have at':∀ i,atI (cs.map V.int) ((sl k.st cs.length i:Nat):Int)=some (V.int (cAt cs k.st i)):=fun i=>Qn (by rw[List.getElem?_map,Zt n0];rfl)
 try walk_at "rd"
 refine⟨x,k,rfl,hk,hd,?_⟩
 show zBj [V.ref p] _ _
 rw[Qi hp,List.length_map]
 try walk_at "rd"
 refine⟨by omega,fun m σ H'=>∃ i,m=c - i/\i<=c/\H'=H/\σ=[some (.ref p),some x,some (.int k.st),some (.int (sl k.st cs.length i:Nat))],⟨_,0,rfl,Nat.zero_le _,rfl,by rw[ZY n0,zFl]⟩,?_⟩
 rintro m σ H' ⟨i,em,hi,eH,eσ⟩
 subst em eH eσ
 try walk_at "rd"
 rw[Qe hp (at' i)]
 try walk_at "rd"
 by_cases z:cAt cs k.st i = -1
 ·have ei:i=c:=by
   rcases Nat.lt_or_ge i c with y | y
   ·exact absurd z (c3 i y)
   ·omega
  rw[if_neg (fun h=>h z),ei]
  exact q
 ·rw[if_pos z]
  have hne:i ≠ c:=fun e=>z (by rw[e];exact c2)
  refine⟨fun σ' H2=>H2=H'/\σ'=[some (.ref p),some x,some (.int k.st),some (.int (sl k.st cs.length (i+1):Nat))],fun σ' H2 h=>⟨c - (i+1),by omega,i+1,rfl,by omega,h.1,h.2⟩,?_⟩
  refine⟨_,rfl,?_⟩
  try walk_at "rd"
  show zBj [V.ref p] _ _
  rw[Qi hp,List.length_map]
  try walk_at "rd"
  rw[zGA n0]
  exact⟨by omega,rfl⟩
theorem zDL (T:Txt K mg a):FnOk P w K mg base CX0 1 a.f_Lwhole a.d_Lwhole JD zHq:=by
 refine T.F_Lwhole.ok sc_Lwhole (fun vs H Q E h=>?_) (fun cdv A outer s H vs Q E hr h=>?_)
 ·obtain⟨x,b,rfl,_⟩:=h
  rfl
 have nd:=sc_Lwhole.nd
 obtain⟨x,b,rfl,hx,q⟩:=h
 refine⟨_,(QG (QM (YC (QL Qf rfl T.z_isinstance boot_isinstance (QA (pv 0) (QA (Qm (v:=.ty "int") rfl T.z_int boot_int rfl) QD))) (YY (zDm (QL Qf rfl T.z_isinstance boot_isinstance (QA (pv 0) (QA (Qm (v:=.ty "bool") rfl T.z_bool boot_bool rfl) QD)))))))),?_⟩
 rcases hx with ⟨i,rfl,rfl⟩ | ⟨rfl,rfl⟩
 ·walk_at "rd"
  exact q
 ·walk_at "rd"
  exact q
theorem JZ (T:Txt K mg a):FnOk P w K mg base CX0 1 a.f_Leach_once a.d_Leach_once Ys zAT:=by
 refine T.F_Leach_once.ok sc_Leach_once (fun vs H Q E h=>?_) (fun cdv A outer s H vs Q E hr h=>?_)
 ·obtain⟨p,r,cs,os,rfl,_⟩:=h
  rfl
 have nd:=sc_Leach_once.nd
 obtain⟨p,r,cs,os,rfl,C,hl1,q⟩:=h
 refine⟨_,(QC (Q3 PassesOwn.never rfl (Wj rfl rfl T.z_enumerate (pv 1)) (zCT rfl (Yj (Qg (i:=2) nd rfl (Or.inl rfl)) (Yj (Qg (i:=3) nd rfl (Or.inl rfl)) zAn))) (QG (QX (QS JB (ZW PySem.F.plainAttrs_list PySem.F.slot_list_count PySem.F.type_list_count (YP hr.units) (pv 0) (QA (pv 2) QD)) (Qr zBx rfl T.z_int boot_int (QA (Qj ZE (pv 3) Q7 (QN _)) QD)) (QN _)) (QG (QM WP)) QT)))
 (QG (QM (Qj JR (ZW PySem.F.plainAttrs_list PySem.F.slot_list_count PySem.F.type_list_count (YP hr.units) (pv 0) (QA (ZV Yc QB) QD)) (ZW PySem.F.plainAttrs_list PySem.F.slot_list_count PySem.F.type_list_count (YP hr.units) (pv 1) (QA Q7 QD)) (QN _))))),?_⟩
 walk_at "rd"
 obtain⟨xs,hrw,hos⟩:=C.hr
 have xl:=hos.len
 have hp:=C.hp
 have sh20:∀ o∈os,YJ 20 o:=fun o ho=>shal_mono (C.sh o ho)
 refine⟨⟨_,SqL.of hrw⟩,Jp (xs:=xs) (fun i σ H'=>Same H H'/\zHO cs os i/\∃ u v,σ=[some (V.ref p),some (V.ref r),u,v]) ⟨.refl _,fun q h=>absurd h (Nat.not_lt_zero _),none,none,rfl⟩ (fun _ _ _ _ h=>SqL.of (h.1 _ _ hrw)) (fun i x t σ H' e h ht=>?_) (fun σ H' h=>?_)⟩
 ·obtain⟨G,D,u,v,rfl⟩:=h
  obtain⟨o,e1,e2⟩:=hos.get e
  have il:i < os.length:=(List.getElem?_eq_some_iff.mp e1).1
  have gt:=QE (o:=HO.tup [V.int (i:Nat),x]) ht
  have G2:=G.trans gt
  walk_at "rd"
  refine⟨_,SqT.of QH,rfl,_,_,rfl,_,_,rfl,rfl,.inl ⟨rfl,_,SqL.of (G2 _ _ hp)⟩,p,_,cz cs,some (.num (i:Int)),_,rfl,rfl,G2 _ _ hp,Yl _,Zq,Zn,?_⟩
  rw[Y4]
  have hz:(if ¬ x=V.non then (1:Int) else 0)=(((if (i:Int)∈plc os os.length then 1 else 0:Nat)):Int):=by
   cases o with
   | none =>
    rw[if_neg (fun z=>z e2),if_neg (fun h=>?_)]
    ·rfl
    obtain⟨q',k,h1,h2,h3⟩:=plc_iff.mp h
    have:q'=i:=by omega
    subst this
    rw[e1] at h3
    cases h3
   | some k =>
    rw[if_pos (of_decide_eq_false e2.non),if_pos (plc_iff.mpr ⟨i,k,rfl,il,e1⟩)]
    rfl
  show rNe (V.int _) (V.int (if ¬ x=V.non then (1:Int) else 0)) _ _
  rw[hz,zCs]
  refine⟨_,rfl,?_⟩
  by_cases z:cs.count (i:Int)=if (i:Int)∈plc os os.length then 1 else 0
  ·rw[z,decide_eq_true rfl,if_neg (by decide)]
   refine⟨G2,fun q' hq=>?_⟩
   by_cases y:q'=i
   ·rw[y];exact z
   ·exact D q' (by omega)
  ·have zz:¬ ((cs.count (i:Int):Nat):Int)=(((if (i:Int)∈plc os os.length then 1 else 0:Nat)):Int):=fun h=>z (Int.ofNat.inj h)
   rw[decide_eq_false zz,if_pos (show (!false)=true from rfl)]
   exact q _ _ G2 ⟨fun h=>(nomatch h),fun h=>absurd (h.1 i il) z⟩
 ·obtain⟨G,D,u,v,rfl⟩:=h
  rw[xl] at D
  walk_at "rd"
  refine⟨.inl ⟨rfl,_,SqL.of (G _ _ hp)⟩,p,_,cz cs,some (.num (-2)),_,rfl,rfl,G _ _ hp,Yl _,Zq,Zn,.inl ⟨rfl,_,SqL.of (G _ _ hrw)⟩,r,xs,os,none,_,rfl,rfl,G _ _ hrw,hos.same G.tups,rfl,sh20,_,rfl,_,rfl,?_⟩
  rw[Y4]
  refine q _ _ G ?_
  rw[decide_eq_true_eq]
  exact⟨fun h=>⟨D,by omega⟩,fun h=>by have:=h.2;omega⟩
theorem zDX (T:Txt K mg a)(G_Lwhole:FnOk P w K mg base CX0 1 a.f_Lwhole a.d_Lwhole JD zHq)(G_place_of:FnOk P w K mg base CX0 10 a.f_place_of a.d_place_of Yw zAh):FnOk P w K mg base CX0 11 a.f_Lfound a.d_Lfound Wz Z8:=by
 refine T.F_Lfound.ok sc_Lfound (fun vs H Q E h=>?_) (fun cdv A outer s H vs Q E hr h=>?_)
 ·obtain⟨p,r,cs,os,x,v,k,c,o,rfl,_⟩:=h
  rfl
 have nd:=sc_Lfound.nd
 obtain⟨p,r,cs,os,x,v,k,c,o,rfl,C,n0,n1,hg,hk,hd,hc,hv,q⟩:=h
 refine⟨_,(QC (QP (i:=4) nd rfl (Or.inl rfl) (QK (G_place_of.mono (by decide)) hr rfl T.m_place_of T.F_place_of.kp T.b_place_of .nil QU (QA (Qr YE rfl T.z_list boot_list (QA (pv 0) QD)) (QA (Qr YE rfl T.z_list boot_list (QA (pv 1) QD)) (QA (pv 2) QD)))))
 (QC (QX (QS zCQ (pv 3) Q7 (QN _)) (QG (QM (Qj zCQ (pv 4) Q7 (QN _)))) QT)
 (QG (QM (YC (QK (G_Lwhole.mono (by decide)) hr rfl T.m_Lwhole T.F_Lwhole.kp T.b_Lwhole .nil QU (QA (pv 4) QD)) (YY (Qj Qw (pv 4) (pv 3) (QN _)))))))),?_⟩
 walk_at "rd"
 obtain⟨xs,hrw,hos⟩:=C.hr
 rw[YO C.hp]
 intro c1 hc1
 have g1:=QE (o:=HO.lst (cs.map V.int)) hc1
 show WO [V.ref r] _ _
 rw[YO (g1 _ _ hrw)]
 intro r4 hr4
 have g2:=QE (o:=HO.lst xs) hr4
 have g12:=g1.trans g2
 refine⟨c1,r4,cs,xs,os,x,k,c,rfl,g2 _ _ QH,QH,hos.same g12.tups,IsK.same g12.tups hk,hd,n0,by omega,hg,hc,fun H' G=>?_⟩
 have GG:=g12.trans G
 dsimp only
 rcases hv with ⟨rfl,rfl⟩ | ⟨n,rfl,rfl⟩
 ·rw[if_pos rfl]
  refine q _ _ GG ?_
  show _ ↔ cAt cs k.st c = -1
  by_cases z:cAt cs k.st c = -1
  ·rw[if_pos z,decide_eq_true rfl]
   exact⟨fun _=>z,fun _=>rfl⟩
  ·rw[if_neg z,decide_eq_false (fun h=>by cases h)]
   exact⟨fun h=>(nomatch h),fun h=>absurd h z⟩
 ·rw[if_neg (fun h=>by cases h)]
  by_cases z:cAt cs k.st c = -1
  ·rw[if_pos z]
   refine⟨.non,false,rfl,.inr ⟨rfl,rfl⟩,false,rfl,?_⟩
   rw[if_neg (by decide)]
   refine q _ _ GG ⟨fun h=>(nomatch h),fun h=>?_⟩
   have h:cAt cs k.st c=(n:Int):=h
   omega
  ·rw[if_neg z]
   refine⟨.int _,true,rfl,.inl ⟨_,rfl,rfl⟩,true,rfl,?_⟩
   rw[if_pos rfl,ZF]
   refine q _ _ GG ?_
   rw[decide_eq_true_eq]
   exact Iff.rfl
theorem JC (T:Txt K mg a)(G_paper:FnOk P w K mg base CX0 9 a.f_paper a.d_paper Wp zAd):FnOk P w K mg base CX0 10 a.f_Lpaper_ends a.d_Lpaper_ends Ya Wq:=by
 refine T.F_Lpaper_ends.ok sc_Lpaper_ends (fun vs H Q E h=>?_) (fun cdv A outer s H vs Q E hr h=>?_)
 ·obtain⟨p,r,cs,os,x,v,k,c,o,rfl,_⟩:=h
  rfl
 have nd:=sc_Lpaper_ends.nd
 obtain⟨p,r,cs,os,x,v,k,c,o,rfl,C,n0,n1,hg,hk,hd,hc,hv,hf,he,q⟩:=h
 refine⟨_,(QC (QP (i:=4) nd rfl (Or.inl rfl) (QK (G_paper.mono (by decide)) hr rfl T.m_paper T.F_paper.kp T.b_paper .nil QU (QA (Qr YE rfl T.z_list boot_list (QA (pv 0) QD)) (QA (Qr YE rfl T.z_list boot_list (QA (pv 1) QD)) (QA (pv 2) QD)))))
 (QC (QX (PW.pt (zEU (Ws (Qy (QL Qf rfl T.z_isinstance boot_isinstance (QA (pv 4) (QA (Qm (v:=.ty "list") rfl T.z_list boot_list rfl) QD))))) (zCH (QS (zFZ hr.units) (pv 4) (Za QD) (QN _))))) (QG (QM WP)) QT)
 (QC (QP (i:=5) nd rfl (Or.inl rfl) (QF WH (QL Qb rfl T.z_len PySem.boot_len (QA (pv 0) QD)) (ZW PySem.F.plainAttrs_list PySem.F.slot_list_count PySem.F.type_list_count (YP hr.units) (pv 0) (QA (ZV Yc QB) QD))))
 (QC (QX (QS zCQ (pv 3) Q7 (QN _)) (QG (QM (YC (Qj Qw (Qp YL (Qp YL (pv 4) (ZV Yc QB) (fun _ _=>rfl)) QB (fun _ _=>rfl)) (ZV Yc QB) (QN _)) (YY (Qj JR (QL Qb rfl T.z_len PySem.boot_len (QA (pv 4) QD)) (QF QZ (pv 5) QB) (QN _)))))) QT)
 (QG (QM (YC (Qj Qw (Qp YL (Qp YL (pv 4) (ZV Yc QB) (fun _ _=>rfl)) QB (fun _ _=>rfl)) (pv 3) (QN _)) (YY (Qj JR (QL Qb rfl T.z_len PySem.boot_len (QA (pv 4) QD)) (pv 5) (QN _)))))))))),?_⟩
 walk_at "rd"
 obtain⟨xs,hrw,hos⟩:=C.hr
 rw[YO C.hp]
 intro c1 hc1
 have g1:=QE (o:=HO.lst (cs.map V.int)) hc1
 show WO [V.ref r] _ _
 rw[YO (g1 _ _ hrw)]
 intro r4 hr4
 have g2:=QE (o:=HO.lst xs) hr4
 have g12:=g1.trans g2
 refine⟨c1,r4,cs,xs,os,x,k,c,rfl,g2 _ _ QH,QH,hos.same g12.tups,IsK.same g12.tups hk,hd,n0,by omega,hg,hc,fun f ys H' G hf0 hf1 hoy=>?_⟩
 have GG:=g12.trans G
 show Qz K [V.ref f,V.ty "list"] _ _
 rw[zAr hf1]
 refine⟨true,rfl,?_⟩
 rw[if_neg (by decide)]
 refine⟨by decide,fun z hz=>?_⟩
 have gz:=QE (o:=HO.lst []) hz
 refine⟨f,z,ys,[],pap cs k.st c,[],rfl,rfl,gz _ _ hf1,QH,hoy.same gz.tups,IsKos.nil,zDl,_,rfl,?_⟩
 show (if decide (pap cs k.st c=[])=true then _ else _)
 rw[if_neg (by rw[decide_eq_false zGl];decide)]
 have hp2:=gz _ _ (GG _ _ C.hp)
 rw[Qi hp2,List.length_map]
 refine⟨.inl ⟨rfl,_,SqL.of hp2⟩,p,_,cz cs,some (.num (-1)),_,rfl,rfl,hp2,Yl _,Zq,Zn,_,rfl,_,rfl,?_⟩
 rw[Y4]
 have hyl:ys.length=c+1:=by rw[hoy.len,Wd]
 obtain⟨y,ey⟩:∃ y,ys[c]? = some y:=⟨ys[c],List.getElem?_eq_getElem (by omega)⟩
 obtain⟨t,rfl,ht⟩:=zEE (hoy.same gz.tups) ey
 have rd:∀ Q',ixC (V.ref f) (V.int (-1)) (upd H' z (HO.lst [])) (fun x_7 H1=>ixC x_7 (V.int 1) H1 Q')=Q' (V.int (cAt cs k.st c)) (upd H' z (HO.lst [])):=fun Q'=>by
  rw[Qe (gz _ _ hf1) ((zCY hyl).trans ey),zCr (v:=V.int (cAt cs k.st c)) ht rfl]
 rcases hv with ⟨rfl,rfl⟩ | ⟨n,rfl,rfl⟩
 ·have hf:cAt cs k.st c = -1:=hf
  have he:c+cs.count (-1)<=cs.length:=he
  rw[if_pos rfl,rd,ZF]
  refine⟨_,rfl,?_⟩
  rw[if_pos (decide_eq_true hf),Qi (gz _ _ hf1),hyl]
  refine⟨_,rfl,?_⟩
  rw[decide_eq_true (by omega)]
  exact q _ (GG.trans gz)
 ·have hf:cAt cs k.st c=(n:Int):=hf
  have he:c+1+cs.count (-1)<=cs.length:=he
  rw[if_neg (fun h=>by cases h),rd,ZF]
  refine⟨_,rfl,?_⟩
  rw[if_pos (decide_eq_true hf),Qi (gz _ _ hf1),hyl]
  refine⟨_,rfl,?_⟩
  rw[decide_eq_true (by omega)]
  exact q _ (GG.trans gz)
theorem zFn (T:Txt K mg a):FnOk P w K mg base CX0 1 a.f_Lown a.d_Lown zCI zEk:=by
 refine T.F_Lown.ok sc_Lown (fun vs H Q E h=>?_) (fun cdv A outer s H vs Q E hr h=>?_)
 ·obtain⟨r,xs,os,x,k,rfl,_⟩:=h
  rfl
 have nd:=sc_Lown.nd
 obtain⟨r,xs,os,x,k,rfl,hrw,hos,hsh,hk,q⟩:=h
 refine⟨_,(QC (Q3 PassesOwn.never rfl (Wj rfl rfl T.z_enumerate (pv 0)) (zCT rfl (Yj (Qg (i:=2) nd rfl (Or.inl rfl)) (Yj (Qg (i:=3) nd rfl (Or.inl rfl)) zAn))) (QG (QX (PW.pt (zAo (QS ZE (pv 3) Q7 (QN _)) (Wh (QS (zEI hr.units) (pv 3) (pv 1) (QN _))))) (QG (QM (pv 2))) QT)))
 (QG (QM Q7))),?_⟩
 walk_at "rd"
 have xl:=hos.len
 refine⟨⟨_,SqL.of hrw⟩,Jp (xs:=xs) (fun i σ H'=>Same H H'/\NoI os k i/\∃ u v,σ=[some (V.ref r),some x,u,v]) ⟨.refl _,fun n h=>absurd h (Nat.not_lt_zero _),none,none,rfl⟩ (fun _ _ _ _ h=>SqL.of (h.1 _ _ hrw)) (fun i y t σ H' e h ht=>?_) (fun σ H' h=>?_)⟩
 ·obtain⟨G,D,u,v,rfl⟩:=h
  obtain⟨o,e1,e2⟩:=hos.get e
  have il:i < os.length:=(List.getElem?_eq_some_iff.mp e1).1
  have gt:=QE (o:=HO.tup [V.int (i:Nat),y]) ht
  have G2:=G.trans gt
  have next:o ≠ some k->NoI os k (i+1):=fun hn n hlt hk=>by
   by_cases z:n=i
   ·subst z
    rw[e1] at hk
    exact hn (Option.some.inj hk)
   ·exact D n (by omega) hk
  walk_at "rd"
  refine⟨_,SqT.of QH,rfl,_,_,rfl,_,_,rfl,rfl,?_⟩
  cases o with
  | none =>
   rw[if_neg (fun z=>z e2)]
   exact⟨G2,next (fun z=>by cases z)⟩
  | some k2 =>
   rw[if_pos (of_decide_eq_false e2.non)]
   refine⟨k2,k,IsK.same G2.tups e2,IsK.same G2.tups hk,by have:k2.deep<=3:=hsh _ (List.mem_of_getElem? e1);omega,_,rfl,?_⟩
   rw[Kd.eqb_dec]
   refine Q8 (fun z=>?_) (fun z=>⟨G2,next (fun h=>z (decide_eq_true (Option.some.inj h)))⟩)
   have z:=of_decide_eq_true z
   subst z
   exact q _ _ (some i) G2 (.inr ⟨i,rfl,rfl⟩) e1
 ·obtain⟨G,D,u,v,rfl⟩:=h
  rw[xl] at D
  walk_at "rd"
  refine q _ _ none G (.inl ⟨rfl,rfl⟩) fun n hn=>?_
  exact D n (List.getElem?_eq_some_iff.mp hn).1 hn
end
section
variable {P:Program} {w:World} {K:W.Frag} {mg:Str->Option Value} {base:Heap} {a:Ad}
theorem zDQ (T:Txt K mg a)(G_Lfirst_bare:FnOk P w K mg base CX0 5 a.f_Lfirst_bare a.d_Lfirst_bare Yf zEO):FnOk P w K mg base CX0 6 a.f_Ldrawn a.d_Ldrawn JF zCz:=by
 refine T.F_Ldrawn.ok sc_Ldrawn (fun vs H Q E h=>?_) (fun cdv A outer s H vs Q E hr h=>?_)
 ·obtain⟨xa,r,ws,xs,os,S,rfl,_⟩:=h
  rfl
 have nd:=sc_Ldrawn.nd
 obtain⟨xa,r,ws,xs,os,S,rfl,hx,hrw,hos,hsh,h8,h64,hol,wl,wr,q⟩:=h
 refine⟨_,(QC (JL (i:=3) nd rfl (Or.inl rfl) "_law_k" ["_law_row"] [1] rfl ⟨rfl,rfl,by decide +kernel,by decide +kernel,rfl,by decide +kernel,by decide +kernel,rfl,by decide +kernel⟩ rfl (YG rfl T.z_range (QA (QL Qb rfl T.z_len PySem.boot_len (QA (pv 1) QD)) QD)) (fun C s1 H1 fp=>(QS ZE (Qp YL (pv 1) (pv 0) (fun _ _=>rfl)) Q7 (QN _))) (fun C s1 H1 fp=>(pv 0)))
 (QC (QP (i:=4) nd rfl (Or.inl rfl) (QF zG8 (Za (QA (ZV Yc QB) QD)) (pv 2)))
 (QC (QX (QS Qw (QF QR (QF QV (Qp YL (pv 0) QB (fun _ _=>rfl)) QB) QB) QB (QN _)) (QG (Q3 PassesOwn.never rfl (YG rfl T.z_range (QA (pv 2) QD)) (Qg (i:=5) nd rfl (Or.inl rfl)) (QG (QX (PW.pt (zAo (QS JB (QF QR (QF QV (Qp YL (pv 0) QB (fun _ _=>rfl)) (QF QZ (pv 5) QB)) QB) QB (QN _)) (Wh (QS (zFp hr.units) (pv 3) (Za QD) (QN _))))) (QG (WE (Qp YL (pv 3) (QF QR (QF QV (Qp YL (pv 0) QB (fun _ _=>rfl)) (QF QZ (QF Qh (pv 5) (pv 5)) QB)) (QL Qb rfl T.z_len PySem.boot_len (QA (pv 3) QD))) (fun _ _=>rfl)) (WN (pv 4) (pv 5) J4))) QT)))) (QG (Q3 PassesOwn.never rfl (YM (pv 3)) (Qg (i:=6) nd rfl (Or.inl rfl)) (QG (WE (pv 6) (WN (pv 4) (QK (G_Lfirst_bare.mono (by decide)) hr rfl T.m_Lfirst_bare T.F_Lfirst_bare.kp T.b_Lfirst_bare .nil QU (QA (pv 4) (QA (Qp YL (pv 1) (pv 6) (fun _ _=>rfl)) QD))) J4))))))
 (QC (Q3 PassesOwn.never rfl (YM (Ym Wb (pv 0) (Y1 QB) (Y1 (QF QZ QB (QF QR (QF QV (Qp YL (pv 0) QB (fun _ _=>rfl)) QB) QB))))) (Qg (i:=7) nd rfl (Or.inl rfl)) (QC (QP (i:=8) nd rfl (Or.inl rfl) (QF zGz (Za (QA (ZV Yc QB) (QA (ZV Yc QB) QD))) (pv 3)))
 (QC (QP (i:=9) nd rfl (Or.inl rfl) (QF QR (QF QV (pv 7) QB) (pv 2)))
 (QC (QP (i:=10) nd rfl (Or.inl rfl) (QF QR (QF QV (pv 7) QB) (pv 2)))
 (QC (QP (i:=11) nd rfl (Or.inl rfl) (Qp YL (pv 4) (pv 10) (fun _ _=>rfl)))
 (QG (QX (QS JB (QF QR (pv 7) QB) QB (QN _)) (QC (WE (Qp YL (pv 4) (pv 9) (fun _ _=>rfl)) (WN (pv 4) (pv 10) J4))
 (QG (WE (pv 11) (WN (pv 4) (pv 9) J4)))) (QG (WE (Qp YL (pv 8) (QF QR (QF QV (pv 7) QB) (QL Qb rfl T.z_len PySem.boot_len (QA (pv 8) QD))) (fun _ _=>rfl)) (WN (pv 4) (pv 9) J4))))))))))
 (QG (QM (pv 4))))))),?_⟩
 walk_at "rd"
 have xl:=hos.len
 have r8:=h8.range
 rw[Qi hrw,xl]
 refine⟨_,rfl,by omega,by omega,?_⟩
 rw[Int.toNat_natCast]
 refine WT (fun i zs H'=>H'=H/\zs=(plc os i).map V.int) ⟨rfl,rfl⟩ (fun i zs H' hi h=>?_) (fun i zs H' hi h=>?_) (fun zs H' h=>?_)
 ·obtain⟨rfl,rfl⟩:=h
  have:=YX (os:=os) (i:=i)
  rw[List.length_map]
  exact Qd (by omega)
 ·obtain⟨rfl,rfl⟩:=h
  obtain⟨y,ey,hy⟩:=hos.get' (List.getElem?_eq_getElem hi)
  walk_at "rd"
  rw[Int.zero_add,Qe hrw (Qn ey),Zy (List.getElem?_eq_getElem hi),← hy.non]
  refine Q8 (fun z=>?_) (fun z=>?_)
  ·rw[decide_eq_false z,if_neg (by decide),List.map_append]
   exact⟨rfl,rfl⟩
  ·rw[if_pos (decide_eq_true (Decidable.not_not.mp z))]
   exact⟨rfl,rfl⟩
 obtain⟨rfl,rfl⟩:=h
 intro pa hpa
 have g1:=QE (o:=HO.lst ((plc os os.length).map V.int)) hpa
 have pll:=YX (os:=os) (i:=os.length)
 refine⟨by decide,fun t1 ht1=>?_⟩
 have g2:=QE (o:=HO.lst [V.int (-1)]) ht1
 refine⟨t1,S,[V.int (-1)],rfl,rfl,QH,by omega,by omega,?_,fun p hp0=>?_⟩
 ·show 1*S.toNat<=sizeLine
  rw[Nat.one_mul]
  exact Nat.le_of_lt (J3 (by omega))
 rw[zIB]
 have g3:=QE (o:=HO.lst ((List.replicate S.toNat (-1:Int)).map V.int)) hp0
 have hpa3:=(g2.trans g3) _ _ (QH (H:=H') (a:=pa) (o:=HO.lst ((plc os os.length).map V.int)))
 have npa:pa ≠ p:=QO (g2 _ _ QH) hp0
 have G3:=g1.trans (g2.trans g3)
 have hpn:H' p=none:=(g1.trans g2).free hp0
 have hp3:upd (upd (upd H' pa (HO.lst ((plc os os.length).map V.int))) t1 (HO.lst [V.int (-1)])) p (HO.lst ((List.replicate S.toNat (-1:Int)).map V.int)) p=some (HO.lst ((List.replicate S.toNat (-1:Int)).map V.int)):=QH
 generalize upd (upd (upd H' pa (HO.lst ((plc os os.length).map V.int))) t1 (HO.lst [V.int (-1)])) p (HO.lst ((List.replicate S.toNat (-1:Int)).map V.int))=H3 at hpa3 G3 hp3 ⊢
 clear g1 g2 g3 hp0 ht1 hpa
 have wat:∀ j:Nat,j < 16->∃ y,atI (ws.map V.int) (j:Int)=some (V.int y)/\0<=y:=fun j hj=>by
  have hj2:j < ws.length:=by omega
  exact⟨ws[j],Qn (by rw[List.getElem?_map,List.getElem?_eq_getElem hj2];rfl),wr _ (List.getElem_mem hj2)⟩
 have nx:xa ≠ p:=QO hx hpn
 have nr:r ≠ p:=QO hrw hpn
 obtain⟨y0,a0,_⟩:=wat 0 (by decide)
 obtain⟨y1,a1,p1⟩:=wat 1 (by decide)
 obtain⟨y2,a2,p2⟩:=wat 2 (by decide)
 obtain⟨y3,a3,p3⟩:=wat 3 (by decide)
 show ixC (V.ref xa) (V.int ((0:Nat):Int)) _ _
 rw[Qe (G3 _ _ hx) a0]
 have D0:DrI H' H3 p pa S os 0:=⟨G3,hpa3,_,hp3,by rw[List.length_replicate];omega,fun v hv=>.inl (List.eq_of_mem_replicate hv),by rw[List.countP_replicate];simp⟩
 refine⟨_,rfl,Q8 (fun _=>⟨by omega,by omega,YV (fun i σ H4=>DrI H' H4 p pa S os S.toNat/\∃ u,σ=[some (V.ref xa),some (V.ref r),some (V.int S),some (V.ref pa),some (V.ref p),u,none,none,none,none,none,none]) ⟨⟨D0.1,D0.2.1,_,hp3,by rw[List.length_replicate];omega,fun v hv=>.inl (List.eq_of_mem_replicate hv),by rw[List.countP_replicate];simp⟩,none,rfl⟩ (fun i σ H4 hi h=>?_) (fun σ H4 h=>?_)⟩)
  (fun _=>⟨⟨_,SqL.of hpa3⟩,ZJ (xs:=(plc os os.length).map V.int) (fun i σ H4=>DrI H' H4 p pa S os i/\∃ u,σ=[some (V.ref xa),some (V.ref r),some (V.int S),some (V.ref pa),some (V.ref p),none,u,none,none,none,none,none]) ⟨D0,none,rfl⟩ (fun _ _ _ _ h=>SqL.of h.1.2.1) (fun i x σ H4 e h=>?_) (fun σ H4 h=>?_)⟩)⟩
 ·obtain⟨⟨G,hpa4,cs,hp4,cl,gc,_⟩,u,rfl⟩:=h
  have hx4:=G _ _ hx
  have full:∀ ds:List Int,ds.length=cs.length->ds.countP (fun v=>v != -1)<=S.toNat:=fun ds e=>Nat.le_trans List.countP_le_length (by omega)
  have stay:∀ H5,Same H4 H5->DrI H' H5 p pa S os S.toNat:=fun H5 g=>⟨G.trans g,g _ _ hpa4,cs,g _ _ hp4,cl,gc,full _ rfl⟩
  walk_at "rd"
  show ixC (V.ref xa) (V.int ((1:Nat):Int)) _ _
  rw[Qe hx4 a1]
  refine⟨_,rfl,by omega,by omega,Q8 (fun _=>?_) (fun _=>stay H4 (.refl _))⟩
  refine⟨by decide,fun z hz=>?_⟩
  have gz:=QE (o:=HO.lst []) hz
  refine⟨pa,z,_,_,cz (plc os os.length),[],rfl,rfl,gz _ _ hpa4,QH,Yl _,IsKos.nil,Zn,_,rfl,Q8 (fun ne=>?_) (fun _=>stay _ gz)⟩
  have pp:0 < (plc os os.length).length:=by
   cases hpz:plc os os.length with
   | nil=>rw[hpz,if_pos rfl,decide_eq_true (show cz []=[] from rfl)] at ne;cases ne
   | cons _ _=>exact Nat.succ_pos _
  show ixC (V.ref xa) (V.int ((2:Nat):Int)) _ _
  rw[Qe (gz _ _ hx4) a2]
  have w0:0<=(0+(i:Int))*(0+(i:Int)):=Int.mul_nonneg (by omega) (by omega)
  have w1:(0+(i:Int))*(0+(i:Int))<=64*64:=Int.mul_le_mul (by omega) (by omega) (by omega) (by decide)
  refine⟨.inl ⟨by omega,by omega⟩,_,rfl,by omega,by omega,?_⟩
  rw[Qi (gz _ _ hpa4),List.length_map]
  refine⟨_,rfl,by omega,?_⟩
  generalize (0+(i:Int))*(0+(i:Int))=w at w0 w1 ⊢
  have j0:=Int.emod_nonneg (y2 / (w+1)) (show ((plc os os.length).length:Int) ≠ 0 by omega)
  have j1:=Int.emod_lt_of_pos (y2 / (w+1)) (show 0 < ((plc os os.length).length:Int) by omega)
  obtain⟨j,ej⟩:∃ j:Nat,y2 / (w+1) % ((plc os os.length).length:Int)=j:=⟨(y2 / (w+1) % ((plc os os.length).length:Int)).toNat,by omega⟩
  rw[ej] at j1 ⊢
  have jl:j < (plc os os.length).length:=by omega
  rw[Qe (gz _ _ hpa4) (v:=V.int (plc os os.length)[j]) (Qn (by rw[List.getElem?_map,List.getElem?_eq_getElem jl];rfl))]
  rw[Int.zero_add,ZH (gz _ _ hp4) rfl (by rw[List.length_map];omega),← List.map_set]
  exact⟨(G.trans gz).upd hpn,by rw[QQ npa];exact gz _ _ hpa4,_,QH,by rw[List.length_set];exact cl,gc.set (.inr (.inr (List.getElem_mem jl))),full _ (List.length_set ..)⟩
 rotate_left
 ·obtain⟨⟨G,hpa4,cs,hp4,cl,gc,cc⟩,u,rfl⟩:=h
  have il:i < (plc os os.length).length:=by have:=(List.getElem?_eq_some_iff.mp e).1;rwa [List.length_map] at this
  obtain⟨v,hv,rfl⟩:=List.mem_map.mp (List.mem_of_getElem? e)
  obtain⟨n,k,rfl,nl,hk⟩:=plc_iff.mp hv
  obtain⟨y,ey,hy⟩:=hos.get' hk
  walk_at "rd"
  rw[Qe (G _ _ hrw) (Qn ey)]
  have e1:(-1:Int)∈cs:=Zp (by omega)
  have hp2:zAb (cs.length:Int):=by rw[cl];exact h8.p2
  obtain⟨c0,c1,c2⟩:=Z2 (m:=k.st) hp2 e1
  obtain⟨c,hc⟩:=Yt (P:=fun c=>cAt cs k.st c = -1) ⟨c0,c1,c2⟩
  have cn0:0 < cs.length:=by omega
  have cj:=Zt (cs:=cs) (m:=k.st) (c:=c) cn0
  rw[hc.2.1] at cj
  refine⟨p,cs,y,k,c,rfl,hp4,hp2,IsK.same G.tups hy,hsh _ (List.mem_of_getElem? hk),hc,?_⟩
  show zGg (V.ref p) (V.int ((sl k.st cs.length c:Nat):Int)) _ _ _
  rw[ZH hp4 rfl (by rw[List.length_map];exact zE7 cn0),← List.map_set]
  have:=zDZ (v:=(n:Int)) cj
  exact⟨G.upd hpn,by rw[QQ npa];exact hpa4,_,QH,by rw[List.length_set];exact cl,gc.set (.inr (.inr hv)),by omega⟩
 all_goals
  obtain⟨⟨G,hpa4,cs,hp4,cl,gc,_⟩,u,rfl⟩:=h
  have hx4:=G _ _ hx
  walk_at "rd"
  show ixC (V.ref xa) (V.int ((3:Nat):Int)) _ _
  rw[Qe hx4 a3]
  refine⟨_,rfl,xa,_,rfl,SqL.of hx4,fun r8a hr8=>?_⟩
  obtain⟨c8,ec8,_,m8⟩:=zCo (ns:=ws) (lo:=some 8) (hi:=some (8+y3 / 16 % 5))
  rw[ec8]
  have g8:=QE (o:=HO.lst (c8.map V.int)) hr8
  have n8p:r8a ≠ p:=(QO hp4 hr8).symm
  refine⟨r8a,rfl,⟨_,SqL.of QH⟩,ZJ (xs:=c8.map V.int) (fun i σ H5=>H5 r8a=some (HO.lst (c8.map V.int))/\DrI H' H5 p pa S os S.toNat/\∃ u v w1 w2 w3 w4 w5,σ=[some (V.ref xa),some (V.ref r),some (V.int S),some (V.ref pa),some (V.ref p),u,v,w1,w2,w3,w4,w5]) ⟨QH,⟨G.trans g8,g8 _ _ hpa4,cs,g8 _ _ hp4,cl,gc,Nat.le_trans List.countP_le_length (by omega)⟩,_,_,_,_,_,_,_,rfl⟩ (fun _ _ _ _ h=>SqL.of h.1) (fun i x σ H5 e h=>?_) (fun σ H5 h=>?_)⟩
  ·clear G hpa4 hp4 cl gc hx4 g8
   obtain⟨h8a,⟨G,hpa4,cs,hp4,cl,gc,_⟩,u,v,w1,w2,w3,w4,w5,rfl⟩:=h
   obtain⟨n,hn,rfl⟩:=List.mem_map.mp (List.mem_of_getElem? e)
   walk_at "rd"
   refine⟨by decide,fun s1 hs1=>?_⟩
   have gs:=QE (o:=HO.lst [V.int (-1),V.int (-2)]) hs1
   refine⟨s1,pa,[V.int (-1),V.int (-2)],(plc os os.length).map V.int,rfl,rfl,QH,gs _ _ hpa4,?_,fun s2 hs2=>?_⟩
   ·rw[List.length_map]
    exact Nat.le_of_lt (Qd (by show 2+_<=1000;omega))
   have gs2:=QE (o:=HO.lst ([V.int (-1),V.int (-2)]++(plc os os.length).map V.int)) hs2
   have g12:=gs.trans gs2
   have hp6:=g12 _ _ hp4
   have h8a6:=g12 _ _ h8a
   have hpa6:=g12 _ _ hpa4
   have G6:=G.trans g12
   have hs6:upd (upd H5 s1 (HO.lst [V.int (-1),V.int (-2)])) s2 (HO.lst ([V.int (-1),V.int (-2)]++(plc os os.length).map V.int)) s2=some (HO.lst ((-1 :: -2::plc os os.length).map V.int)):=QH
   generalize upd (upd H5 s1 (HO.lst [V.int (-1),V.int (-2)])) s2 (HO.lst ([V.int (-1),V.int (-2)]++(plc os os.length).map V.int))=H6 at hp6 h8a6 hpa6 G6 hs6 ⊢
   have b0:=Int.emod_nonneg (n / 64) (show S ≠ 0 by omega)
   have b1:=Int.emod_lt_of_pos (n / 64) (show 0 < S by omega)
   have d0:=Int.emod_nonneg (n / 65536) (show S ≠ 0 by omega)
   have d1:=Int.emod_lt_of_pos (n / 65536) (show 0 < S by omega)
   obtain⟨m,em⟩:∃ m:Nat,n / 64 % S=m:=⟨(n / 64 % S).toNat,by omega⟩
   obtain⟨d,ed⟩:∃ d:Nat,n / 65536 % S=d:=⟨(n / 65536 % S).toNat,by omega⟩
   have ml:m < cs.length:=by omega
   have dl:d < cs.length:=by omega
   refine⟨by omega,by omega,?_⟩
   rw[em,ed,Qe hp6 (v:=V.int cs[d]) (Qn (by rw[List.getElem?_map,List.getElem?_eq_getElem dl];rfl))]
   refine Q8 (fun _=>?_) (fun _=>?_)
   ·rw[Qe hp6 (v:=V.int cs[m]) (Qn (by rw[List.getElem?_map,List.getElem?_eq_getElem ml];rfl)),ZH hp6 rfl (by rw[List.length_map];exact dl),← List.map_set,ZH QH rfl (by rw[List.length_map,List.length_set];exact ml),← List.map_set]
    exact⟨by rw[QQ n8p,QQ n8p];exact h8a6,(G6.upd hpn).upd hpn,by rw[QQ npa,QQ npa];exact hpa6,_,QH,by rw[List.length_set,List.length_set];exact cl,(gc.set (gc _ (List.getElem_mem ml))).set (gc _ (List.getElem_mem dl)),Nat.le_trans List.countP_le_length (by rw[List.length_set,List.length_set];omega)⟩
   ·rw[Qi hs6,List.length_map]
    have L0:0 < ((-1 :: -2::plc os os.length:List Int).length:Int):=by rw[List.length_cons];omega
    refine⟨_,rfl,L0,?_⟩
    have hm:∀ v∈(-1 :: -2::plc os os.length:List Int),v = -1\/v = -2\/v∈plc os os.length:=fun v hv=>by
     rcases List.mem_cons.mp hv with y | y
     ·exact .inl y
     rcases List.mem_cons.mp y with y | y
     ·exact .inr (.inl y)
     ·exact .inr (.inr y)
    generalize (-1 :: -2::plc os os.length:List Int)=L at hs6 L0 hm ⊢
    have e0:=Int.emod_nonneg (n / 65536) (show (L.length:Int) ≠ 0 by omega)
    have e1:=Int.emod_lt_of_pos (n / 65536) L0
    obtain⟨f,ef⟩:∃ f:Nat,n / 65536 % (L.length:Int)=f:=⟨(n / 65536 % (L.length:Int)).toNat,by omega⟩
    have fl:f < L.length:=by omega
    rw[ef,Qe hs6 (v:=V.int L[f]) (Qn (by rw[List.getElem?_map,List.getElem?_eq_getElem fl];rfl)),ZH hp6 rfl (by rw[List.length_map];exact ml),← List.map_set]
    exact⟨by rw[QQ n8p];exact h8a6,G6.upd hpn,by rw[QQ npa];exact hpa6,_,QH,by rw[List.length_set];exact cl,gc.set (hm _ (List.getElem_mem fl)),Nat.le_trans List.countP_le_length (by rw[List.length_set];omega)⟩
  ·clear G hpa4 hp4 cl gc hx4 g8
   obtain⟨h8a,⟨G,hpa4,cs,hp4,cl,gc,_⟩,u,v,w1,w2,w3,w4,w5,rfl⟩:=h
   walk_at "rd"
   exact q p cs _ G hpn hp4 cl gc
end
section
variable {P:Program} {w:World} {K:W.Frag} {mg:Str->Option Value} {base:Heap} {a:Ad}
theorem zEu {b xa r p:Addr} {S M way bs:Int} {ws:List Int} {os:List (Option Kd)} {cs:List Int} {u v:Option V} {H4:Hp} {Q:VK} (C:CR p r H4 cs os) (hx4:H4 xa=some (HO.lst (ws.map V.int))) (h8:S8 (cs.length:Int)) (l64:cs.length<=64) (hol:3*os.length<=2*cs.length) (nd2:(Qo os).Nodup) (gc:GoodC cs os) (wl:16<=ws.length) (wr:∀ x∈ws,(0:Int)<=x) (M0:0<=M) (M1:M<=64) (b0:0<=bs) (b1:bs < 10 ^ 12) (q:∀ H',Q (.bl true) H') :
  (fun x H1=>WO [x] H1 fun x_1 H1=>WO [V.ref r] H1 fun x_2 H1=>zB6 [x_1,x_2] H1 (fun x_3 H1=>Qz K [x_3,V.ty "bool"] H1 fun x_4 H1=>∃ c,x_4=V.bl c/\if c=false then Q (V.bl false) H1 else zAT [x,V.ref r] H1 (fun x_5 H1=>∃ c,x_5=V.bl c/\if c=false then ∃ b,x_3=V.bl b/\Q (V.bl (b == false)) H1 else (∃ xs,SqL K H1 r xs)/\W3 (Ite K r) (zBN K) (zD9 (tOp (fun x y H Q=>y=V.non/\Q (V.bl !decide (x=V.non)) H) (Q1 1) (tC V.non))) (Q1 0) 2 [] (fun ys H2=>∀ (p:Addr),H2 p=none->(∃ xs,SqL K (upd H2 p (HO.lst ys)) p xs)/\zAE (Itl K p) zDY (WR Z8 [] E0 (Qt (Q1 1) (Qt (Q1 2) (Qt (tOp ixC (Q1 2) (Q1 0)) (Qt (Q1 0) zAN))))) [some x,some (V.ref r)] (fun ys H2=>∀ (p_1:Addr),H2 p_1=none->zGy K [V.ref p_1] (upd H2 p_1 (HO.lst ys)) fun y H2=>rNe x_3 y H2 fun x_6 H'=>∃ k,x_6=V.bl k/\if k=true then Q (V.bl false) H' else ∃ b_1,x_3=V.bl b_1/\if (b_1 == false)=true then Q (V.bl true) H' else zBh (Itr 0 4) (YW 12) (zFe (Wy (WR zB8 [] E0 (Qt (Q1 3) (Qt (Q1 4) (Qt (tOp (rI (fun x j=>0 < j) fun i j=>V.int (i % j)) (tOp (rI zGx fun i j=>V.int (i / j)) (tOp ixC (Q1 5) (tOp (rI0 fun i j=>V.int (i+j)) (tC (V.int 4)) (Q1 12))) (tC (V.int 32))) (tOp (rI0 fun i j=>V.int (i+j)) (tOp (rI CMul fun i j=>V.int (i*j)) (tC (V.int 2)) (Q1 2)) (tC (V.int 2)))) zAN)))) (YW 8)) (zFe (Wy (WR zEk [] E0 (Qt (Q1 6) (Qt (Q1 8) zAN))) (YW 13)) (zGf (tOr (zFq (tB (WR Z8 [] E0 (Qt (Q1 9) (Qt (Q1 6) (Qt (Q1 8) (Qt (Q1 13) zAN))))))) (zFq (tB (WR Wq [] E0 (Qt (Q1 9) (Qt (Q1 6) (Qt (Q1 8) (Qt (Q1 13) zAN)))))))) (zDs (tC (V.bl false))) zEY))) { nx:=zDs (tCB (zGy K) (Qt (Wv (zFA K (Q1 11)) [9,6] zDY (WR Wq [] E0 (Qt (Q1 1) (Qt (Q1 2) (Qt (tOp ixC (Q1 2) (Q1 0)) (Qt (Q1 0) zAN)))))) zAN)) { nx:=fun x H'=>Q V.non H',rt:=Q },rt:=Q } [some (V.ref b),some (V.int S),some (V.int M),some (V.int way),some (V.int bs),some (V.ref xa),some (V.ref r),u,v,some x,some x_3,some (V.ref p),none,none] H') (upd H2 p (HO.lst ys))) H1) E0) E0) (V.ref p) H4:=by
 obtain⟨xs,hrw,hos⟩:=C.hr
 have xl:=hos.len
 have r8:=h8.range
 have n0:0 < cs.length:=by omega
 have hg:=zF1 gc C.sh
 show WO [V.ref p] _ _
 rw[YO C.hp]
 intro c1 hc1
 have g1:=QE (o:=HO.lst (cs.map V.int)) hc1
 show WO [V.ref r] _ _
 rw[YO (g1 _ _ hrw)]
 intro r4 hr4
 have g2:=QE (o:=HO.lst xs) hr4
 have g12:=g1.trans g2
 refine⟨c1,r4,cs,xs,os,rfl,g2 _ _ QH,QH,hos.same g12.tups,C.sh,by omega,Nat.le_trans Jw l64,fun H5 told g5 ht=>?_⟩
 have G5:=g12.trans g5
 walk_at "rd"
 refine⟨p,r,cs,os,rfl,C.same G5,by omega,fun H6 on g6 ho=>⟨on,rfl,?_⟩⟩
 have G6:=G5.trans g6
 cases on with
 | false =>
  rw[if_pos rfl]
  cases told with
  | false=>exact q _
  | true =>
   have:=ho.mpr (zDt (ht.mp rfl))
   cases this
 | true =>
  have O:=ho.mp rfl
  have pm:=J1 gc O
  have few:=zDr gc O
  have ta:told=true ↔ zFO cs os:=ht.trans ⟨fun h=>h.2.2.2,fun h=>⟨⟨h8,by omega,by rw[Y4];have:=O.2;omega⟩,nd2,pm,h⟩⟩
  rw[if_neg (by decide)]
  refine⟨⟨_,SqL.of (G6 _ _ hrw)⟩,JX (xs:=xs) (Nat.le_of_lt (Qd (by omega))) (fun i zs H'=>Same H4 H'/\zs=(plc os i).map V.int) ⟨G6,rfl⟩ (fun i zs H' hi h=>⟨SqL.of (h.1 _ _ hrw),by rw[h.2,List.length_map];exact YX⟩) (fun i x t zs H' e h hp=>?_) (fun zs H' h=>?_)⟩
  ·obtain⟨g,rfl⟩:=h
   obtain⟨o,e1,e2⟩:=hos.get e
   have gt:=QE (o:=HO.tup [V.int (i:Nat),x]) hp
   walk_at "rd"
   rw[Zy e1]
   cases o with
   | none =>
    rw[if_neg (fun z=>z e2)]
    exact⟨g.trans gt,rfl⟩
   | some k =>
    rw[if_pos (of_decide_eq_false e2.non)]
    exact⟨g.trans gt,by rw[if_neg (by simp),List.map_append];rfl⟩
  obtain⟨g7,rfl⟩:=h
  rw[xl]
  intro pt hpt
  have gp:=QE (o:=HO.lst ((plc os os.length).map V.int)) hpt
  have G7:=g7.trans gp
  have hpl:upd H' pt (HO.lst ((plc os os.length).map V.int)) pt=some (HO.lst ((plc os os.length).map V.int)):=QH
  generalize upd H' pt (HO.lst ((plc os os.length).map V.int))=H7 at G7 hpl ⊢
  have at1:∀ {v:Nat} {k:Kd} {H8:Hp} {y:V},Same H7 H8->os[v]? = some (some k)->xs[v]? = some y->IsK H8 k y:=fun {v k H8 y} g hk ey=>by
   obtain⟨y',ey',hy'⟩:=hos.get' hk
   rw[ey] at ey'
   cases ey'
   exact IsK.same (G7.trans g).tups hy'
  have cut:∀ {i:Nat} {x:V},((plc os os.length).map V.int)[i]? = some x->∃ (v:Nat) (k:Kd) (y:V),x=V.int (v:Int)/\(plc os os.length)[i]? = some (v:Int)/\os[v]? = some (some k)/\xs[v]? = some y/\k.deep<=3:=fun {i x} e=>by
   rw[List.getElem?_map] at e
   cases ev:(plc os os.length)[i]? with
   | none=>rw[ev] at e;cases e
   | some v0 =>
    rw[ev] at e
    cases e
    obtain⟨v,k,rfl,hv,hk⟩:=plc_iff.mp (List.mem_of_getElem? ev)
    obtain⟨y,ey,hy⟩:=hos.get' hk
    exact⟨v,k,y,rfl,rfl,hk,ey,C.sh _ (List.mem_of_getElem? hk)⟩
  refine⟨⟨_,SqL.of hpl⟩,YS (xs:=(plc os os.length).map V.int) (fun i ys H'=>Same H7 H'/\∃ bs:List Bool,ys=bs.map V.bl/\bs.length=i/\zBk cs os bs) ⟨Same.refl _,[],rfl,rfl,fun j b h=>absurd h (by rw[List.getElem?_nil];exact fun z=>nomatch z)⟩ (fun _ _ _ _ h=>SqL.of (h.1 _ _ hpl)) (fun i ys H' hi h=>?_) (fun i x ys H' e h=>?_) (fun ys H' h=>?_)⟩
  ·obtain⟨_,bs,rfl,hb,_⟩:=h
   rw[List.length_map] at hi ⊢
   have:=YX (os:=os) (i:=os.length)
   exact Qd (by omega)
  ·obtain⟨g,bs,rfl,hb,hh⟩:=h
   obtain⟨v,k,y,rfl,ev,hk,ey,hd⟩:=cut e
   have G:=G7.trans g
   have vin:(v:Int)∈cs:=(heldL_mem.mp (pm.mem_iff.mpr (List.mem_of_getElem? ev))).1
   obtain⟨c0,c1,c2⟩:=Z2 (m:=k.st) h8.p2 vin
   obtain⟨c,hc⟩:=Yt (P:=fun c=>YK os k (cAt cs k.st c)) ⟨c0,c1,.inr (by rw[c2];exact⟨by omega,by rw[Int.toNat_natCast];exact hk⟩)⟩
   walk_at "rd"
   rw[Qe (G _ _ hrw) (Qn ey)]
   refine⟨p,r,cs,os,y,_,k,c,some v,rfl,C.same G,n0,by omega,hg,at1 g hk ey,hd,hc,.inr ⟨v,rfl,rfl⟩,fun H2 b2 g2 hb2=>?_⟩
   have fnd:Fnd cs os k v ↔ cAt cs k.st c=(v:Int):=⟨fun ⟨d,hd,e⟩=>by rw[hc.uniq hd];exact e,fun e=>⟨c,hc,e⟩⟩
   refine⟨g.trans g2,bs++[b2],by rw[List.map_append];rfl,by rw[List.length_append,hb];rfl,fun j b3 hj=>?_⟩
   by_cases jl:j < bs.length
   ·rw[List.getElem?_append_left jl] at hj
    exact hh j b3 hj
   ·have je:j=bs.length:=by
     have:=(List.getElem?_eq_some_iff.mp hj).1
     rw[List.length_append] at this
     simp at this
     omega
    subst je
    rw[List.getElem?_append_right (Nat.le_refl _)] at hj
    simp at hj
    subst hj
    exact⟨v,k,by rw[hb];exact ev,hk,hb2.trans fnd.symm⟩
  obtain⟨g8,bs2,rfl,hb,hh⟩:=h
  rw[List.length_map] at hb
  intro pa hpa
  have ga:=QE (o:=HO.lst (bs2.map V.bl)) hpa
  have all:bs2.all id=told:=by
   rw[Bool.eq_iff_iff,ta,List.all_eq_true]
   constructor
   ·intro h pq k hk
    have hv:=(List.getElem?_eq_some_iff.mp hk).1
    obtain⟨j,hj⟩:=List.getElem?_of_mem (plc_iff.mpr ⟨pq,k,rfl,hv,hk⟩)
    have jl:j < bs2.length:=by rw[hb];exact (List.getElem?_eq_some_iff.mp hj).1
    obtain⟨v,k',e1,e2,e3⟩:=hh j bs2[j] (List.getElem?_eq_getElem jl)
    rw[hj] at e1
    have ev:pq=v:=by have:=Option.some.inj e1;omega
    subst ev
    rw[hk] at e2
    cases e2
    exact e3.mp (h _ (List.getElem_mem jl))
   ·intro h b hbm
    obtain⟨j,hj⟩:=List.getElem?_of_mem hbm
    obtain⟨v,k',e1,e2,e3⟩:=hh j b hj
    exact e3.mpr (h v k' e2)
  have G8:=g8.trans ga
  refine⟨pa,bs2,rfl,SqL.of QH,?_⟩
  rw[all]
  show rNe (V.bl told) (V.bl told) _ _
  rw[zDw,decide_eq_true rfl]
  refine⟨_,rfl,?_⟩
  rw[if_neg (by decide)]
  generalize upd H' pa (HO.lst (bs2.map V.bl))=H8 at G8 ⊢
  cases told with
  | false =>
   rw[if_pos (show (false == false)=true from rfl)]
   exact q _
  | true =>
   have AF:=ta.mp rfl
   rw[if_neg (by decide)]
   have wat:∀ j:Nat,j < 16->∃ y,atI (ws.map V.int) (j:Int)=some (V.int y)/\0<=y:=fun j hj=>by
    have hj2:j < ws.length:=by omega
    exact⟨ws[j],Qn (by rw[List.getElem?_map,List.getElem?_eq_getElem hj2];rfl),wr _ (List.getElem_mem hj2)⟩
   refine YV (fun i σ H'=>Same H8 H'/\∃ u v w z,σ=[some (V.ref b),some (V.int S),some (V.int M),some (V.int way),some (V.int bs),some (V.ref xa),some (V.ref r),u,v,some (V.ref p),some (V.bl true),some (V.ref pt),w,z]) ⟨Same.refl _,_,_,none,none,rfl⟩ (fun i σ H9 hi h=>?_) (fun σ H9 h=>?_)
   ·obtain⟨g9,u2,v2,w2,z2,rfl⟩:=h
    have G9:=G7.trans (G8.trans g9)
    obtain⟨y,ay,y0⟩:=wat (4+i) (by omega)
    have e4:((4+i:Nat):Int)=4+(0+(i:Int)):=by omega
    rw[e4] at ay
    have t0:=Int.emod_nonneg (y / 32) (show 2*M+2 ≠ 0 by omega)
    have t1:=Int.emod_lt_of_pos (y / 32) (show 0 < 2*M+2 by omega)
    walk_at "rd"
    rw[Qe (G9 _ _ hx4) ay]
    refine⟨_,rfl,.inl ⟨by decide,by decide⟩,by omega,_,_,_,rfl,b0,b1,t0,by omega,fun x k H10 g10 hk hd=>?_⟩
    have G10:=G9.trans g10
    refine⟨r,xs,os,x,k,rfl,G10 _ _ hrw,hos.same G10.tups,C.sh,hk,fun H11 v o g11 hv how=>?_⟩
    have G11:=G10.trans g11
    obtain⟨c,hc,hf,he⟩:=zAC h8 (by omega) AF how
    refine⟨p,r,cs,os,x,v,k,c,o,rfl,C.same G11,n0,by omega,hg,IsK.same g11.tups hk,hd,hc,hv,fun H12 b2 g12 hb2=>⟨b2,rfl,?_⟩⟩
    have G12:=G11.trans g12
    rw[hb2.mpr hf,if_neg (by decide)]
    refine⟨p,r,cs,os,x,v,k,c,o,rfl,C.same G12,n0,by omega,hg,IsK.same (g11.trans g12).tups hk,hd,hc,hv,hf,he,fun H13 g13=>⟨true,rfl,?_⟩⟩
    rw[if_neg (by decide)]
    exact g9.trans (g10.trans (g11.trans (g12.trans g13)))
   ·obtain⟨g9,u2,v2,w2,z2,rfl⟩:=h
    have g89:=G8.trans g9
    have G9:=G7.trans g89
    have hpl9:=g89 _ _ hpl
    walk_at "rd"
    refine⟨⟨_,SqL.of hpl9⟩,YS (xs:=(plc os os.length).map V.int) (fun i ys H'=>Same H9 H'/\ys=(List.replicate i true).map V.bl) ⟨Same.refl _,rfl⟩ (fun _ _ _ _ h=>SqL.of (h.1 _ _ hpl9)) (fun i ys H' hi h=>?_) (fun i x ys H' e h=>?_) (fun ys H' h=>?_)⟩
    ·obtain⟨_,rfl⟩:=h
     rw[List.length_map] at hi
     rw[List.length_map,List.length_replicate]
     have:=YX (os:=os) (i:=os.length)
     exact Qd (by omega)
    ·obtain⟨g,rfl⟩:=h
     obtain⟨v,k,y,rfl,ev,hk,ey,hd⟩:=cut e
     have G:=G9.trans g
     obtain⟨c,hc,hf,he⟩:=zAC h8 (by omega) AF (show OwV os k (some v) from hk)
     walk_at "rd"
     rw[Qe (G _ _ hrw) (Qn ey)]
     refine⟨p,r,cs,os,y,_,k,c,some v,rfl,C.same G,n0,by omega,hg,at1 (g89.trans g) hk ey,hd,hc,.inr ⟨v,rfl,rfl⟩,hf,he,fun H13 g13=>⟨g.trans g13,?_⟩⟩
     rw[List.map_replicate]
     exact List.replicate_succ'.symm.trans List.replicate_succ
    ·obtain⟨g,rfl⟩:=h
     intro pz hpz
     refine⟨pz,List.replicate _ true,rfl,SqL.of QH,?_⟩
     rw[show (List.replicate ((plc os os.length).map V.int).length true).all id=true by rw[List.all_eq_true];exact fun b hb=>List.eq_of_mem_replicate hb]
     exact q _
end
section
variable {P:Program} {w:World} {K:W.Frag} {mg:Str->Option Value} {base:Heap} {a:Ad}
theorem zH0 (T:Txt K mg a)(G_Lcell_at:FnOk P w K mg base CX0 1 a.f_Lcell_at a.d_Lcell_at Yx (zBo K))(G_Lstream:FnOk P w K mg base CX0 2 a.f_Lstream a.d_Lstream WK (zA7 K))(G_Lkey:FnOk P w K mg base CX0 5 a.f_Lkey a.d_Lkey zB5 zB8)(G_Ldrawn:FnOk P w K mg base CX0 6 a.f_Ldrawn a.d_Ldrawn JF zCz)(G_Leach_once:FnOk P w K mg base CX0 1 a.f_Leach_once a.d_Leach_once Ys zAT)(G_Lfound:FnOk P w K mg base CX0 11 a.f_Lfound a.d_Lfound Wz Z8)(G_Lpaper_ends:FnOk P w K mg base CX0 10 a.f_Lpaper_ends a.d_Lpaper_ends Ya Wq)(G_Lown:FnOk P w K mg base CX0 1 a.f_Lown a.d_Lown zCI zEk)(G_in_form:FnOk P w K mg base CX0 12 a.f_in_form a.d_in_form WC zB6):FnOk P w K mg base CX0 13 a.f_law a.d_law zEt (zBC K):=by
 refine T.F_law.ok sc_law (fun vs H Q E h=>?_) (fun cdv A outer s H vs Q E hr h=>?_)
 ·obtain⟨b,ns,rfl,_⟩:=h
  rfl
 have nd:=sc_law.nd
 obtain⟨b,ns,rfl,hS,h63,q⟩:=h
 refine⟨_,(QC (QP (i:=1) nd rfl (Or.inl rfl) (QF zGX QB (QF QR (QK (G_Lcell_at.mono (by decide)) hr rfl T.m_Lcell_at T.F_Lcell_at.kp T.b_Lcell_at .nil QU (QA (pv 0) (QA QB QD))) QB)))
 (QC (QX (QS Qw (QF QR (QF QV (QK (G_Lcell_at.mono (by decide)) hr rfl T.m_Lcell_at T.F_Lcell_at.kp T.b_Lcell_at .nil QU (QA (pv 0) (QA QB QD))) QB) QB) QB (QN _)) (QG (QP (i:=1) nd rfl (Or.inl rfl) (QF Qh (pv 1) QB))) QT)
 (QC (QP (i:=2) nd rfl (Or.inl rfl) (QF QR (QK (G_Lcell_at.mono (by decide)) hr rfl T.m_Lcell_at T.F_Lcell_at.kp T.b_Lcell_at .nil QU (QA (pv 0) (QA QB QD))) (QF QZ (QF QV (QF Qh QB (pv 1)) QB) QB)))
 (QC (QP (i:=3) nd rfl (Or.inl rfl) (QF QR (QK (G_Lcell_at.mono (by decide)) hr rfl T.m_Lcell_at T.F_Lcell_at.kp T.b_Lcell_at .nil QU (QA (pv 0) (QA QB QD))) QB))
 (QC (QP (i:=4) nd rfl (Or.inl rfl) (QF QR (QF QV (QK (G_Lcell_at.mono (by decide)) hr rfl T.m_Lcell_at T.F_Lcell_at.kp T.b_Lcell_at .nil QU (QA (pv 0) (QA QB QD))) QB) (QF Y2 QB QB)))
 (QC (QP (i:=5) nd rfl (Or.inl rfl) (QK (G_Lstream.mono (by decide)) hr rfl T.m_Lstream T.F_Lstream.kp T.b_Lstream .nil QU (QA (Ym Wb (pv 0) (Y1 QB) Z5) (QA (QF QZ QB (pv 2)) QD))))
 (QC (QP (i:=6) nd rfl (Or.inr rfl) (Za QD))
 (QC (Q3 PassesOwn.never rfl (YM (Ym Wb (pv 5) (Y1 QB) Z5)) (Qg (i:=7) nd rfl (Or.inl rfl)) (QC (QP (i:=8) nd rfl (Or.inl rfl) (QK (G_Lkey.mono (by decide)) hr rfl T.m_Lkey T.F_Lkey.kp T.b_Lkey .nil QU (QA (pv 3) (QA (pv 4) (QA (QF QR (QF QV (pv 7) QB) (QF Qh QB (pv 2))) QD)))))
 (QG (QX (PW.pt (zEU (QS Qw (QF QR (pv 7) QB) QB (QN _)) (zCH (QS (zG2 hr.units) (pv 8) (pv 6) (by with_unfolding_all rfl))))) (QG (Wk (ZW PySem.F.plainAttrs_list PySem.F.slot_list_append PySem.F.type_list_append Wf (pv 6) (QA Q7 QD)))) (QG (Wk (ZW PySem.F.plainAttrs_list PySem.F.slot_list_append PySem.F.type_list_append Wf (pv 6) (QA (pv 8) QD))))))))
 (QC (QP (i:=9) nd rfl (Or.inr rfl) (QK (G_Ldrawn.mono (by decide)) hr rfl T.m_Ldrawn T.F_Ldrawn.kp T.b_Ldrawn .nil QU (QA (pv 5) (QA (pv 6) (QA (pv 1) QD)))))
 (QC (QP (i:=10) nd rfl (Or.inl rfl) (QK (G_in_form.mono (by decide)) hr rfl T.m_in_form T.F_in_form.kp T.b_in_form .nil QU (QA (Qr YE rfl T.z_list boot_list (QA (pv 9) QD)) (QA (Qr YE rfl T.z_list boot_list (QA (pv 6) QD)) QD))))
 (QC (QX (Ws (Qy (QL Qf rfl T.z_isinstance boot_isinstance (QA (pv 10) (QA (Qm (v:=.ty "bool") rfl T.z_bool boot_bool rfl) QD))))) (QG (QM WP)) QT)
 (QC (QX (Ws (Qy (QK (G_Leach_once.mono (by decide)) hr rfl T.m_Leach_once T.F_Leach_once.kp T.b_Leach_once .nil QU (QA (pv 9) (QA (pv 6) QD))))) (QG (QM (Qj zC4 (pv 10) WP (QN _)))) QT)
 (QC (zDG (i:=11) nd rfl (Or.inl rfl) "_law_place" "_law_key_here" [] [] rfl ⟨rfl,rfl,by decide +kernel,by decide +kernel,by decide +kernel,by decide +kernel,rfl,by decide +kernel⟩ rfl rfl rfl (Wj rfl rfl T.z_enumerate (pv 6)) (fun C s1 H1 fp=>(QS ZE (pv 1) Q7 (QN _))) (fun C s1 H1 fp=>(pv 0)))
 (QC (QX (QS JB (pv 10) (QL (JU rfl) rfl T.z_all boot_all (QA (zAj "_law_place" ["_law_cells", "_law_row"] [9,6] rfl ⟨rfl,rfl,by decide +kernel,by decide +kernel,rfl,by decide +kernel,by decide +kernel,rfl,by decide +kernel⟩ rfl (YM (pv 11)) (fun C s1 H1 fp=>(QK (G_Lfound.mono (by decide)) hr rfl T.m_Lfound T.F_Lfound.kp T.b_Lfound .nil QU (QA (pv 1) (QA (pv 2) (QA (Qp YL (pv 2) (pv 0) (fun _ _=>rfl)) (QA (pv 0) QD))))))) QD)) (QN _)) (QG (QM WP)) QT)
 (QC (QX (QS zC4 (pv 10) WP (QN _)) (QG (QM WP)) QT)
 (QC (Q3 PassesOwn.never rfl (YG rfl T.z_range (QA QB QD)) (Qg (i:=12) nd rfl (Or.inl rfl)) (QC (QP (i:=8) nd rfl (Or.inl rfl) (QK (G_Lkey.mono (by decide)) hr rfl T.m_Lkey T.F_Lkey.kp T.b_Lkey .nil QU (QA (pv 3) (QA (pv 4) (QA (QF QR (QF QV (Qp YL (pv 5) (QF QZ QB (pv 12)) (fun _ _=>rfl)) QB) (QF QZ (QF Qh QB (pv 2)) QB)) QD)))))
 (QC (QP (i:=13) nd rfl (Or.inl rfl) (QK (G_Lown.mono (by decide)) hr rfl T.m_Lown T.F_Lown.kp T.b_Lown .nil QU (QA (pv 6) (QA (pv 8) QD))))
 (QG (QX (PW.pt (zEU (Ws (Qy (QK (G_Lfound.mono (by decide)) hr rfl T.m_Lfound T.F_Lfound.kp T.b_Lfound .nil QU (QA (pv 9) (QA (pv 6) (QA (pv 8) (QA (pv 13) QD))))))) (zCH (Ws (Qy (QK (G_Lpaper_ends.mono (by decide)) hr rfl T.m_Lpaper_ends T.F_Lpaper_ends.kp T.b_Lpaper_ends .nil QU (QA (pv 9) (QA (pv 6) (QA (pv 8) (QA (pv 13) QD)))))))))) (QG (QM WP)) QT)))))
 (QG (QM (QL (JU rfl) rfl T.z_all boot_all (QA (zAj "_law_place" ["_law_cells", "_law_row"] [9,6] rfl ⟨rfl,rfl,by decide +kernel,by decide +kernel,rfl,by decide +kernel,by decide +kernel,rfl,by decide +kernel⟩ rfl (YM (pv 11)) (fun C s1 H1 fp=>(QK (G_Lpaper_ends.mono (by decide)) hr rfl T.m_Lpaper_ends T.F_Lpaper_ends.kp T.b_Lpaper_ends .nil QU (QA (pv 1) (QA (pv 2) (QA (Qp YL (pv 2) (pv 0) (fun _ _=>rfl)) (QA (pv 0) QD))))))) QD)))))))))))))))))))),?_⟩
 walk_at "rd"
 refine⟨b,ns,0,rfl,hS,by decide,?_⟩
 have e5:(YA ns 0 % 2).toNat<=1:=by omega
 have hS8:S8 (8*2 ^ (YA ns 0 % 2).toNat)/\S8 (8*2 ^ (YA ns 0 % 2).toNat*4)/\(8:Int)*2 ^ (YA ns 0 % 2).toNat<=16:=by
  generalize (YA ns 0 % 2).toNat=z at e5
  match z,e5 with
  | 0,_=>decide
  | 1,_=>decide
 refine⟨_,rfl,⟨by omega,by omega,by decide⟩,?_⟩
 generalize (8:Int)*2 ^ (YA ns 0 % 2).toNat=S0 at hS8 ⊢
 obtain⟨z1,z2,z3⟩:=hS8
 have q1:=z1.range
 have q2:=z2.range
 refine⟨b,ns,0,rfl,hS,by decide,_,rfl,Q8 (fun w4=>⟨.inr ⟨by decide,by decide⟩,?_⟩) (fun _=>?_)⟩
 all_goals first
  | (have w5:=w4
     have h8:=z2
     have h64:S0*4<=64:=by omega
     generalize S0*4=S at h8 h64 ⊢)
  | (have h8:=z1
     have h64:S0<=64:=by omega
     clear z1 z2 z3 q1 q2
     generalize S0=S at h8 h64 ⊢)
 all_goals
  have r8:=h8.range
  refine⟨b,ns,1,rfl,hS,by decide,.inl ⟨by decide,by decide⟩,_,rfl,by omega,?_⟩
  have j0:=Int.emod_nonneg (YA ns 1) (show 2*S / 3+1 ≠ 0 by omega)
  have j1:=Int.emod_lt_of_pos (YA ns 1) (show 0 < 2*S / 3+1 by omega)
  generalize YA ns 1 % (2*S / 3+1)=M at j0 j1 ⊢
  refine⟨b,ns,2,rfl,hS,by decide,_,rfl,b,ns,2,rfl,hS,by decide,_,rfl,b,_,rfl,hS,fun r1 hr1=>?_⟩
  have b0:0<=YA ns 2 / 5 % 1000000000000:=by omega
  have b1:YA ns 2 / 5 % 1000000000000 < 10 ^ 12:=by omega
  generalize YA ns 2 / 5 % 1000000000000=bs at b0 b1 ⊢
  generalize YA ns 2 % 5=way
  obtain⟨c3s,ec3,_,_⟩:=zCo (ns:=ns) (lo:=some 3) (hi:=none)
  rw[ec3]
  have g1:=QE (o:=HO.lst (c3s.map V.int)) hr1
  refine⟨r1,c3s,_,rfl,SqL.of QH,by omega,by omega,fun xa ws hxa wl wr=>?_⟩
  have g2:=QE (o:=HO.lst (ws.map V.int)) hxa
  refine⟨by decide,fun r hr0=>?_⟩
  have g3:=QE (o:=HO.lst []) hr0
  have hx3:=g3 _ _ (QH (H:=upd H r1 (HO.lst (c3s.map V.int))) (a:=xa) (o:=HO.lst (ws.map V.int)))
  have nx:xa ≠ r:=QO QH hr0
  have hrn:=(g1.trans g2).free hr0
  have hr3:upd (upd (upd H r1 (HO.lst (c3s.map V.int))) xa (HO.lst (ws.map V.int))) r (HO.lst []) r=some (HO.lst []):=QH
  have G3:=g1.trans (g2.trans g3)
  generalize upd (upd (upd H r1 (HO.lst (c3s.map V.int))) xa (HO.lst (ws.map V.int))) r (HO.lst [])=H3 at hx3 hr3 G3 ⊢
  clear g1 g2 g3 hr1 hxa hr0
  refine⟨xa,_,rfl,SqL.of hx3,fun r2 hr2=>?_⟩
  rw[show (some (16:Int))=some ((16:Nat):Int) from rfl,zCy,← List.map_drop]
  have g6:=QE (o:=HO.lst ((ws.drop 16).map V.int)) hr2
  have n2r:r2 ≠ r:=(QO hr3 hr2).symm
  refine⟨r2,rfl,⟨_,SqL.of QH⟩,ZJ (xs:=(ws.drop 16).map V.int) (fun i σ H'=>Same H H'/\H' xa=some (HO.lst (ws.map V.int))/\H' r2=some (HO.lst ((ws.drop 16).map V.int))/\RwI H' r i/\∃ u v,σ=[some (V.ref b),some (V.int S),some (V.int M),some (V.int way),some (V.int bs),some (V.ref xa),some (V.ref r),u,v,none,none,none,none,none]) ⟨G3.trans g6,g6 _ _ hx3,QH,⟨[],[],g6 _ _ hr3,IsKos.nil,rfl,fun o ho=>absurd ho List.not_mem_nil,List.nodup_nil⟩,none,none,rfl⟩ (fun _ _ _ _ h=>SqL.of h.2.2.1) (fun i x σ H' e h=>?_) (fun σ H' h=>?_)⟩
  ·obtain⟨G,hx,h2,⟨ys,os,hy,hoy,ol,osh,nd2⟩,u,v,rfl⟩:=h
   obtain⟨n,hn,rfl⟩:=List.mem_map.mp (List.mem_of_getElem? e)
   have il:i < M:=by
    have:=(List.getElem?_eq_some_iff.mp e).1
    rw[List.length_map,List.length_drop] at this
    omega
   have n0:=(wr n (List.mem_of_mem_drop hn)).1
   have t0:=Int.emod_nonneg (n / 8) (show 2*M ≠ 0 by omega)
   have t1:=Int.emod_lt_of_pos (n / 8) (show 0 < 2*M by omega)
   walk_at "rd"
   refine⟨.inl ⟨by decide,by decide⟩,by omega,_,_,_,rfl,b0,b1,t0,by omega,fun v k H6 g hk hd=>?_⟩
   have hy6:=g _ _ hy
   have ho6:=hoy.same g.tups
   have add:∀ o z,IsKo H6 o z->YJ 3 o->(Qo (os++[o])).Nodup->tyV K "list" (V.ref r) H6/\zGi (V.ref r) [z] H6 fun x H1=>Same H H1/\H1 xa=some (HO.lst (ws.map V.int))/\H1 r2=some (HO.lst ((ws.drop 16).map V.int))/\RwI H1 r (i+1):=fun o z hz ho nn=>by
    refine⟨.inl ⟨rfl,_,SqL.of hy6⟩,?_⟩
    rw[W6 hy6]
    have tb:=Zf (o:=HO.lst (ys++[z])) hy6
    refine⟨by rw[hoy.len];exact Qd (by omega),(G.trans g).upd hrn,by rw[QQ nx];exact g _ _ hx,by rw[QQ n2r];exact g _ _ h2,ys++[z],os++[o],QH,(ho6.snoc hz).same tb,by rw[List.length_append,ol];rfl,fun o' ho'=>?_,nn⟩
    rcases List.mem_append.mp ho' with y | y
    ·exact osh o' y
    ·rw[List.mem_singleton.mp y];exact ho
   have nn0:(Qo (os++[none])).Nodup:=by rw[WV,List.append_nil];exact nd2
   refine Q8 (fun _=>add none _ rfl True.intro nn0) (fun _=>?_)
   refine⟨r,ys,os,some k,rfl,SqL.of hy6,ho6,hk,fun o ho=>shal_mono (osh o ho),_,rfl,?_⟩
   show (if decide (some k∈os)=true then _ else _)
   refine Q8 (fun _=>add none _ rfl True.intro nn0) (fun z=>add (some k) _ hk hd ?_)
   rw[WV]
   refine List.nodup_append.mpr ⟨nd2,by simp,fun a ha b hb e=>z (decide_eq_true ?_)⟩
   rw[List.mem_singleton.mp hb] at e
   rw[← e]
   exact keysOf_mem.mp ha
  obtain⟨G,hx,h2,⟨ys,os,hy,hoy,ol,osh,nd2⟩,u,v,rfl⟩:=h
  rw[List.length_map,List.length_drop] at ol
  walk_at "rd"
  refine⟨xa,r,ws,ys,os,S,rfl,hx,hy,hoy,osh,h8,h64,by omega,by omega,fun x hx=>(wr x hx).1,fun p cs H4 g4 hpn hp4 cl gc=>?_⟩
  have C:CR p r H4 cs os:=⟨hp4,⟨ys,g4 _ _ hy,hoy.same g4.tups⟩,(QO hy hpn).symm,osh⟩
  have hx4:=g4 _ _ hx
  exact zEu C hx4 (by rw[cl];exact h8) (by omega) (by omega) nd2 gc (by omega) (fun x hx=>(wr x hx).1) j0 (by omega) b0 b1 q
end
section
variable {P:Program} {w:World} {K:W.Frag} {mg:Str->Option Value} {base:Heap} {a:Ad}
theorem zG4 (T:Txt K mg a):FnOk P w K mg base CX0 13 a.f_law a.d_law zEt (zBC K) :=
 have c:=zAy T
 have tx:=zE6 T
 have pb:=zEw T (zDk T)
 have an:=zBL T tx (zEW T tx)
 have ky:=zFM T tx (Zg T 0) an
 have pp:=zEC T (Zr T 3) pb (zDT T)
 have po:=zBH T pp
 have pk:=Zw T
 zH0 T c (zCJ T c) ky (zDQ T (Wx T (Zg T 3) (zEm T))) (JZ T) (zDX T (zDL T) po) (JC T pp) (zFn T)
  (zBe T (JV T (zBg T (zAW T)) (zF9 T)) (WY T) (ZP T pk) (Jl T pk po))
end
theorem zHu {us:List Value} (h:us.length=0):us=[]:=List.length_eq_zero_iff.mp h
theorem zHk {us:List Value} (h:us.length=1):∃ u0,us=[u0]:=match us,h with | [u0],_=>⟨u0,rfl⟩
theorem zHW {us:List Value} (h:us.length=2):∃ u0 u1,us=[u0,u1]:=match us,h with | [u0,u1],_=>⟨u0,u1,rfl⟩
theorem zHf {us:List Value} (h:us.length=3):∃ u0 u1 u2,us=[u0,u1,u2]:=match us,h with | [u0,u1,u2],_=>⟨u0,u1,u2,rfl⟩
theorem zHP {us:List Value} (h:us.length=4):∃ u0 u1 u2 u3,us=[u0,u1,u2,u3]:=match us,h with | [u0,u1,u2,u3],_=>⟨u0,u1,u2,u3,rfl⟩
theorem zHN {us:List Value} (h:us.length=5):∃ u0 u1 u2 u3 u4,us=[u0,u1,u2,u3,u4]:=match us,h with | [u0,u1,u2,u3,u4],_=>⟨u0,u1,u2,u3,u4,rfl⟩
theorem zHX {us:List Value} (h:us.length=6):∃ u0 u1 u2 u3 u4 u5,us=[u0,u1,u2,u3,u4,u5]:=match us,h with | [u0,u1,u2,u3,u4,u5],_=>⟨u0,u1,u2,u3,u4,u5,rfl⟩
theorem zHt {us:List Value} (h:us.length=7):∃ u0 u1 u2 u3 u4 u5 u6,us=[u0,u1,u2,u3,u4,u5,u6]:=match us,h with | [u0,u1,u2,u3,u4,u5,u6],_=>⟨u0,u1,u2,u3,u4,u5,u6,rfl⟩
structure FK (K:W.Frag) (f:Addr) (x q:Str) (st:Stmt) (df:Value) where
 {oc kV dc pm cd ct:Value}
 {od an:Option Addr}
 {sl:Array (Option Value)}
 l:K.lookup f=some ⟨oc,od,.func (W.fnOf x q (YN st) (YH st) (QJ st) df kV dc pm an cd ct),sl⟩
 c:W.codeIn K cd q=true
 k:W.keepIn K (.ref f)=true
section
variable {K:W.Frag} {f:Addr} {x q:Str} {st:Stmt}
abbrev FK.d {df:Value} (F:FK K f x q st df):FuncData:=W.fnOf x q (YN st) (YH st) (QJ st) df F.kV F.dc F.pm F.an F.cd F.ct
theorem FK.fn (F:FK K f x q st .none):Fun K x q st f F.d:=zHA F.l F.c F.k
end
structure FG (K:W.Frag) (f:Addr) (x:Str) (st:Stmt) extends FK K f x x st .none where
 a:W.nsIn K mainGlobals x=some (some (.ref f))
local macro_rules | `(tactic| walk_at "b0") => `(tactic| exact fun _ _ _ _ _ _ us hl => by have e := zHu hl; subst e; rfl)
local macro_rules | `(tactic| walk_at "b1") => `(tactic| exact fun _ _ _ _ _ _ us hl => by obtain ⟨u0, e⟩ := zHk hl; subst e; rfl)
local macro_rules | `(tactic| walk_at "b2") => `(tactic| exact fun _ _ _ _ _ _ us hl => by obtain ⟨u0, u1, e⟩ := zHW hl; subst e; rfl)
local macro_rules | `(tactic| walk_at "b3") => `(tactic| exact fun _ _ _ _ _ _ us hl => by obtain ⟨u0, u1, u2, e⟩ := zHf hl; subst e; rfl)
local macro_rules | `(tactic| walk_at "b4") => `(tactic| exact fun _ _ _ _ _ _ us hl => by obtain ⟨u0, u1, u2, u3, e⟩ := zHP hl; subst e; rfl)
local macro_rules | `(tactic| walk_at "b5") => `(tactic| exact fun _ _ _ _ _ _ us hl => by obtain ⟨u0, u1, u2, u3, u4, e⟩ := zHN hl; subst e; rfl)
local macro_rules | `(tactic| walk_at "b6") => `(tactic| exact fun _ _ _ _ _ _ us hl => by obtain ⟨u0, u1, u2, u3, u4, u5, e⟩ := zHX hl; subst e; rfl)
local macro_rules | `(tactic| walk_at "b7") => `(tactic| exact fun _ _ _ _ _ _ us hl => by obtain ⟨u0, u1, u2, u3, u4, u5, u6, e⟩ := zHt hl; subst e; rfl)
theorem zGv {K:W.Frag} {h:Heap} {mg:Str->Option Value} (X:K.In h) (G:h.Ns mainGlobals mg)
  {f0 f1 f2 f3 f4 f5 f6 f7 f8 f9 f10 f11 f12 f13 f14 f15 f16 f17 f18 f19 f20 f21 f22 f23 f24 f25 f26 f27 f28 f29 f30 f31 f32:Addr}
  (F0:FG K f0 "stride" JJ)
  (F1:FG K f1 "probe" zAm)
  (F2:FG K f2 "is_number" Y9)
  (F3:FG K f3 "is_size" WL)
  (F4:FG K f4 "room" zBp)
  (F5:FG K f5 "stamp" zAv)
  (F6:FG K f6 "text_stamp" Yo)
  (F7:FG K f7 "tuple_stamp" Yh)
  (F8:FG K f8 "paper" zAF)
  (F9:FG K f9 "is_end" JE)
  (F10:FG K f10 "place_of" Zi)
  (F11:FG K f11 "in_form" WB)
  (F12:FG K f12 "numbers_fit" YZ)
  (F13:FG K f13 "no_two_alike" YT)
  (F14:FG K f14 "each_in_one_cell" Q5)
  (F15:FG K f15 "each_found" Yv)
  (F16:FG K f16 "places_of_keys" YB)
  (F17:FG K f17 "_law_cell_at" Zj)
  (F18:FG K f18 "_law_whole" JI)
  (F19:FG K f19 "_law_stream" WA)
  (F20:FG K f20 "_law_text" zAU)
  (F21:FG K f21 "_law_stamp" W5)
  (F22:FG K f22 "_law_step" zAi)
  (F23:FG K f23 "_law_leaf" zAY)
  (F24:FG K f24 "_law_any_key" Zc)
  (F25:FG K f25 "_law_key" zBu)
  (F26:FG K f26 "_law_first_bare" Ye)
  (F27:FG K f27 "_law_each_once" Y0)
  (F28:FG K f28 "_law_found" W1)
  (F29:FG K f29 "_law_paper_ends" Yg)
  (F30:FG K f30 "_law_own" zB1)
  (F31:FG K f31 "_law_drawn" Wr)
  (F32:FG K f32 "law" Z9)
  (z_all:W.nsIn K mainGlobals "all" = some none)
  (z_bool:W.nsIn K mainGlobals "bool" = some none)
  (z_enumerate:W.nsIn K mainGlobals "enumerate" = some none)
  (z_int:W.nsIn K mainGlobals "int" = some none)
  (z_isinstance:W.nsIn K mainGlobals "isinstance" = some none)
  (z_len:W.nsIn K mainGlobals "len" = some none)
  (z_list:W.nsIn K mainGlobals "list" = some none)
  (z_ord:W.nsIn K mainGlobals "ord" = some none)
  (z_range:W.nsIn K mainGlobals "range" = some none)
  (z_set:W.nsIn K mainGlobals "set" = some none)
  (z_sorted:W.nsIn K mainGlobals "sorted" = some none)
  (z_str:W.nsIn K mainGlobals "str" = some none)
  (z_tuple:W.nsIn K mainGlobals "tuple" = some none)
  {t_EMPTY:Tok} (v_EMPTY:W.nsIn K mainGlobals "EMPTY" = some (some (.int (-1) (t_EMPTY+1))))
  {t_GONE:Tok} (v_GONE:W.nsIn K mainGlobals "GONE" = some (some (.int (-2) (t_GONE+1))))
  {t_GREATEST:Tok} (v_GREATEST:W.nsIn K mainGlobals "GREATEST" = some (some (.int 4096 (t_GREATEST+1))))
  {t_LEAST:Tok} (v_LEAST:W.nsIn K mainGlobals "LEAST" = some (some (.int 8 (t_LEAST+1))))
  {t_TURN:Tok} (v_TURN:W.nsIn K mainGlobals "TURN" = some (some (.int 2147483647 (t_TURN+1))))
  : ∃ a:Ad,Txt K mg a/\a.f_law=f32/\a.d_law=W.fnOf "law" "law" (YN Z9) (YH Z9) (QJ Z9) .none F32.kV F32.dc F32.pm F32.an F32.cd F32.ct:=by
 have m {n:Str} {v:Value} (e:W.nsIn K mainGlobals n=some (some v)):=PySem.W.mg_of X G e
 have z {n:Str} (e:W.nsIn K mainGlobals n=some none):=PySem.W.mg_none_of X G e
 exact⟨⟨f0,F0.d,f1,F1.d,f2,F2.d,f3,F3.d,f4,F4.d,f5,F5.d,f6,F6.d,f7,F7.d,f8,F8.d,f9,F9.d,f10,F10.d,f11,F11.d,f12,F12.d,f13,F13.d,f14,F14.d,f15,F15.d,f16,F16.d,f17,F17.d,f18,F18.d,f19,F19.d,f20,F20.d,f21,F21.d,f22,F22.d,f23,F23.d,f24,F24.d,f25,F25.d,f26,F26.d,f27,F27.d,f28,F28.d,f29,F29.d,f30,F30.d,f31,F31.d,f32,F32.d,t_EMPTY,t_GONE,t_GREATEST,t_LEAST,t_TURN⟩,⟨F0.fn,
  F0.fn.binds (by walk_at "b1"),
  m F0.a,
  F1.fn,
  F1.fn.binds (by walk_at "b3"),
  m F1.a,
  F2.fn,
  F2.fn.binds (by walk_at "b1"),
  m F2.a,
  F3.fn,
  F3.fn.binds (by walk_at "b1"),
  m F3.a,
  F4.fn,
  F4.fn.binds (by walk_at "b1"),
  m F4.a,
  F5.fn,
  F5.fn.binds (by walk_at "b1"),
  m F5.a,
  F6.fn,
  F6.fn.binds (by walk_at "b1"),
  m F6.a,
  F7.fn,
  F7.fn.binds (by walk_at "b1"),
  m F7.a,
  F8.fn,
  F8.fn.binds (by walk_at "b3"),
  m F8.a,
  F9.fn,
  F9.fn.binds (by walk_at "b3"),
  m F9.a,
  F10.fn,
  F10.fn.binds (by walk_at "b3"),
  m F10.a,
  F11.fn,
  F11.fn.binds (by walk_at "b2"),
  m F11.a,
  F12.fn,
  F12.fn.binds (by walk_at "b2"),
  m F12.a,
  F13.fn,
  F13.fn.binds (by walk_at "b1"),
  m F13.a,
  F14.fn,
  F14.fn.binds (by walk_at "b2"),
  m F14.a,
  F15.fn,
  F15.fn.binds (by walk_at "b2"),
  m F15.a,
  F16.fn,
  F16.fn.binds (by walk_at "b1"),
  m F16.a,
  F17.fn,
  F17.fn.binds (by walk_at "b2"),
  m F17.a,
  F18.fn,
  F18.fn.binds (by walk_at "b1"),
  m F18.a,
  F19.fn,
  F19.fn.binds (by walk_at "b2"),
  m F19.a,
  F20.fn,
  F20.fn.binds (by walk_at "b2"),
  m F20.a,
  F21.fn,
  F21.fn.binds (by walk_at "b1"),
  m F21.a,
  F22.fn,
  F22.fn.binds (by walk_at "b1"),
  m F22.a,
  F23.fn,
  F23.fn.binds (by walk_at "b1"),
  m F23.a,
  F24.fn,
  F24.fn.binds (by walk_at "b1"),
  m F24.a,
  F25.fn,
  F25.fn.binds (by walk_at "b3"),
  m F25.a,
  F26.fn,
  F26.fn.binds (by walk_at "b2"),
  m F26.a,
  F27.fn,
  F27.fn.binds (by walk_at "b2"),
  m F27.a,
  F28.fn,
  F28.fn.binds (by walk_at "b4"),
  m F28.a,
  F29.fn,
  F29.fn.binds (by walk_at "b4"),
  m F29.a,
  F30.fn,
  F30.fn.binds (by walk_at "b2"),
  m F30.a,
  F31.fn,
  F31.fn.binds (by walk_at "b3"),
  m F31.a,
  F32.fn,
  F32.fn.binds (by walk_at "b1"),
  m F32.a,
  z z_all,
  z z_bool,
  z z_enumerate,
  z z_int,
  z z_isinstance,
  z z_len,
  z z_list,
  z z_ord,
  z z_range,
  z z_set,
  z z_sorted,
  z z_str,
  z z_tuple,
  m v_EMPTY,
  m v_GONE,
  m v_GREATEST,
  m v_LEAST,
  m v_TURN⟩,rfl,rfl⟩
theorem zHK {l:PySem.W.OpenLaw} {w:World} {K:W.Frag} {h:Heap} {mg:Str->Option Value} {fa f_law:Addr} (X:K.In h) (G:h.Ns mainGlobals mg) (hfa:mg "law" = some (.ref fa)) {kV dc pm cd ct:Value} {an:Option Addr}
  (T:∃ a:Ad,Txt K mg a/\a.f_law=f_law/\a.d_law=W.fnOf "law" "law" (YN Z9) (YH Z9) (QJ Z9) .none kV dc pm an cd ct) :
  ∃ fd:FuncData,(∀ (s:Shared) (v:Value),BindsTo s fd ⟨[v],[]⟩ [("_law_script",v)])/\∀ base:Heap,K.In base->base.Ns mainGlobals mg->FnOk l.prog w K mg base CX0 13 fa fd ["_law_script"] (zBC K):=by
 obtain⟨a,T,e1,e2⟩:=T
 have e:=hfa.symm.trans T.m_law
 cases e
 refine⟨a.d_law,?_,fun base _ _=>zG4 T⟩
 rw[e2]
 exact fun s v=>.of_eq rfl
theorem zID {l:PySem.W.OpenLaw} {q:Program} {loose:List Str} {XP:(Str->Option Value)->Heap->Prop} {as₀:List Addr} {m t:Nat} {d:DefRec} {K:Params->W.Frag} (hn:l.most=some 63) (hdf:d.params.defaults=[])
  (eK:∀ P,as₀=(K P).map (·.1)) (ht:1<=t)
  (F:∀ (w:World) (mg:Str->Option Value) (fa:Addr) (h:Heap),(K w.params).In h->h.Ns mainGlobals mg->mg d.name=some (.ref fa) ->
   ∃ fd:FuncData,(∀ (s:Shared) (u:Value),BindsTo s fd ⟨[u],[]⟩ [("_law_script",u)])/\∀ base:Heap,(K w.params).In base->base.Ns mainGlobals mg->FnOk l.prog w (K w.params) mg base CX0 13 fa fd ["_law_script"] (zBC (K w.params))) :
  PySem.W.WalkX q loose XP (PySem.W.X.obsZ as₀) (PySem.W.X.valZ K m t) l.row.toRowW d [] (fun f vs=>PySem.call f vs) :=
 L2.zEM (n:=63) (k:=13) (x := "_law_script") (CX:=fun _=>CX0) (sp:=fun w=>zBC (K w.params)) hn (by decide) hdf ⟨rfl,by decide,by decide⟩ eK ht F (fun _ _ a ns hl _ _ hS=>⟨a,ns,rfl,hS,hl,fun _=>rfl⟩) fun _ _ _ _ _ z=>z
end My
-- names taken ahead, so that the head makes no second copy of these large constants (their proofs would take most of the compiled file; its limit is 64 MiB)
namespace PySem.W.Fast
def tw2786641099851813096:=()
def tw9826041385381297521:=()
def tw590835892906299989:=()
def tw7809609779324781877:=()
def tw17311996843309874577:=()
def tw6931515703332436358:=()
def tw10718859114173345691:=()
def tw10507632329371450134:=()
def tw4834754113272565218:=()
def tw6468985982855112804:=()
def tw4865184677666357447:=()
def tw8911784592274303217:=()
def tw9161998632643085220:=()
def tw16857854969376235992:=()
def tw7123139506998911224:=()
def tw930404394009110484:=()
def tw8172504466826718546:=()
def tw15833473353536410661:=()
def tw11357674346143961406:=()
def tw14841215104268741355:=()
def tw10005941184852961612:=()
def tw10803885620263773289:=()
def tw4463853543951363733:=()
def tw9318075189654421302:=()
def tw8912354863919627038:=()
def tw4246107326237353154:=()
def tw11223745173069970053:=()
def tw10785997260158161428:=()
def tw353693758242367934:=()
def tw11535626465061212793:=()
def tw9470611863747258284:=()
def tw12994296741628217973:=()
def tw3569851576825315902:=()
def tw2656101769546204443:=()
def tw1614127750648495803:=()
def tw5744238222226523761:=()
def tw4298175959489666736:=()
def tw2084565408348237272:=()
def tw5505995055561011686:=()
def tw4853980590032953353:=()
def tw1699425951132389466:=()
def tw3297216540049973729:=()
def tw3482449701705401411:=()
def tw953667582995745803:=()
def tw2148859475562765993:=()
def tw7020447964351878045:=()
def tw312092011427901684:=()
def tw3675148954979051678:=()
def tw16212064813942809712:=()
def tw17745006785901696297:=()
def tw6892216683255767151:=()
def tw5067284077545579280:=()
def tw15412313627809392381:=()
def tw1456785066684645336:=()
def tw5230328869698060576:=()
def tw13381552497171766142:=()
def tw3284910413718577030:=()
def tw8458964663549985715:=()
def tw11784435142300624046:=()
def tw9993814394981265438:=()
def tw8600555210496730562:=()
def tw17663385821046568152:=()
def tw13512250064366764795:=()
def tw6324277980056077306:=()
def tw6294867312118251034:=()
def tw9802173917405264017:=()
def tw8077554561250972653:=()
def tw16856388022613970491:=()
def tw7892667323781638134:=()
def tw2350063459011252266:=()
def tw9695886972693366112:=()
def tw2063619116454353992:=()
def tw12371370472871340583:=()
def tw3573964351100051719:=()
def tw3372936548312260732:=()
def tw17405539240440435785:=()
def tw134147529000398479:=()
def tw15305216745701131276:=()
def tw3030246812911608223:=()
def tw11883098593507263693:=()
def tw17004053162218698980:=()
def tw1284047419206568242:=()
def tw6553215647834483008:=()
def tw1284157284149606521:=()
def tw3601809919387365006:=()
def tw6475856989196194229:=()
def tw5869632626653467888:=()
def tw11334415027540537428:=()
def tw17625193091683572419:=()
def tw10701269795291796039:=()
def tw5482908981997850961:=()
def tw9824067290860652863:=()
def tw312785492863422188:=()
def tw3561868598663880175:=()
def tw16435800592736044753:=()
def tw12351631716171169429:=()
def tw4981839013946894296:=()
def tw3624931701605695229:=()
def tw6907683241334992398:=()
def tw6186439218996786723:=()
def tw9487976491960058955:=()
def tw1866028733244499178:=()
def tw6496545672229019255:=()
def tw7567854399056659592:=()
def tw8592917505715453133:=()
def tw11965738248902815955:=()
def tw9747948370364134885:=()
def tw17983910877566899469:=()
def tw9758637128828312637:=()
def tw956002555337106225:=()
def tw17470756879208897989:=()
def tw3324713559329403159:=()
def tw15616655219830086895:=()
def tw12217143388569977767:=()
def tw11616527747686319096:=()
def tw18107190151843017574:=()
def tw16991222409896450074:=()
def tw8697329532604996599:=()
def tw6272167770922961092:=()
def tw3771653974491490156:=()
def tw2608919915513294427:=()
def tw4297889966585794076:=()
def tw7937801556156267845:=()
end PySem.W.Fast
open PySem PySem.W PyProof.Rows
set_option maxRecDepth 100000 in
set_option maxHeartbeats 0 in
theorem PySem.Challenge.cw_slotbook_k36_whole_form_is_enough_holds : PySem.Challenge.rw_slotbook_k36_whole_form_is_enough.Holds := by
 w_on;o_law;z_head;(case hw=>w_witness2)
 k_fill
 refine My.zID (l:=PySem.Challenge.rw_slotbook_k36_whole_form_is_enough) rfl rfl (fun _=>rfl) (by decide) ?F
 case F =>
  intro w mg fa h KX G hmg
  refine' My.zHK KX G hmg (My.zGv KX G (.mk (.mk ?l0 ?c0 ?k0) ?a0) (.mk (.mk ?l1 ?c1 ?k1) ?a1) (.mk (.mk ?l2 ?c2 ?k2) ?a2) (.mk (.mk ?l3 ?c3 ?k3) ?a3) (.mk (.mk ?l4 ?c4 ?k4) ?a4) (.mk (.mk ?l5 ?c5 ?k5) ?a5) (.mk (.mk ?l6 ?c6 ?k6) ?a6) (.mk (.mk ?l7 ?c7 ?k7) ?a7) (.mk (.mk ?l8 ?c8 ?k8) ?a8) (.mk (.mk ?l9 ?c9 ?k9) ?a9) (.mk (.mk ?l10 ?c10 ?k10) ?a10) (.mk (.mk ?l11 ?c11 ?k11) ?a11) (.mk (.mk ?l12 ?c12 ?k12) ?a12) (.mk (.mk ?l13 ?c13 ?k13) ?a13) (.mk (.mk ?l14 ?c14 ?k14) ?a14) (.mk (.mk ?l15 ?c15 ?k15) ?a15) (.mk (.mk ?l16 ?c16 ?k16) ?a16) (.mk (.mk ?l17 ?c17 ?k17) ?a17) (.mk (.mk ?l18 ?c18 ?k18) ?a18) (.mk (.mk ?l19 ?c19 ?k19) ?a19) (.mk (.mk ?l20 ?c20 ?k20) ?a20) (.mk (.mk ?l21 ?c21 ?k21) ?a21) (.mk (.mk ?l22 ?c22 ?k22) ?a22) (.mk (.mk ?l23 ?c23 ?k23) ?a23) (.mk (.mk ?l24 ?c24 ?k24) ?a24) (.mk (.mk ?l25 ?c25 ?k25) ?a25) (.mk (.mk ?l26 ?c26 ?k26) ?a26) (.mk (.mk ?l27 ?c27 ?k27) ?a27) (.mk (.mk ?l28 ?c28 ?k28) ?a28) (.mk (.mk ?l29 ?c29 ?k29) ?a29) (.mk (.mk ?l30 ?c30 ?k30) ?a30) (.mk (.mk ?l31 ?c31 ?k31) ?a31) (.mk (.mk ?l32 ?c32 ?k32) ?a32) ?z_all ?z_bool ?z_enumerate ?z_int ?z_isinstance ?z_len ?z_list ?z_ord ?z_range ?z_set ?z_sorted ?z_str ?z_tuple ?v_EMPTY ?v_GONE ?v_GREATEST ?v_LEAST ?v_TURN)
  case a0 | a1 | a2 | a3 | a4 | a5 | a6 | a7 | a8 | a9 | a10 | a11 | a12 | a13 | a14 | a15 | a16 | a17 | a18 | a19 | a20 | a21 | a22 | a23 | a24 | a25 | a26 | a27 | a28 | a29 | a30 | a31 | a32 | l0 | c0 | k0 | l1 | c1 | k1 | l2 | c2 | k2 | l3 | c3 | k3 | l4 | c4 | k4 | l5 | c5 | k5 | l6 | c6 | k6 | l7 | c7 | k7 | l8 | c8 | k8 | l9 | c9 | k9 | l10 | c10 | k10 | l11 | c11 | k11 | l12 | c12 | k12 | l13 | c13 | k13 | l14 | c14 | k14 | l15 | c15 | k15 | l16 | c16 | k16 | l17 | c17 | k17 | l18 | c18 | k18 | l19 | c19 | k19 | l20 | c20 | k20 | l21 | c21 | k21 | l22 | c22 | k22 | l23 | c23 | k23 | l24 | c24 | k24 | l25 | c25 | k25 | l26 | c26 | k26 | l27 | c27 | k27 | l28 | c28 | k28 | l29 | c29 | k29 | l30 | c30 | k30 | l31 | c31 | k31 | l32 | c32 | k32 | z_all | z_bool | z_enumerate | z_int | z_isinstance | z_len | z_list | z_ord | z_range | z_set | z_sorted | z_str | z_tuple | v_EMPTY | v_GONE | v_GREATEST | v_LEAST | v_TURN=>k_is
