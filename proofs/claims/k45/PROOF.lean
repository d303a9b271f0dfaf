import PyProof.Rows.All
import Wide.All
import OpenK.AllK
import Wide.FinOn
import Lean
import PyProof.EqAt
import PyProof.EqKinds
import PyProof.TupleCall
import KE.IntBitsLaws
import OpenK.ZGo
import PySem.SetOps
import PyProof.ZipIter
import PyProof.Rows.SortShell
import PyProof.ExcAttrAll.ValueError
import PyProof.FactsAll.tuple_2
import PyProof.ListMulRoad
import PyProof.StrOps2
import KE.KSortedM
import PySem.Challenge.RW_slotbook_k45_whole_cells_without_history
set_option linter.all false
set_option Elab.async false
set_option maxRecDepth 100000
set_option maxHeartbeats 4000000
namespace PySem
theorem Runs.toks {M:Model} {Γ:Ctx} {p:Pos} {t:Sem Fin} {fs:List Frame} {s:Shared} {e:End} {s':Shared} (h:Runs M Γ p t fs s e s'):s.toks<=s'.toks:=by
 induction h <;> first
  | exact Nat.le_refl _
  | assumption
  | (rename_i ih;exact Nat.le_of_succ_le ih)
  | (rename_i ih1 ih2;exact Nat.le_trans ih1 ih2)
theorem Wakes.toks {M:Model} {Γ:Ctx} {p:Pos} {g:Nat} {r:Resume} {s:Shared} {res:GenResult} {s':Shared} (h:Wakes M Γ p g r s res s'):s.toks<=s'.toks:=by
 unfold Wakes at h
 split at h
 ·exact h.elim
 ·split at h
  ·obtain⟨e₁,s₁,hr,_,_,rfl⟩:=h
   exact hr.toks
  ·obtain⟨_,rfl⟩:=h
   exact Nat.le_refl _
  ·obtain⟨_,rfl⟩:=h
   exact Nat.le_refl _
 ·obtain⟨e₁,s₁,hr,_,_,rfl⟩:=h
  exact hr.toks
 ·obtain⟨_,rfl⟩:=h
  exact Nat.le_refl _
 ·obtain⟨_,rfl⟩:=h
  exact Nat.le_refl _
theorem zIy {α:Type} {M:Model} {Γ:Ctx} (n:Nat) (t:Sem α) {Q:α->Pos->Shared->Prop} {E:Value->Pos->Shared->Prop}:∀ {p:Pos} {s:Shared},n<=s.toks->Sem.wp M Γ t (fun a p s=>n<=s.toks->Q a p s) (fun e p s=>n<=s.toks->E e p s) p s->Sem.wp M Γ t Q E p s:=by
 induction t with
 | pure a=>intro p s hn h;exact h hn
 | raise e=>intro p s hn h;exact h hn
 | unsupported w=>intro p s hn h;exact h
 | finish e=>intro p s hn h;exact h
 | rule t k ih=>intro p s hn h;exact ih () hn h
 | «at» q k ih=>intro p s hn h;exact ih () hn h
 | load a pt k ih=>intro p s hn h;obtain⟨o,ho,h⟩:=h;exact⟨o,ho,ih o hn h⟩
 | update a pt f k ih=>intro p s hn h;exact⟨h.1,ih () (s:={ s with heap:=s.heap.update a f }) hn h.2⟩
 | alloc o k ih=>intro p s hn h;exact ih _ (s:={ s with heap:=s.heap.push o }) hn h
 | loadIfAlive a k ih=>intro p s hn h;exact ih _ hn h
 | point l k ih=>intro p s hn h;exact ih () hn h
 | register a k ih=>intro p s hn h;exact h
 | fresh k ih=>intro p s hn h;exact ih _ (s:={ s with toks:=s.toks+1 }) (Nat.le_succ_of_le hn) h
 | ask k ih=>intro p s hn h;exact ih _ hn h
 | choose src m k ih=>intro p s hn h;exact⟨h.1,ih _ (s:={ s with drawn:=s.drawn.bump src }) hn h.2⟩
 | os q l k ih=>intro p s hn h;exact ih _ (s:={ s with os:=(Os.step s.os q).1 }) hn h
 | call c hd g l k ih=>intro p s hn h;obtain⟨r,s',hr,h⟩:=h;exact⟨r,s',hr,ih r (Nat.le_trans hn hr.toks) h⟩
 | handled o k ih=>intro p s hn h;exact ih _ hn h
 | newGen c k ih=>intro p s hn h;exact ih _ (s:={ s with gens:=s.gens.push (.fresh c) }) hn h
 | genState g k ih=>intro p s hn h;obtain⟨st,hst,h⟩:=h;exact⟨st,hst,ih _ hn h⟩
 | resume g r l k ih=>intro p s hn h;obtain⟨res,s',hw,h⟩:=h;exact⟨res,s',hw,ih _ (Nat.le_trans hn hw.toks) h⟩
 | yield v g l k ih=>intro p s hn h;exact h
 | stack k ih=>intro p s hn h;exact ih _ hn h
 | fork c k ih=>intro p s hn h;exact h
 | thread k ih=>intro p s hn h;exact ih _ hn h
 | await a tk d l k ih=>intro p s hn h;exact h
theorem zDF {α:Type} {M:Model} {A:Around} {t:Sem α} {Q:α->Shared->Prop} {E:Value->Shared->Prop} {s:Shared} (h:wpAny M A t (fun a s'=>s.toks<=s'.toks->Q a s') (fun e s'=>s.toks<=s'.toks->E e s') s):wpAny M A t Q E s :=
 fun Γ p hΓ=>zIy s.toks t (Nat.le_refl _) (h Γ p hΓ)
end PySem
namespace L2
open PySem PySem.Spec PyProof.Rows
abbrev Key:=Sum Int Str
def zKG:Key->Value->Bool
 | .inl k,v=>Value.isInt k v
 | .inr x,v=>Value.isStrOf x v
def zMM (w:World):Key->Int
 | .inl k=>hashInt k
 | .inr x=>hashStr w x
theorem Qo:∀ {k:Key} {v:Value},zKG k v=true->(∃ i t,k=Sum.inl i/\v=Value.int i t)\/(∃ x t,k=Sum.inr x/\v=Value.str x t)
 | .inl i,v,h=>by
  obtain⟨t,e⟩:=Value.isInt_shape (k:=i) (v:=v) h
  exact .inl ⟨i,t,rfl,e⟩
 | .inr x,v,h=>by
  obtain⟨t,e⟩:=Value.isStrOf_shape (x:=x) (v:=v) h
  exact .inr ⟨x,t,rfl,e⟩
theorem zK9 (a b:Int):decide ((Sum.inl a:Key)=Sum.inl b)=(a == b):=by
 by_cases e:a=b
 ·subst e;simp
 ·have h:¬ (Sum.inl a:Key)=Sum.inl b:=fun q=>e (Sum.inl.inj q)
  rw[decide_eq_false h]
  exact (beq_eq_false_iff_ne.mpr e).symm
theorem zKs (a b:Str):decide ((Sum.inr a:Key)=Sum.inr b)=decide (a=b):=by
 by_cases e:a=b
 ·subst e;simp
 ·have h:¬ (Sum.inr a:Key)=Sum.inr b:=fun q=>e (Sum.inr.inj q)
  rw[decide_eq_false h,decide_eq_false e]
theorem zLC (a:Int) (b:Str):decide ((Sum.inl a:Key)=Sum.inr b)=false:=decide_eq_false (fun q=>nomatch q)
theorem zLT (a:Str) (b:Int):decide ((Sum.inr a:Key)=Sum.inl b)=false:=decide_eq_false (fun q=>nomatch q)
def zCW (prog:Program) (w:World):PySem.KeyKind prog w Key where
 is:=zKG
 hash:=zMM w
 inj:=fun v a b ha hb=>by
  rcases Qo ha with ⟨i,t,rfl,rfl⟩ | ⟨x,t,rfl,rfl⟩
  ·rcases Qo hb with ⟨j,u,rfl,e⟩ | ⟨y,u,rfl,e⟩
   ·injection e with e1 _;rw[e1]
   ·exact nomatch e
  ·rcases Qo hb with ⟨j,u,rfl,e⟩ | ⟨y,u,rfl,e⟩
   ·exact nomatch e
   ·injection e with e1 _;rw[e1]
 byValue:=fun k v h=>by
  rcases Qo h with ⟨i,t,rfl,rfl⟩ | ⟨x,t,rfl,rfl⟩ <;> rfl
 pyHash:=fun hv h=>by
  rcases Qo hv with ⟨i,t,rfl,rfl⟩ | ⟨x,t,rfl,rfl⟩
  ·exact wpAny_pyHash_int h
  ·exact wpAny_pyHash_str h
 eqBool:=fun hu hv h=>by
  rcases Qo hu with ⟨i,t,rfl,rfl⟩ | ⟨x,t,rfl,rfl⟩
  ·rcases Qo hv with ⟨j,u,rfl,rfl⟩ | ⟨y,u,rfl,rfl⟩
   ·rw[zK9] at h;exact wpAny_eqBool_int h
   ·rw[zLC] at h;exact SeqAt.EqAt.int_str i t y u _ _ _ _ h
  ·rcases Qo hv with ⟨j,u,rfl,rfl⟩ | ⟨y,u,rfl,rfl⟩
   ·rw[zLT] at h;exact SeqAt.EqAt.str_int x t j u _ _ _ _ h
   ·rw[zKs] at h;exact wpAny_eqBool_str h
 «strs»:=fun k x t v h=>by
  rcases Qo h with ⟨i,u,rfl,e⟩ | ⟨y,u,rfl,e⟩
  ·exact nomatch e
  ·injection e with e1 _
   subst e1
   cases v <;> rfl
end L2
namespace L2
open PySem PySem.Spec PyProof.Rows
inductive V where
 | non | bl (b:Bool) | int (i:Int) | str (x:Str) | byt (b:Array UInt8) | flt (b:UInt64) | ref (a:Addr) | ty (n:String)
 deriving DecidableEq
def RelV:V->Value->Prop
 | .non,u=>u=Value.none
 | .bl b,u=>u=Value.bool b
 | .int i,u=>∃ t,u=Value.int i (t+1)
 | .str x,u=>∃ t,u=Value.str x (t+1)
 | .byt b,u=>∃ t,u=Value.bytes b t
 | .flt b,u=>∃ t,u=Value.float b t
 | .ref a,u=>u=Value.ref a
 | .ty n,u=>u=Value.type n
abbrev Vals:List V->List Value->Prop:=Paired RelV
theorem Vals.length {xs:List V} {us:List Value} (r:Vals xs us):xs.length=us.length:=Paired.length r
theorem Vals.get:∀ {xs:List V} {us:List Value} {i:Nat} {x:V},Vals xs us->xs[i]? = some x->∃ u,us[i]? = some u/\RelV x u
 | _,_,_,_,.nil,e=>by simp at e
 | _,_,0,_,.cons r _,e=>by simp at e;subst e;exact⟨_,rfl,r⟩
 | _,_,i+1,x,.cons _ t,e=>by
  obtain⟨u,h1,h2⟩:=Vals.get (i:=i) (x:=x) t (by simpa using e)
  exact⟨u,by simpa using h1,h2⟩
theorem Vals.set {x:V} {u:Value} (r:RelV x u):∀ {xs:List V} {us:List Value} (i:Nat),Vals xs us->Vals (xs.set i x) (us.set i u)
 | _,_,_,.nil=>.nil
 | _,_,0,.cons _ t=>.cons r t
 | _,_,i+1,.cons q t=>.cons q (Vals.set r i t)
theorem Vals.append:∀ {xs ys:List V} {us ws:List Value},Vals xs us->Vals ys ws->Vals (xs++ys) (us++ws)
 | _,_,_,_,.nil,s=>s
 | _,_,_,_,.cons r t,s=>.cons r (Vals.append t s)
theorem Vals.take:∀ {xs:List V} {us:List Value} (n:Nat),Vals xs us->Vals (xs.take n) (us.take n)
 | _,_,0,_=>.nil
 | _,_,_+1,.nil=>.nil
 | _,_,n+1,.cons r t=>.cons r (Vals.take n t)
theorem Vals.drop:∀ {xs:List V} {us:List Value} (n:Nat),Vals xs us->Vals (xs.drop n) (us.drop n)
 | _,_,0,r=>r
 | _,_,_+1,.nil=>.nil
 | _,_,n+1,.cons _ t=>Vals.drop n t
def RelO:Option V->Option Value->Prop
 | some v,some u=>RelV v u
 | none,none=>True
 | _,_=>False
def KV {κ:Type}:List (κ × V)->List (κ × Value)->Prop:=Paired fun (p:κ × V) (q:κ × Value)=>p.1=q.1/\RelV p.2 q.2
def kV:Key->V
 | .inl i=>.int i
 | .inr x=>.str x
inductive HO where
 | lst (xs:List V)
 | tup (xs:List V)
 | dK (kvs:List (Key × V)) | dT (kvs:List (List Key × V))
 | set (S:Int->Bool) (n:Nat)
 | ins (C dx:Addr) (fs:List (Str × V))
 | own (x:Addr)
 | xd (fs:List (Str × V))
 | met (f x:Addr)
 | rng (lo hi:Int)
 | frz (o:Obj) (u:HO)
 | tbl (ps:Array Value)
 | ext (φ:Heap->Prop)
abbrev Hp:=Addr->Option HO
def upd (H:Hp) (a:Addr) (o:HO):Hp:=fun b=>if b=a then some o else H b
theorem QF {H:Hp} {a:Addr} {o:HO}:upd H a o a=some o:=by unfold upd;rw[if_pos rfl]
theorem QH {H:Hp} {a b:Addr} {o:HO} (h:b ≠ a):upd H a o b=H b:=by unfold upd;rw[if_neg h]
theorem Yi {H:Hp} {a:Addr} {o u:HO}:upd (upd H a o) a u=upd H a u:=by
 funext b;unfold upd;split <;> rfl
theorem zL2 {H:Hp} {a b:Addr} {o u:HO} (h:H a=some o) (h':H b=some u) (d:o ≠ u):a ≠ b:=by
 intro e;subst e;rw[h] at h';exact d (Option.some.inj h')
theorem QJ {H:Hp} {a b:Addr} {o:HO} (h:H a=some o) (h':H b=none):a ≠ b:=by
 intro e;subst e;rw[h] at h';cases h'
section
variable (P:Program) (w:World)
def ObjOk (H:Hp) (h:Heap) (a:Addr):HO->Prop
 | .lst xs=>xs.length<=sizeLine/\∃ (its:List Value) (n:Nat),Vals xs its/\h.get? a=some { cls:=.type "list",data:=.seq its.toArray n }
 | .tup xs=>xs.length<=sizeLine/\∃ its:List Value,Vals xs its/\IsTup h a its.toArray
 | .dK kvs=>kvs.length<=sizeLine/\(a == sysModules)=false/\∃ vs,KV kvs vs/\h.DictOf (zCW P w) a vs
 | .dT kvs => kvs.length <= sizeLine /\ (a == sysModules) = false /\ ∃ xs : List (List Key × Addr × Value),
   Paired (fun (p:List Key × V) (q:List Key × Addr × Value)=>p.1=q.1/\H q.2.1=some (.tup (p.1.map kV))/\RelV p.2 q.2.2) kvs xs /\
   ∃ o es ep,h.get? a=some o/\o.ExactDict/\o.data=.dict es ep/\es.toList=xs.map (entryOfKey (tupleKind (zCW P w)))/\(xs.map (·.1)).Nodup
 | .set S n=>h.SetOf (intKind P w) a S n
 | .ins C dx fs => H dx = some (.own a) /\ fs.length <= 1000 /\ dx ≠ a /\ h.get? a = some (W.instObj C dx) /\
   ∃ mA,h.Ns1 dx mA/\(∀ f,RelO (fs.lookup f) (mA f))/\PySem.Within mA (fs.map (·.1))
 | .own _=>∃ o,h.get? a=some o
 | .xd fs=>∃ mA,h.Ns1 a mA/\∀ f,RelO (fs.lookup f) (mA f)
 | .rng lo hi=>∃ t u v,h.get? a=some { cls:=.type "range",data:=.fields #[.int lo t,.int hi u,.int 1 v] }
 | .frz o u=>h.get? a=some o/\ObjOk H h a u
 | .tbl ps=>h.get? a=some { cls:=.none,data:=.fields ps }
 | .met f x=>h.get? a=some (PySem.W.methodObj (.ref f) (.ref x))
 | .ext φ=>φ h/\(∃ o,h.get? a=some o)/\∀ h1 h2:Heap,φ h1->(∀ o,h1.get? a=some o->h2.get? a=some o)->φ h2
def HOk (H:Hp) (h:Heap):Prop:=∀ a o,H a=some o->ObjOk P w H h a o
end
section
variable {P:Program} {w:World} {H H':Hp} {h h':Heap} {a:Addr} {o:HO}
theorem ObjOk.lt (x:ObjOk P w H h a o):a < h.objs.size:=by
 cases o with
 | lst xs=>obtain⟨_,_,_,_,e⟩:=x;exact Heap.lt_size e
 | tup xs=>obtain⟨_,_,_,p⟩:=x;exact p.lt
 | dK kvs=>obtain⟨_,_,_,_,o,_,_,e,_⟩:=x;exact Heap.lt_size e
 | dT kvs=>obtain⟨_,_,_,_,o,_,_,e,_⟩:=x;exact Heap.lt_size e
 | set S n=>obtain⟨o,_,_,_,e,_⟩:=x;exact Heap.lt_size e
 | ins C dx fs=>obtain⟨_,_,_,e,_⟩:=x;exact Heap.lt_size e
 | own y=>obtain⟨_,e⟩:=x;exact Heap.lt_size e
 | xd fs=>obtain⟨_,⟨_,_,_,e,_⟩,_⟩:=x;exact Heap.lt_size e
 | rng lo hi=>obtain⟨_,_,_,e⟩:=x;exact Heap.lt_size e
 | frz ob u=>obtain⟨e,_⟩:=x;exact Heap.lt_size e
 | tbl ps=>exact Heap.lt_size (show h.get? a=some _ from x)
 | met f y=>exact Heap.lt_size (show h.get? a=some _ from x)
 | ext φ=>obtain⟨_,⟨_,e⟩,_⟩:=x;exact Heap.lt_size e
theorem Paired.mapP {α β:Type} {F G:α->β->Prop}:∀ {l₁:List α} {l₂:List β},Paired F l₁ l₂->(∀ a b,F a b->G a b)->Paired G l₁ l₂
 | _,_,.nil,_=>.nil
 | _,_,.cons r t,f=>.cons (f _ _ r) (Paired.mapP t f)
theorem ObjOk.stay (x:ObjOk P w H h a o) (k:∀ b u,(b=a\/H b=some (.own a))->h.get? b=some u->h'.get? b=some u)
  (ho:∀ b,H b=some (.own a)->H' b=some (.own a)) (ht:∀ b xs,H b=some (.tup xs)->H' b=some (.tup xs)):ObjOk P w H' h' a o:=by
 induction o with
 | lst xs=>obtain⟨z,its,n,r,e⟩:=x;exact⟨z,its,n,r,k _ _ (.inl rfl) e⟩
 | tup xs=>obtain⟨z,its,r,ob,e,c⟩:=x;exact⟨z,its,r,ob,k _ _ (.inl rfl) e,c⟩
 | dK kvs=>obtain⟨z,y,vs,r,ob,es,ep,e,c⟩:=x;exact⟨z,y,vs,r,ob,es,ep,k _ _ (.inl rfl) e,c⟩
 | dT kvs =>
  obtain⟨z,y,xs,r,ob,es,ep,e,c⟩:=x
  exact⟨z,y,xs,Paired.mapP r fun p q z=>⟨z.1,ht _ _ z.2.1,z.2.2⟩,ob,es,ep,k _ _ (.inl rfl) e,c⟩
 | set S n=>obtain⟨ob,es,ep,t,e,c⟩:=x;exact⟨ob,es,ep,t,k _ _ (.inl rfl) e,c⟩
 | ins C dx fs =>
  obtain⟨d,z,ne,e,mA,⟨od,es,ep,e2,c⟩,r⟩:=x
  exact⟨ho _ d,z,ne,k _ _ (.inl rfl) e,mA,⟨od,es,ep,k _ _ (.inr d) e2,c⟩,r⟩
 | own y=>obtain⟨ob,e⟩:=x;exact⟨ob,k _ _ (.inl rfl) e⟩
 | xd fs=>obtain⟨mA,⟨od,es,ep,e,c⟩,r⟩:=x;exact⟨mA,⟨od,es,ep,k _ _ (.inl rfl) e,c⟩,r⟩
 | rng lo hi=>obtain⟨t,u,v,e⟩:=x;exact⟨t,u,v,k _ _ (.inl rfl) e⟩
 | frz ob u ih=>obtain⟨e,q⟩:=x;exact⟨k _ _ (.inl rfl) e,ih q⟩
 | tbl ps =>
  have e:h.get? a=some { cls:=.none,data:=.fields ps }:=x
  show h'.get? a=some { cls:=.none,data:=.fields ps }
  exact k a _ (.inl rfl) e
 | met f y =>
  have e:h.get? a=some (PySem.W.methodObj (.ref f) (.ref y)):=x
  show h'.get? a=some (PySem.W.methodObj (.ref f) (.ref y))
  exact k a _ (.inl rfl) e
 | ext φ=>obtain⟨p,⟨o,e⟩,st⟩:=x;exact⟨st _ _ p fun o q=>k _ _ (.inl rfl) q,⟨o,k _ _ (.inl rfl) e⟩,st⟩
theorem HOk.lt (x:HOk P w H h) (e:H a=some o):a < h.objs.size:=(x a o e).lt
theorem HOk.fresh (x:HOk P w H h) (e:h.objs.size<=a):H a=none:=by
 cases q:H a with
 | none=>rfl
 | some u=>exact absurd (Nat.lt_of_lt_of_le (x.lt q) e) (Nat.lt_irrefl _)
theorem HOk.kept (x:HOk P w H h) (k:∀ b u,h.get? b=some u->h'.get? b=some u):HOk P w H h':=fun a o e =>
 (x a o e).stay (fun b u _ q=>k b u q) (fun _ q=>q) fun _ _ q=>q
theorem HOk.laid (x:HOk P w H h) (k:∀ b u,h.get? b=some u->h'.get? b=some u) (hp:h.objs.size<=a) (new:ObjOk P w (upd H a o) h' a o):HOk P w (upd H a o) h':=fun b u e=>by
 have hn:=x.fresh hp
 by_cases hb:b=a
 ·subst hb;rw[QF] at e;cases e;exact new
 ·rw[QH hb] at e
  exact (x b u e).stay (fun c v _ q=>k c v q) (fun c q=>by rw[QH (QJ q hn)];exact q) fun c xs q=>by rw[QH (QJ q hn)];exact q
end
def Rd (H:Hp) (a:Addr) (u:HO):Prop:=H a=some u\/∃ o,H a=some (.frz o u)
theorem Rd.ok {P:Program} {w:World} {H:Hp} {h:Heap} {a:Addr} {u:HO} (r:Rd H a u) (x:HOk P w H h):ObjOk P w H h a u:=by
 rcases r with r | ⟨o,r⟩
 ·exact x a u r
 ·obtain⟨_,q⟩:=x a _ r
  exact q
def Mut:Option HO->Prop
 | some (.lst _)=>True
 | some (.dK _)=>True
 | some (.dT _)=>True
 | some (.set _ _)=>True
 | some (.ins _ _ _)=>True
 | some (.ext _)=>True
 | _=>False
section
variable {P:Program} {w:World} {H:Hp} {h h':Heap} {x e:Addr} {o':HO}
theorem HOk.write (ok:HOk P w H h) (mu:Mut (H x)) (he:e=x\/H e=some (.own x)) (k:∀ b u,b ≠ e->h.get? b=some u->h'.get? b=some u) (heo:∃ u,h'.get? e=some u)
  (new:ObjOk P w (upd H x o') h' x o'):HOk P w (upd H x o') h':=fun b u q=>by
 have nown:∀ c y,H c=some (.own y)->c ≠ x:=fun c y r z=>by subst z;rw[r] at mu;exact mu
 have ntup:∀ c xs,H c=some (.tup xs)->c ≠ x:=fun c xs r z=>by subst z;rw[r] at mu;exact mu
 by_cases hb:b=x
 ·subst hb;rw[QF] at q;cases q;exact new
 ·rw[QH hb] at q
  by_cases hbe:b=e
  ·have q':H b=some (.own x):=by
    rcases he with z | z
    ·exact absurd (hbe.trans z) hb
    ·rw[hbe];exact z
   rw[q] at q';cases q'
   obtain⟨v,hv⟩:=heo
   exact⟨v,by rw[hbe];exact hv⟩
  ·refine (ok b u q).stay (fun c v hc r=>k c v ?_ r) (fun c r=>by rw[QH (nown c b r)];exact r) fun c xs r=>by rw[QH (ntup c xs r)];exact r
   rcases hc with rfl | hc
   ·exact hbe
   ·rintro rfl
    rcases he with z | z
    ·exact nown c b hc z
    ·rw[hc] at z;cases z;exact hb rfl
end
structure Un (fs ex:List Addr) (H H':Hp) (h h':Heap):Prop where
 keep:∀ b o,h.get? b=some o->H b=none->b ∉ fs->b ∉ ex->h'.get? b=some o
 slot:∀ b o,h.get? b=some o->H b=none->b∈fs->b ∉ ex->∃ sl,h'.get? b=some { o with slots:=sl }
 free:∀ b o,h.get? b=some o->H b=none->b ∉ ex->H' b=none
 there:∀ b o,h.get? b=some o->b ∉ ex->∃ o',h'.get? b=some o'
 tups:∀ b xs,H b=some (.tup xs)->H' b=some (.tup xs)
 frzs:∀ b o u,H b=some (.frz o u)->H' b=some (.frz o u)
 tbls:∀ b ps,H b=some (.tbl ps)->∃ more,H' b=some (.tbl (ps++more))
section
variable {fs fs' ex ex':List Addr} {H H1 H2:Hp} {h h1 h2 h':Heap} {a x e:Addr} {o:HO}
theorem Un.any (u:Un fs ex H H1 h h1) {b:Addr} {ob:Obj} (q:h.get? b=some ob) (n:H b=none) (hx:b ∉ ex):∃ sl,h1.get? b=some { ob with slots:=sl }:=by
 by_cases hb:b∈fs
 ·exact u.slot b ob q n hb hx
 ·exact⟨ob.slots,u.keep b ob q n hb hx⟩
theorem Un.kept (k:∀ b u,h.get? b=some u->h'.get? b=some u):Un fs ex H H h h' :=
 ⟨fun b ob q _ _ _=>k b ob q,fun b ob q _ _ _=>⟨ob.slots,k b ob q⟩,fun _ _ _ n _=>n,fun b ob q _=>⟨ob,k b ob q⟩,fun _ _ q=>q,fun _ _ _ q=>q,fun _ ps q=>⟨#[],by rw[q];simp⟩⟩
theorem Un.refl:Un fs ex H H h h:=Un.kept fun _ _ q=>q
theorem Un.laid (k:∀ b u,h.get? b=some u->h'.get? b=some u) (hp:h.objs.size<=a) (hn:H a=none):Un fs ex H (upd H a o) h h' where
 keep:=fun b u q _ _ _=>k b u q
 slot:=fun b u q _ _ _=>⟨u.slots,k b u q⟩
 free:=fun b u q n _=>by rw[QH (Nat.ne_of_lt (Nat.lt_of_lt_of_le (Heap.lt_size q) hp))];exact n
 there:=fun b u q _=>⟨u,k b u q⟩
 tups:=fun b xs q=>by rw[QH (QJ q hn)];exact q
 frzs:=fun b u xs q=>by rw[QH (QJ q hn)];exact q
 tbls:=fun b ps q=>⟨#[],by rw[QH (QJ q hn),q];simp⟩
theorem Un.write (mu:Mut (H x)) (he:e=x\/H e=some (.own x)) (k:∀ b u,b ≠ e->h.get? b=some u->h'.get? b=some u) (heo:∃ u,h'.get? e=some u):Un fs ex H (upd H x o) h h':=by
 have hx:∀ b,H b=none->b ≠ x:=fun b n z=>by subst z;rw[n] at mu;exact mu
 have hb:∀ b,H b=none->b ≠ e:=fun b n z=>by
  subst z
  rcases he with r | r
  ·exact hx b n r
  ·rw[n] at r;cases r
 have hm:∀ b u,H b=some u->¬ Mut (some u)->b ≠ x:=fun b u q nm z=>by subst z;rw[q] at mu;exact nm mu
 refine⟨fun b u q n _ _=>k b u (hb b n) q,fun b u q n _ _=>⟨u.slots,k b u (hb b n) q⟩,fun b u q n _=>by rw[QH (hx b n)];exact n,fun b u q _=>?_,
  fun b xs q=>by rw[QH (hm b _ q fun z=>z)];exact q,fun b u xs q=>by rw[QH (hm b _ q fun z=>z)];exact q,fun b ps q=>⟨#[],by rw[QH (hm b _ q fun z=>z),q];simp⟩⟩
 by_cases hbe:b=e
 ·subst hbe;exact heo
 ·exact⟨u,k b u hbe q⟩
end
def trk (h:Heap) (H:Hp):List Addr:=(List.range h.objs.size).filter fun a=>(H a).isSome
def zCJ (h:Heap) (H:Hp):Heap:=W.hideAll h (trk h H)
theorem zF4 (h:Heap) (H:Hp):(zCJ h H).objs.size=h.objs.size:=PySem.W.hideAll_size _ _
theorem zH2 {h:Heap} {H:Hp} {b:Addr} {o:Obj} (e:h.get? b=some o) (n:H b=none):(zCJ h H).get? b=some o :=
 PySem.W.hideAll_get _ e fun hm=>by
  have q:(H b).isSome=true:=(List.mem_filter.mp hm).2
  rw[n] at q;simp at q
theorem zJY {h:Heap} {H:Hp} {b:Addr} {o:Obj} (e:(zCJ h H).get? b=some o):h.get? b=some o/\H b=none:=by
 have e':h.get? b=some o:=PySem.W.of_hideAll (trk h H) e
 refine⟨e',?_⟩
 cases q:H b with
 | none=>rfl
 | some x =>
  have hm:b∈trk h H:=List.mem_filter.mpr ⟨List.mem_range.mpr (Heap.lt_size e'),by simp[q]⟩
  have z:(zCJ h H).get? b=none:=PySem.W.hideAll_none (trk h H) hm
  rw[z] at e;cases e
def zIm (g h:Heap) (L:Addr):List (Addr × Obj):=(List.range h.objs.size).filterMap fun a=>if a=L\/(g.get? a).isSome=true then none else (h.get? a).map fun o=>(a,o)
def Q5 (g h:Heap) (L d:Addr):List (Addr × Obj):=(zIm g h L).filter fun p=>decide (p.1 ≠ d)
end L2
namespace L2
open PySem PySem.Spec PyProof.Rows
structure Mod (K:W.Frag) (mg:Str->Option Value) (base:Heap):Prop where
 kin:K.In base
 glob:base.Ns mainGlobals mg
 blt:∃ mb,base.Ns builtinsNs mb/\∀ x:Str,x ≠ "__name__" -> mb x=bootBuiltins x
 nolimit:base.NoLimit
structure Cx where
 prog:Program
 w:World
 K:W.Frag
 mg:Str->Option Value
 base:Heap
 A:Around
 N:List Str
 s₀:Shared
 H₀:Hp
 env:Env
 outer:List Env
 stack:List Env
 ex:List Addr
 fn:Str->Bool
 calm:Bool
 pn:List (Addr × Obj)
 xe:Value->Shared->Prop
def frs (l:List Env):List Addr:=l.filterMap (·.frame)
abbrev Cx.fs (X:Cx):List Addr:=frs X.outer
def Vis (sc:Scope) (x:Str):Prop:=sc.names.lookup x=some .local\/sc.names.lookup x=some .cell\/sc.names.lookup x=some .free
def Loc (sc:Scope) (x:Str):Prop:=sc.names.lookup x=some .local\/sc.names.lookup x=some .cell
def zL7 (env:Env) (h:Heap) (m:Str->Option Value) (x:Str) (u:Value):Prop :=
 (env.kindOf x=some .local/\m x=some u)\/((env.kindOf x=some .cell\/env.kindOf x=some .free)/\∃ c,env.cells.lookup x=some c/\h.IsCell c (some u))
structure Cx.Ok (X:Cx):Prop where
 mod:Mod X.K X.mg X.base
 kind:X.env.scope.kind=.function
 glob:X.env.globals=mainGlobals
 blt:X.env.builtins=builtinsNs
 above:X.s₀.heap.objs.size<=X.env.locals
 inj:∀ x y c,X.env.cells.lookup x=some c->X.env.cells.lookup y=some c->x=y
 has:∀ x,(X.env.kindOf x=some .cell\/X.env.kindOf x=some .free)->∃ c,X.env.cells.lookup x=some c
 cab:∀ x c,X.fn x=true->X.env.cells.lookup x=some c->X.s₀.heap.objs.size<=c
 hd:X.calm=true->X.A.handled=none
 frames:X.A.frames=some X.stack
 stk:X.stack=X.outer\/(X.stack=X.env::X.outer/\X.env.frame=some X.env.locals)
 exf:∀ b∈X.ex,b ≠ X.env.locals/\∀ x c,X.env.cells.lookup x=some c->c ≠ b
 bs:∀ b o,X.base.get? b=some o->X.s₀.heap.get? b=some o/\X.H₀ b=none
 bsz:X.base.objs.size<=X.s₀.heap.objs.size
 noex:∀ b o,X.base.get? b=some o->b ∉ X.ex
 exfs:∀ b∈X.ex,b ∉ X.fs
 funs:X.s₀.heap.FunFrames X.base X.outer
 frf:∀ b∈X.fs,X.H₀ b=none
structure Inv (X:Cx) (pins:List (Addr × Obj)) (σ:List (Option V)) (H:Hp) (s:Shared):Prop where
 ok:X.Ok
 os:s.os=X.s₀.os
 bare:AllBare s.gens
 base:Un X.fs X.ex X.H₀ H X.s₀.heap s.heap
 loc:∃ m,s.heap.Ns X.env.locals m/\∀ (i:Nat) (x:Str) (v:V),X.N[i]? = some x->σ[i]? = some (some v)->Vis X.env.scope x->∃ u,RelV v u/\zL7 X.env s.heap m x u
 cell:∀ x c,X.env.cells.lookup x=some c->∃ v,s.heap.IsCell c v
 free:H X.env.locals=none
 freeC:∀ x c,X.env.cells.lookup x=some c->H c=none
 pin:∀ p∈X.pn++pins,s.heap.get? p.1=some p.2/\H p.1=none/\p.1 ≠ X.env.locals/\p.1 ∉ X.fs/\∀ v,p.2.data ≠ .cell v
 hok:HOk X.prog X.w H s.heap
 len:σ.length=X.N.length
 tk:1<=s.toks
section
variable {X:Cx} {pins:List (Addr × Obj)} {σ:List (Option V)} {H H':Hp} {s:Shared} {h':Heap}
theorem Cx.Ok.nofr (ok:X.Ok) {b:Addr} {o:Obj} (e:X.base.get? b=some o):b ∉ X.fs:=fun hb=>by
 have:=(ok.funs.mem hb).1
 rw[e] at this;cases this
theorem Inv.bs (I:Inv X pins σ H s):∀ b o,X.base.get? b=some o->s.heap.get? b=some o/\H b=none:=fun b o e =>
 ⟨I.base.keep b o (I.ok.bs b o e).1 (I.ok.bs b o e).2 (I.ok.nofr e) (I.ok.noex b o e),I.base.free b o (I.ok.bs b o e).1 (I.ok.bs b o e).2 (I.ok.noex b o e)⟩
theorem Inv.bk (I:Inv X pins σ H s):∀ b o,X.base.get? b=some o->s.heap.get? b=some o:=fun b o e=>(I.bs b o e).1
theorem Inv.mod (I:Inv X pins σ H s):Mod X.K X.mg X.base:=I.ok.mod
theorem Inv.kIn (I:Inv X pins σ H s):X.K.In s.heap:=I.ok.mod.kin.keeps I.bk
theorem Inv.lt (I:Inv X pins σ H s):X.env.locals < s.heap.objs.size:=let ⟨_,hn,_⟩:=I.loc;hn.lt
theorem Inv.sz (I:Inv X pins σ H s):X.s₀.heap.objs.size<=s.heap.objs.size:=Nat.le_trans I.ok.above (Nat.le_of_lt I.lt)
theorem Inv.nofs (I:Inv X pins σ H s) {a:Addr} (h:s.heap.objs.size<=a):a ∉ X.fs:=fun hb=>by
 obtain⟨_,o,ho,_⟩:=I.ok.funs.mem hb
 exact absurd (Nat.lt_of_lt_of_le (Heap.lt_size ho) (Nat.le_trans I.sz h)) (Nat.lt_irrefl _)
theorem Inv.cne (I:Inv X pins σ H s):∀ x c,X.env.cells.lookup x=some c->c ≠ X.env.locals:=fun x c e z=>by
 obtain⟨v,o,ho,hd⟩:=I.cell x c e
 obtain⟨m,⟨o',es,ep,ho',hd',_⟩,_⟩:=I.loc
 rw[z,ho'] at ho;cases ho;rw[hd'] at hd;cases hd
theorem Inv.funs (I:Inv X pins σ H s):s.heap.FunFrames X.base X.outer:=by
 have all:∀ (l:List Env),(∀ b∈frs l,b∈X.fs)->X.s₀.heap.FunFrames X.base l->s.heap.FunFrames X.base l:=by
  intro l
  induction l with
  | nil=>intro _ _;trivial
  | cons env r ih =>
   intro hs hl
   obtain⟨hk,⟨L,o,hf,hn,ho,hd⟩,hr⟩:=hl
   have hL:L∈X.fs:=hs L (by unfold frs;rw[List.filterMap_cons,hf];exact List.mem_cons_self)
   obtain⟨sl,e⟩:=I.base.slot L o ho (I.ok.frf L hL) hL fun z=>I.ok.exfs L z hL
   exact⟨hk,⟨L,_,hf,hn,e,hd⟩,ih (fun b hb=>hs b (by unfold frs;rw[List.filterMap_cons,hf];exact List.mem_cons_of_mem _ hb)) hr⟩
 exact all X.outer (fun _ hb=>hb) I.ok.funs
theorem Inv.stack (I:Inv X pins σ H s):s.heap.FunFrames X.base X.stack:=by
 rcases I.ok.stk with e | ⟨e,hf⟩
 ·rw[e];exact I.funs
 ·rw[e]
  obtain⟨m,hn,_⟩:=I.loc
  refine .cons (by rw[I.ok.kind];decide) hf hn ?_ I.funs
  exact Heap.get?_none_of_le (Nat.le_trans I.ok.bsz I.ok.above)
theorem Inv.stkSub (I:Inv X pins σ H s):∀ b∈frs X.stack,b∈X.env.locals::X.fs:=fun b hb=>by
 rcases I.ok.stk with e | ⟨e,hf⟩
 ·rw[e] at hb;exact List.mem_cons_of_mem _ hb
 ·rw[e] at hb
  unfold frs at hb
  rw[List.filterMap_cons,hf] at hb
  exact hb
theorem Inv.stkFree (I:Inv X pins σ H s):∀ b∈frs X.stack,H b=none:=fun b hb=>by
 rcases List.mem_cons.mp (I.stkSub b hb) with e | hb
 ·rw[e];exact I.free
 ·obtain⟨_,o,ho,_⟩:=I.ok.funs.mem hb
  exact I.base.free b o ho (I.ok.frf b hb) fun z=>I.ok.exfs b z hb
theorem Inv.step {g':Array GenState} {t':Nat} {d':Drawn} {ch:List Addr} (I:Inv X pins σ H s)
  (hch:∀ b∈ch,(b∈X.ex\/X.s₀.heap.objs.size<=b)/\b ≠ X.env.locals/\(∀ x c,X.env.cells.lookup x=some c->c ≠ b)/\∀ p∈X.pn++pins,p.1 ≠ b)
  (keep:∀ b o,b ≠ X.env.locals->b ∉ X.fs->b ∉ ch->s.heap.get? b=some o->H b=none->h'.get? b=some o)
  (slot:∀ b o,b ≠ X.env.locals->b∈X.fs->b ∉ ch->s.heap.get? b=some o->H b=none->∃ sl,h'.get? b=some { o with slots:=sl }) (free:∀ b o,b ∉ ch->s.heap.get? b=some o->H b=none->H' b=none)
  (there:∀ b o,b ∉ ch->s.heap.get? b=some o->∃ o',h'.get? b=some o')
  (tups:∀ b xs,H b=some (.tup xs)->H' b=some (.tup xs)) (frzs:∀ b o u,H b=some (.frz o u)->H' b=some (.frz o u)) (tbls:∀ b ps,H b=some (.tbl ps)->∃ more,H' b=some (.tbl (ps++more)))
  (ns:∀ m,s.heap.Ns X.env.locals m->h'.Ns X.env.locals m) (hok:HOk X.prog X.w H' h') (hg:AllBare g') (ht:1<=t') :
  Inv X pins σ H' { s with heap:=h',gens:=g',drawn:=d',toks:=t' }:=by
 have neL:∀ b o,X.s₀.heap.get? b=some o->b ≠ X.env.locals:=fun b o e=>Nat.ne_of_lt (Nat.lt_of_lt_of_le (Heap.lt_size e) I.ok.above)
 have neC:∀ b o,X.s₀.heap.get? b=some o->b ∉ X.ex->b ∉ ch:=fun b o e hx hb=>by
  rcases (hch b hb).1 with z | z
  ·exact hx z
  ·exact absurd (Nat.lt_of_lt_of_le (Heap.lt_size e) z) (Nat.lt_irrefl _)
 have cellK:∀ x c,X.env.cells.lookup x=some c->∀ v,s.heap.IsCell c v->h'.IsCell c v:=fun x c e v ⟨o,ho,hd⟩=>by
  have nch:c ∉ ch:=fun z=>(hch c z).2.2.1 x c e rfl
  by_cases hc:c∈X.fs
  ·obtain⟨sl,q⟩:=slot c o (I.cne x c e) hc nch ho (I.freeC x c e)
   exact⟨_,q,hd⟩
  ·exact⟨o,keep c o (I.cne x c e) hc nch ho (I.freeC x c e),hd⟩
 refine⟨I.ok,I.os,hg,⟨fun b o e n hb hx=>?_,fun b o e n hb hx=>?_,fun b o e n hx=>?_,fun b o e hx=>?_,fun b xs e=>tups b xs (I.base.tups b xs e),fun b o xs e=>frzs b o xs (I.base.frzs b o xs e),fun b ps e=>?_⟩,?_,fun x c e=>?_,?_,fun x c e=>?_,fun p hp=>?_,hok,I.len,ht⟩
 ·exact keep b o (neL b o e) hb (neC b o e hx) (I.base.keep b o e n hb hx) (I.base.free b o e n hx)
 ·obtain⟨sl,e1⟩:=I.base.slot b o e n hb hx
  obtain⟨sl',e2⟩:=slot b _ (neL b o e) hb (neC b o e hx) e1 (I.base.free b o e n hx)
  exact⟨sl',e2⟩
 ·obtain⟨o',e1⟩:=I.base.there b o e hx
  exact free b o' (neC b o e hx) e1 (I.base.free b o e n hx)
 ·obtain⟨o',e1⟩:=I.base.there b o e hx
  exact there b o' (neC b o e hx) e1
 ·obtain⟨m1,e1⟩:=I.base.tbls b ps e
  obtain⟨m2,e2⟩:=tbls b _ e1
  exact⟨m1++m2,by rw[e2,Array.append_assoc]⟩
 ·obtain⟨m,hn,hl⟩:=I.loc
  refine⟨m,ns m hn,fun i x v e1 e2 e3=>?_⟩
  obtain⟨u,r,l⟩:=hl i x v e1 e2 e3
  refine⟨u,r,?_⟩
  rcases l with l | ⟨k,c,e,z⟩
  ·exact .inl l
  ·exact .inr ⟨k,c,e,cellK x c e _ z⟩
 ·obtain⟨v,z⟩:=I.cell x c e
  exact⟨v,cellK x c e v z⟩
 ·obtain⟨m,⟨o,_,_,ho,_⟩,_⟩:=I.loc
  exact free _ o (fun z=>(hch _ z).2.1 rfl) ho I.free
 ·obtain⟨v,o,ho,hd⟩:=I.cell x c e
  exact free c o (fun z=>(hch c z).2.2.1 x c e rfl) ho (I.freeC x c e)
 ·obtain⟨e,n,ne,nf,d⟩:=I.pin p hp
  have nch:p.1 ∉ ch:=fun z=>(hch p.1 z).2.2.2 p hp rfl
  exact⟨keep p.1 p.2 ne nf nch e n,free p.1 p.2 nch e n,ne,nf,d⟩
theorem Inv.un {t':Nat} (I:Inv X pins σ H s) (u:Un X.fs [] H H' s.heap h') (hok:HOk X.prog X.w H' h') (ht:1<=t':=by first | exact Nat.le_add_left _ _ | exact Inv.tk (by assumption) | assumption | omega):Inv X pins σ H' { s with heap:=h',toks:=t' }:=by
 obtain⟨m,⟨o,es,ep,ho,r⟩,_⟩:=id I.loc
 obtain⟨sl,hL⟩:=u.any ho I.free (by simp)
 exact I.step (g':=s.gens) (d':=s.drawn) (ch:=[]) (fun _ z=>nomatch z) (fun b o _ hb _ e n=>u.keep b o e n hb (by simp)) (fun b o _ hb _ e n=>u.slot b o e n hb (by simp)) (fun b o _ e n=>u.free b o e n (by simp)) (fun b o _ e=>u.there b o e (by simp)) u.tups u.frzs u.tbls (fun m' hm=>by
  obtain⟨o',es',ep',ho',r'⟩:=hm
  rw[ho] at ho';cases ho'
  exact⟨_,es',ep',hL,r'⟩) hok I.bare ht
theorem Inv.call {g':Array GenState} {t':Nat} {d':Drawn} {ch:List Addr} (I:Inv X pins σ H s) (u:Un (frs X.stack) ch H H' s.heap h') (hok:HOk X.prog X.w H' h') (hg:AllBare g') (ht:1<=t')
  (hch:∀ b∈ch,(b∈X.ex\/X.s₀.heap.objs.size<=b)/\b ≠ X.env.locals/\(∀ x c,X.env.cells.lookup x=some c->c ≠ b)/\∀ p∈X.pn++pins,p.1 ≠ b) :
  Inv X pins σ H' { s with heap:=h',gens:=g',drawn:=d',toks:=t' }:=by
 obtain⟨m,⟨o,es,ep,ho,r⟩,_⟩:=id I.loc
 obtain⟨sl,hL⟩:=u.any ho I.free fun z=>(hch _ z).2.1 rfl
 exact I.step (ch:=ch) hch (fun b o hL hb hc e n=>u.keep b o e n (fun z=>(List.mem_cons.mp (I.stkSub b z)).elim hL hb) hc) (fun b o _ _ hc e n=>u.any e n hc) (fun b o hc e n=>u.free b o e n hc) (fun b o hc e=>u.there b o e hc) u.tups u.frzs u.tbls (fun m' hm=>by
  obtain⟨o',es',ep',ho',r'⟩:=hm
  rw[ho] at ho';cases ho'
  exact⟨_,es',ep',hL,r'⟩) hok hg ht
theorem Inv.turned {t':Nat} {it:Addr} (I:Inv X pins σ H s) (k:∀ b o,b ≠ it->s.heap.get? b=some o->h'.get? b=some o) (hn:H it=none) (hL:it ≠ X.env.locals)
  (h1:it∈X.ex\/X.s₀.heap.objs.size<=it) (h2:∀ x c,X.env.cells.lookup x=some c->c ≠ it) (h3:∀ p∈X.pn++pins,p.1 ≠ it) (ht:1<=t':=by first | exact Nat.le_add_left _ _ | exact Inv.tk (by assumption) | assumption | omega):Inv X pins σ H { s with heap:=h',toks:=t' }:=by
 have nit:∀ b u,H b=some u->b ≠ it:=fun b u e z=>by rw[z,hn] at e;cases e
 refine I.step (g':=s.gens) (d':=s.drawn) (ch:=[it]) (fun b hb=>?_) (fun b o _ _ hc e _=>k b o (fun z=>hc (by simp[z])) e) (fun b o _ _ hc e _=>⟨o.slots,k b o (fun z=>hc (by simp[z])) e⟩) (fun _ _ _ _ n=>n)
  (fun b o hc e=>⟨o,k b o (fun z=>hc (by simp[z])) e⟩) (fun _ _ e=>e) (fun _ _ _ e=>e) (fun b ps e=>⟨#[],by rw[e];simp⟩) (fun m hm=>?_) (fun b u e=>?_) I.bare ht
 ·have e:b=it:=by simpa using hb
  subst e
  exact⟨h1,hL,h2,h3⟩
 ·obtain⟨o,es,ep,ho,r⟩:=hm
  exact⟨o,es,ep,k _ o (Ne.symm hL) ho,r⟩
 ·refine (I.hok b u e).stay (fun c v hc q=>k c v ?_ q) (fun _ q=>q) fun _ _ q=>q
  rcases hc with z | z
  ·rw[z];exact nit b u e
  ·exact nit c _ z
theorem Inv.tok (I:Inv X pins σ H s) (t':Nat) (ht:1<=t':=by first | exact Nat.le_add_left _ _ | exact Inv.tk (by assumption) | assumption | omega):Inv X pins σ H { s with toks:=t' }:=I.un (h':=s.heap) (t':=t') Un.refl I.hok ht
theorem Inv.kept {t':Nat} (I:Inv X pins σ H s) (k:∀ b u,s.heap.get? b=some u->h'.get? b=some u) (ht:1<=t':=by first | exact Nat.le_add_left _ _ | exact Inv.tk (by assumption) | assumption | omega):Inv X pins σ H { s with heap:=h',toks:=t' }:=I.un (Un.kept k) (I.hok.kept k) ht
theorem Inv.laid {a:Addr} {o:HO} {t':Nat} (I:Inv X pins σ H s) (k:∀ b u,s.heap.get? b=some u->h'.get? b=some u) (hp:s.heap.objs.size<=a) (new:ObjOk X.prog X.w (upd H a o) h' a o) (ht:1<=t':=by first | exact Nat.le_add_left _ _ | exact Inv.tk (by assumption) | assumption | omega) :
  Inv X pins σ (upd H a o) { s with heap:=h',toks:=t' }:=I.un (Un.laid k hp (I.hok.fresh hp)) (I.hok.laid k hp new) ht
theorem Inv.write {x e:Addr} {o:HO} {t':Nat} (I:Inv X pins σ H s) (mu:Mut (H x)) (he:e=x\/H e=some (.own x)) (k:∀ b u,b ≠ e->s.heap.get? b=some u->h'.get? b=some u) (heo:∃ u,h'.get? e=some u)
  (new:ObjOk X.prog X.w (upd H x o) h' x o) (ht:1<=t':=by first | exact Nat.le_add_left _ _ | exact Inv.tk (by assumption) | assumption | omega):Inv X pins σ (upd H x o) { s with heap:=h',toks:=t' }:=I.un (Un.write mu he k heo) (I.hok.write mu he k heo new) ht
theorem Inv.pins_of {pins':List (Addr × Obj)} (I:Inv X pins σ H s) (h:∀ p∈pins',s.heap.get? p.1=some p.2/\H p.1=none/\p.1 ≠ X.env.locals/\p.1 ∉ X.fs/\∀ v,p.2.data ≠ .cell v):Inv X pins' σ H s :=
 ⟨I.ok,I.os,I.bare,I.base,I.loc,I.cell,I.free,I.freeC,fun p hp=>(List.mem_append.mp hp).elim (fun z=>I.pin p (List.mem_append_left _ z)) (h p),I.hok,I.len,I.tk⟩
theorem Inv.rI (I:Inv X pins σ H s) {i:Int}:RelV (.int i) (.int i s.toks):=⟨s.toks - 1,by rw[Nat.sub_add_cancel I.tk]⟩
theorem Inv.rS (I:Inv X pins σ H s) {x:Str}:RelV (.str x) (.str x s.toks):=⟨s.toks - 1,by rw[Nat.sub_add_cancel I.tk]⟩
theorem zDl {N:List Str} (hN:N.Nodup) {i j:Nat} {x:Str} (a:N[i]? = some x) (b:N[j]? = some x):i=j:=by
 obtain⟨h1,e1⟩:=List.getElem?_eq_some_iff.mp a
 obtain⟨h2,e2⟩:=List.getElem?_eq_some_iff.mp b
 exact (List.getElem_inj hN).mp (e1.trans e2.symm)
theorem zBS {M:Model} {A:Around} {E:Value->Shared->Prop} {i:Nat} {x:Str} {v:V} {u:Value} {Q:Unit->Shared->Prop} (I:Inv X pins σ H s) (hN:X.N.Nodup) (hi:X.N[i]? = some x) (hx:Loc X.env.scope x) (r:RelV v u)
  (h:∀ s',Inv X pins (σ.set i (some v)) H s'->(∃ a,Heap.SameBut a s.heap s'.heap/\(a=X.env.locals\/X.env.cells.lookup x=some a))->Q () s') (hf:X.fn x=true\/X.env.scope.names.lookup x=some .local:=by first | exact .inl rfl | exact .inr rfl | assumption):wpAny M A (storeName X.env x u) Q E s:=by
 obtain⟨m,hn,hl⟩:=id I.loc
 have hcls:(X.env.scope.kind == .class || (X.env.scope.kind == .module && X.env.locals != X.env.globals))=false:=by rw[I.ok.kind];rfl
 have hiσ:i < σ.length:=by rw[I.len];exact (List.getElem?_eq_some_iff.mp hi).1
 have cne:=I.cne
 have tracked:∀ {a:Addr} {h':Heap},(∃ o,s.heap.get? a=some o/\H a=none)->Heap.SameBut a s.heap h'->HOk X.prog X.w H h':=fun {a h'} ha hs b ob e=>by
  obtain⟨_,_,hfree⟩:=ha
  refine (I.hok b ob e).stay (fun c w' hc q=>(hs.2 c ?_).trans q) (fun _ q=>q) fun _ _ q=>q
  rintro rfl
  rcases hc with rfl | hc
  ·rw[hfree] at e;cases e
  ·rw[hfree] at hc;cases hc
 rcases hx with hk | hk
 ·refine wpAny_storeName_local hk hn (fun h' hn' hs=>?_) hcls
  obtain⟨oL,_,_,hoL,_⟩:=id hn
  refine h _ ⟨I.ok,I.os,I.bare,⟨fun b o e n hb hx=>?_,fun b o e n hb hx=>?_,I.base.free,fun b o e hx=>?_,I.base.tups,I.base.frzs,I.base.tbls⟩,⟨_,hn',fun j y v' e1 e2 e3=>?_⟩,fun y c e=>?_,I.free,I.freeC,fun p hp=>?_,tracked ⟨oL,hoL,I.free⟩ hs,by simpa using I.len,(by first | exact Nat.le_add_left _ _ | exact I.tk)⟩ ⟨_,hs,.inl rfl⟩
  ·exact (hs.2 b (Nat.ne_of_lt (Nat.lt_of_lt_of_le (Heap.lt_size e) I.ok.above))).trans (I.base.keep b o e n hb hx)
  ·obtain⟨sl,e1⟩:=I.base.slot b o e n hb hx
   exact⟨sl,(hs.2 b (Nat.ne_of_lt (Nat.lt_of_lt_of_le (Heap.lt_size e) I.ok.above))).trans e1⟩
  ·obtain⟨o',e1⟩:=I.base.there b o e hx
   exact⟨o',(hs.2 b (Nat.ne_of_lt (Nat.lt_of_lt_of_le (Heap.lt_size e) I.ok.above))).trans e1⟩
  ·by_cases hj:j=i
   ·subst hj
    rw[hi] at e1;cases e1
    rw[List.getElem?_set_self hiσ] at e2
    cases e2
    exact⟨u,r,.inl ⟨hk,by simp⟩⟩
   ·rw[List.getElem?_set_ne (Ne.symm hj)] at e2
    obtain⟨u',r',q⟩:=hl j y v' e1 e2 e3
    refine⟨u',r',?_⟩
    rcases q with ⟨k,e⟩ | ⟨k,c,e,z⟩
    ·refine .inl ⟨k,?_⟩
     have:y ≠ x:=fun e=>hj (zDl hN e1 (e ▸ hi))
     simp[this,e]
    ·exact .inr ⟨k,c,e,z.sameBut hs (cne y c e)⟩
  ·obtain⟨w',z⟩:=I.cell y c e
   exact⟨w',z.sameBut hs (cne y c e)⟩
  ·obtain⟨e,n,ne,nf,d⟩:=I.pin p hp
   exact⟨(hs.2 p.1 ne).trans e,n,ne,nf,d⟩
 ·have hfn:X.fn x=true:=by
   rcases hf with z | z
   ·exact z
   ·rw[z] at hk;cases hk
  obtain⟨c,hc⟩:=I.ok.has x (.inl hk)
  obtain⟨w',z⟩:=I.cell x c hc
  refine wpAny_storeName_cell I.ok.kind hk hc z (fun h' hc' hs=>?_)
  obtain⟨oc,hoc,hocd⟩:=id z
  refine h { s with heap:=h' } ⟨I.ok,I.os,I.bare,⟨fun b o e n hb hx=>?_,fun b o e n hb hx=>?_,I.base.free,fun b o e hx=>?_,I.base.tups,I.base.frzs,I.base.tbls⟩,⟨m,hn.sameBut hs (Ne.symm (cne x c hc)),fun j y v' e1 e2 e3=>?_⟩,fun y c' e=>?_,I.free,I.freeC,fun p hp=>?_,tracked ⟨oc,hoc,I.freeC x c hc⟩ hs,by simpa using I.len,I.tk⟩ ⟨c,hs,.inr hc⟩
  ·exact (hs.2 b (Nat.ne_of_lt (Nat.lt_of_lt_of_le (Heap.lt_size e) (I.ok.cab x c hfn hc)))).trans (I.base.keep b o e n hb hx)
  ·obtain⟨sl,e1⟩:=I.base.slot b o e n hb hx
   exact⟨sl,(hs.2 b (Nat.ne_of_lt (Nat.lt_of_lt_of_le (Heap.lt_size e) (I.ok.cab x c hfn hc)))).trans e1⟩
  ·obtain⟨o',e1⟩:=I.base.there b o e hx
   exact⟨o',(hs.2 b (Nat.ne_of_lt (Nat.lt_of_lt_of_le (Heap.lt_size e) (I.ok.cab x c hfn hc)))).trans e1⟩
  ·by_cases hj:j=i
   ·subst hj
    rw[hi] at e1;cases e1
    rw[List.getElem?_set_self hiσ] at e2
    cases e2
    exact⟨u,r,.inr ⟨.inl hk,c,hc,hc'⟩⟩
   ·rw[List.getElem?_set_ne (Ne.symm hj)] at e2
    obtain⟨u',r',q⟩:=hl j y v' e1 e2 e3
    refine⟨u',r',?_⟩
    rcases q with q | ⟨k,c',e,z'⟩
    ·exact .inl q
    ·refine .inr ⟨k,c',e,z'.sameBut hs ?_⟩
     rintro rfl
     exact hj (zDl hN e1 (I.ok.inj _ _ _ e hc ▸ hi))
  ·by_cases hcc:c'=c
   ·subst hcc;exact⟨_,hc'⟩
   ·obtain⟨w2,z2⟩:=I.cell y c' e
    exact⟨w2,z2.sameBut hs hcc⟩
  ·obtain⟨e,n,ne,nf,d⟩:=I.pin p hp
   refine⟨(hs.2 p.1 ?_).trans e,n,ne,nf,d⟩
   intro q
   rw[q,hoc] at e
   have q':oc=p.2:=Option.some.inj e
   exact d w' (by rw[← q'];exact hocd)
theorem zAD {M:Model} {A:Around} {E:Value->Shared->Prop} {i:Nat} {x:Str} {v:V} {u:Value} {Q:Unit->Shared->Prop} (I:Inv X pins σ H s) (hN:X.N.Nodup) (hi:X.N[i]? = some x) (hx:Loc X.env.scope x) (r:RelV v u)
  (h:∀ s',Inv X pins (σ.set i (some v)) H s'->Q () s') (hf:X.fn x=true\/X.env.scope.names.lookup x=some .local:=by first | exact .inl rfl | exact .inr rfl | assumption):wpAny M A (storeName X.env x u) Q E s :=
 zBS I hN hi hx r (fun s' I' _=>h s' I') hf
theorem Inv.call' {s':Shared} {ch:List Addr} (I:Inv X pins σ H s) (ho:s'.os=s.os) (u:Un (frs X.stack) ch H H' s.heap s'.heap) (hok:HOk X.prog X.w H' s'.heap) (hg:AllBare s'.gens) (ht:1<=s'.toks)
  (hch:∀ b∈ch,(b∈X.ex\/X.s₀.heap.objs.size<=b)/\b ≠ X.env.locals/\(∀ x c,X.env.cells.lookup x=some c->c ≠ b)/\∀ p∈X.pn++pins,p.1 ≠ b):Inv X pins σ H' s':=by
 obtain⟨h',g',d',t',o'⟩:=s'
 have e:o'=s.os:=ho
 subst e
 exact I.call (g':=g') (t':=t') (d':=d') u hok hg ht hch
end
abbrev XK:=Value->Option Addr->Hp->Prop
abbrev St:=List (Option V)
abbrev VK:=V->Hp->Prop
abbrev TE:=St->Hp->VK->Prop
abbrev TT:=St->Hp->(Bool->Hp->Prop)->Prop
abbrev TA:=St->Hp->(List V->Hp->Prop)->Prop
structure Ends where
 nx:St->Hp->Prop
 rt:VK
 bk:St->Hp->Prop:=fun _ _=>False
 ct:St->Hp->Prop:=fun _ _=>False
abbrev TS:=Ends->St->Hp->Prop
def EP (X:Cx) (pins:List (Addr × Obj)) (σ:St) (Q:VK) (u:Value) (s':Shared):Prop:=∃ v H',Inv X pins σ H' s'/\RelV v u/\Q v H'
def TP (X:Cx) (pins:List (Addr × Obj)) (σ:St) (Q:Bool->Hp->Prop) (b:Bool) (s':Shared):Prop:=∃ H',Inv X pins σ H' s'/\Q b H'
def AP (X:Cx) (pins:List (Addr × Obj)) (σ:St) (Q:List V->Hp->Prop) (us:List Value) (s':Shared):Prop:=∃ vs H',Inv X pins σ H' s'/\Vals vs us/\Q vs H'
def SP (X:Cx) (pins:List (Addr × Obj)) (D:Ends) (f:Flow) (s':Shared):Prop :=
 match f with
 | .next=>∃ σ' H',Inv X pins σ' H' s'/\D.nx σ' H'
 | .brk=>∃ σ' H',Inv X pins σ' H' s'/\D.bk σ' H'
 | .cont=>∃ σ' H',Inv X pins σ' H' s'/\D.ct σ' H'
 | .ret u=>∃ v σ' H',Inv X pins σ' H' s'/\RelV v u/\D.rt v H'
def PE (X:Cx) (e:Expr) (t:TE):Prop :=
 ∀ (pins:List (Addr × Obj)) (s:Shared) (σ:St) (H:Hp) (Q:VK),Inv X pins σ H s->t σ H Q->wpAny (model X.prog X.w) X.A (eval e X.env) (EP X pins σ Q) X.xe s
def PT (X:Cx) (e:Expr) (t:TT):Prop :=
 ∀ (pins:List (Addr × Obj)) (s:Shared) (σ:St) (H:Hp) (Q:Bool->Hp->Prop),Inv X pins σ H s->t σ H Q->wpAny (model X.prog X.w) X.A (isTrue e X.env (eval e X.env)) (TP X pins σ Q) X.xe s
def PW (X:Cx) (e:Expr) (t:TT):Prop :=
 ∀ (WB:Sem Value) (pins:List (Addr × Obj)) (s:Shared) (σ:St) (H:Hp) (Q:Bool->Hp->Prop),Inv X pins σ H s->t σ H Q->wpAny (model X.prog X.w) X.A (isTrue e X.env WB) (TP X pins σ Q) X.xe s
theorem PW.pt {X:Cx} {e:Expr} {t:TT} (h:PW X e t):PT X e t:=h _
def PA (X:Cx) (es:List Expr) (t:TA):Prop :=
 ∀ (pos:Pos) (pins:List (Addr × Obj)) (s:Shared) (σ:St) (H:Hp) (Q:List V->Hp->Prop),Inv X pins σ H s->t σ H Q->wpAny (model X.prog X.w) X.A (spliced (backTo pos (starEach es X.env))) (AP X pins σ Q) X.xe s
def PS (X:Cx) (st:Stmt) (t:TS):Prop :=
 ∀ (pins:List (Addr × Obj)) (s:Shared) (σ:St) (H:Hp) (D:Ends),Inv X pins σ H s->t D σ H->wpAny (model X.prog X.w) X.A (exec st X.env) (SP X pins D) X.xe s
def PSs (X:Cx) (st:List Stmt) (t:TS):Prop :=
 ∀ (pins:List (Addr × Obj)) (s:Shared) (σ:St) (H:Hp) (D:Ends),Inv X pins σ H s->t D σ H->wpAny (model X.prog X.w) X.A (execs st X.env) (SP X pins D) X.xe s
theorem thn {α:Type} {t:Sem α} {Q Q':α->Shared->Prop} {M:Model} {A:Around} {E:Value->Shared->Prop} {s:Shared} (h:wpAny M A t Q E s) (hQ:∀ a s,Q a s->Q' a s):wpAny M A t Q' E s:=wpAny_mono h hQ fun _ _ x=>x
end L2
namespace L2
open PySem PySem.Spec PyProof.Rows
section
variable {X:Cx}
def zAr (i:Nat):TE:=fun σ H Q=>∃ v,σ[i]? = some (some v)/\Q v H
def tC (v:V):TE:=fun _ H Q=>Q v H
theorem zLM {i:Nat} {x:Str} {pos:Pos} (hN:X.N[i]? = some x) (hv:Vis X.env.scope x) (hd:(x == ("__debug__" : Str))=false:=by decide) (hcd:(x == ("__classdict__" : Str))=false:=by decide):PE X (.Name x pos) (zAr i):=by
 intro pins s σ H Q I h
 obtain⟨v,e,h⟩:=h
 obtain⟨m,hn,hl⟩:=I.loc
 obtain⟨u,r,l⟩:=hl i x v hN e hv
 have fin:EP X pins σ Q u s:=⟨v,H,I,r,h⟩
 rcases l with ⟨hk,hm⟩ | ⟨hk,c,hc,hcell⟩
 ·exact wpAny_Name (wpAny_loadName_local I.ok.kind hk hn hm fin) hd
 ·rcases hk with hk | hk
  ·exact wpAny_Name (wpAny_loadName_cell I.ok.kind hk hc hcell fin) hd
  ·exact wpAny_Name (wpAny_loadName_free I.ok.kind hk hc hcell fin hcd) hd
theorem QD {i j pos}:PE X (.Constant (.int i) j pos) (tC (.int i)):=fun _ _ _ H _ I h=>wpAny_Constant_int ⟨.int i,H,I.tok _,I.rI,h⟩
theorem Wj {b j pos}:PE X (.Constant (.bool b) j pos) (tC (.bl b)):=fun _ _ _ H _ I h=>Constant_bool ⟨.bl b,H,I,rfl,h⟩
theorem Q8 {j pos}:PE X (.Constant .none j pos) (tC .non):=fun _ _ _ H _ I h=>Constant_none ⟨.non,H,I,rfl,h⟩
theorem JC {x j pos}:PE X (.Constant (.str x) j pos) (tC (.str x)):=fun _ _ _ H _ I h=>Calls.Constant_str ⟨.str x,H,I.tok _,I.rS,h⟩
def Gl (X:Cx) (x:Str):Prop:=X.env.kindOf x=some .globalImplicit
theorem Z3 {E:Value->Shared->Prop} {pins:List (Addr × Obj)} {s:Shared} {σ:St} {H:Hp} {x:Str} {u:Value} {pos:Pos} {Q:Value->Shared->Prop} (I:Inv X pins σ H s) (hg:Gl X x) (hm:X.mg x=some u) (h:Q u s)
  (hd:(x == ("__debug__" : Str))=false:=by decide):wpAny (model X.prog X.w) X.A (eval (.Name x pos) X.env) Q E s :=
 Calls.Name_function_global I.ok.kind hg (Calls.loadGlobal_global (by rw[I.ok.glob];exact I.mod.glob.keeps I.bk) hm h) hd
theorem Zn {E:Value->Shared->Prop} {pins:List (Addr × Obj)} {s:Shared} {σ:St} {H:Hp} {x:Str} {u:Value} {pos:Pos} {Q:Value->Shared->Prop} (I:Inv X pins σ H s) (hg:Gl X x) (hm:X.mg x=none) (hv:bootBuiltins x=some u) (h:Q u s)
  (hn:x ≠ "__name__" := by decide) (hd:(x == ("__debug__" : Str))=false:=by decide):wpAny (model X.prog X.w) X.A (eval (.Name x pos) X.env) Q E s:=by
 obtain⟨mb,h1,h2⟩:=I.mod.blt
 exact Calls.Name_function_global I.ok.kind hg (Calls.loadGlobal_builtin (by rw[I.ok.glob];exact I.mod.glob.keeps I.bk) hm (by rw[I.ok.blt];exact h1.keeps I.bk) ((h2 x hn).trans hv) h) hd
theorem Qq {x:Str} {v:V} {u:Value} {pos:Pos} (hg:Gl X x) (hm:X.mg x=some u) (r:RelV v u) (hd:(x == ("__debug__" : Str))=false:=by decide):PE X (.Name x pos) (tC v) :=
 fun _ _ _ H _ I h=>Z3 I hg hm ⟨v,H,I,r,h⟩ hd
theorem QZ {x:Str} {v:V} {u:Value} {pos:Pos} (hg:Gl X x) (hm:X.mg x=none) (hv:bootBuiltins x=some u) (r:RelV v u) (hn:x ≠ "__name__" := by decide) (hd:(x == ("__debug__" : Str))=false:=by decide):PE X (.Name x pos) (tC v) :=
 fun _ _ _ H _ I h=>Zn I hg hm hv ⟨v,H,I,r,h⟩ hn hd
variable {a b:Expr} {ta tb:TE} {pos:Pos}
def tB (t:TE):TT:=fun σ H Q=>t σ H fun x H1=>∃ c,x=.bl c/\Q c H1
theorem QY {e:Expr} {t:TE} (h:PE X e t) (he:∀ WB,isTrue e X.env WB=(do let v ← WB;standAt e.pos;holding [v] (truthy v)):=by intro _;rfl):PT X e (tB t):=by
 intro pins s σ H Q I hw
 refine isTrue_plain (thn (h pins s σ H _ I hw) fun v s1 ⟨x,H1,I1,r1,q1⟩=>?_) (he _)
 obtain⟨d,rfl,q⟩:=q1
 cases r1
 exact wpAny_truthy_bool ⟨H1,I1,q⟩
variable {tA tB':TT} {Q5:List Expr}
def zLJ (t u:TT):TT:=fun σ H Q=>t σ H fun c H1=>if c=true then u σ H1 Q else Q false H1
def tOr (t u:TT):TT:=fun σ H Q=>t σ H fun c H1=>if c=true then Q true H1 else u σ H1 Q
def zLY (t:TT):TT:=fun σ H Q=>t σ H fun c H1=>Q (!c) H1
theorem zB8 (ha:PT X a tA):PW X (.BoolOp .And [a] pos) tA:=by
 intro wh pins s σ H Q I h
 refine isTrue_and (thn (ha pins s σ H Q I h) fun c s1 e=>?_)
 cases c with
 | true=>exact isTrue_and_nil e
 | false=>exact e
theorem zAM (ha:PT X a tA):PW X (.BoolOp .Or [a] pos) tA:=by
 intro wh pins s σ H Q I h
 refine isTrue_or (thn (ha pins s σ H Q I h) fun c s1 e=>?_)
 cases c with
 | false=>exact isTrue_or_nil e
 | true=>exact e
theorem zEN (ha:PT X a tA) (hb:PW X (.BoolOp .And (b::Q5) pos) tB'):PW X (.BoolOp .And (a::b::Q5) pos) (zLJ tA tB'):=by
 intro wh pins s σ H Q I h
 refine isTrue_and (thn (ha pins s σ H _ I h) fun c s1 ⟨H1,I1,q1⟩=>?_)
 cases c with
 | true=>exact hb wh pins s1 σ H1 Q I1 q1
 | false=>exact⟨H1,I1,q1⟩
theorem zBU (ha:PT X a tA) (hb:PW X (.BoolOp .Or (b::Q5) pos) tB'):PW X (.BoolOp .Or (a::b::Q5) pos) (tOr tA tB'):=by
 intro wh pins s σ H Q I h
 refine isTrue_or (thn (ha pins s σ H _ I h) fun c s1 ⟨H1,I1,q1⟩=>?_)
 cases c with
 | true=>exact⟨H1,I1,q1⟩
 | false=>exact hb wh pins s1 σ H1 Q I1 q1
theorem W6 (ha:PT X a tA):PT X (.UnaryOp .Not a pos) (zLY tA):=by
 intro pins s σ H Q I h
 exact isTrue_not (ha pins s σ H (fun c H1=>Q (!c) H1) I h)
def zKC (ta tb:TE):TE:=fun σ H Q=>ta σ H fun x H1=>∃ c,x=.bl c/\if c=true then tb σ H1 Q else Q (.bl false) H1
def zLn (ta tb:TE):TE:=fun σ H Q=>ta σ H fun x H1=>∃ c,x=.bl c/\if c=true then Q (.bl true) H1 else tb σ H1 Q
def zKL (ta:TE):TE:=fun σ H Q=>ta σ H fun x H1=>∃ c,x=.bl c/\Q (.bl (!c)) H1
theorem Ye {op} {t:TE} (h:PE X a t):PE X (.BoolOp op [a] pos) t:=fun pins s σ H Q I hw=>BoolOp_one (h pins s σ H Q I hw)
theorem YJ (ha:PE X a ta) (hb:PE X (.BoolOp .And (b::Q5) pos) tb):PE X (.BoolOp .And (a::b::Q5) pos) (zKC ta tb):=by
 intro pins s σ H Q I h
 refine BoolOp_and (thn (ha pins s σ H _ I h) fun v s1 ⟨x,H1,I1,r1,q1⟩=>?_)
 obtain⟨c,rfl,q1⟩:=q1
 cases r1
 refine wpAny_truthy_bool ?_
 cases c with
 | true=>exact hb pins s1 σ H1 Q I1 q1
 | false=>exact⟨.bl false,H1,I1,rfl,q1⟩
theorem zL3 (ha:PE X a ta) (hb:PE X (.BoolOp .Or (b::Q5) pos) tb):PE X (.BoolOp .Or (a::b::Q5) pos) (zLn ta tb):=by
 intro pins s σ H Q I h
 refine BoolOp_or (thn (ha pins s σ H _ I h) fun v s1 ⟨x,H1,I1,r1,q1⟩=>?_)
 obtain⟨c,rfl,q1⟩:=q1
 cases r1
 refine wpAny_truthy_bool ?_
 cases c with
 | false=>exact hb pins s1 σ H1 Q I1 q1
 | true=>exact⟨.bl true,H1,I1,rfl,q1⟩
theorem zDx (ha:PE X a ta):PE X (.UnaryOp .Not a pos) (zKL ta):=by
 intro pins s σ H Q I h
 refine UnaryOp_ (thn (ha pins s σ H _ I h) fun v s1 ⟨x,H1,I1,r1,q1⟩=>?_)
 obtain⟨c,rfl,q1⟩:=q1
 cases r1
 exact not_of (wpAny_truthy_bool ⟨.bl (!c),H1,I1,rfl,q1⟩)
def tIf (t:TT) (ta tb:TE):TE:=fun σ H Q=>t σ H fun c H1=>if c=true then ta σ H1 Q else tb σ H1 Q
theorem zDD {c:Expr} (hc:PT X c tA) (ha:PE X a ta) (hb:PE X b tb):PE X (.IfExp c a b pos) (tIf tA ta tb):=by
 intro pins s σ H Q I h
 refine wpAny_IfExp (thn (hc pins s σ H _ I h) fun d s1 ⟨H1,I1,q1⟩=>?_)
 cases d with
 | true=>exact ha pins s1 σ H1 Q I1 q1
 | false=>exact hb pins s1 σ H1 Q I1 q1
end
end L2
namespace L2
open PySem PySem.Spec PyProof.Rows
def SqL (K:W.Frag) (H:Hp) (a:Addr) (xs:List V):Prop :=
 Rd H a (.lst xs) \/
  ∃ (o:Obj) (its:Array Value) (n:Nat),K.lookup a=some o/\o.cls=.type "list" /\ o.dict=none/\o.data=.seq its n/\its.size<=sizeLine/\Vals xs its.toList
def SqT (K:W.Frag) (H:Hp) (a:Addr) (xs:List V):Prop :=
 Rd H a (.tup xs) \/
  ∃ (o:Obj) (its:Array Value) (n:Nat),K.lookup a=some o/\o.cls=.type "tuple" /\ o.data=.seq its n/\its.size<=sizeLine/\Vals xs its.toList
def zL6:Value->Option V
 | .none=>some .non
 | .bool b=>some (.bl b)
 | .int i _=>some (.int i)
 | .str x _=>some (.str x)
 | .bytes b _=>some (.byt b)
 | .float b _=>some (.flt b)
 | .ref a=>some (.ref a)
 | .type n=>some (.ty n)
 | _=>none
theorem RelV.abs {x:V} {u:Value} (r:RelV x u):zL6 u=some x:=by
 cases x with
 | non=>cases r;rfl
 | bl _=>cases r;rfl
 | int _=>obtain⟨t,rfl⟩:=r;rfl
 | str _=>obtain⟨t,rfl⟩:=r;rfl
 | byt _=>obtain⟨t,rfl⟩:=r;rfl
 | flt _=>obtain⟨t,rfl⟩:=r;rfl
 | ref _=>cases r;rfl
 | ty _=>cases r;rfl
theorem RelV.inj {x y:V} {u:Value} (r:RelV x u) (q:RelV y u):x=y:=Option.some.inj (r.abs.symm.trans q.abs)
theorem Vals.inj:∀ {xs ys:List V} {us:List Value},Vals xs us->Vals ys us->xs=ys
 | _,_,_,.nil,.nil=>rfl
 | _,_,_,.cons r t,.cons r' t'=>by rw[r.inj r',Vals.inj t t']
section
variable {X:Cx} {pins:List (Addr × Obj)} {σ:St} {H:Hp} {s:Shared} {a:Addr} {xs ys:List V}
theorem SqL.of {K:W.Frag} (h:H a=some (.lst xs)):SqL K H a xs:=.inl (.inl h)
theorem SqT.of {K:W.Frag} (h:H a=some (.tup xs)):SqT K H a xs:=.inl (.inl h)
theorem Inv.list (I:Inv X pins σ H s) (h:SqL X.K H a xs):∃ its:List Value,Vals xs its/\PlainL s.heap a its.toArray/\xs.length<=sizeLine:=by
 rcases h with h | ⟨o,its,n,hk,hc,hd,hs,hz,r⟩
 ·obtain⟨z,its,n,r,e⟩:=h.ok I.hok
  exact⟨its,r,⟨_,n,e,rfl,rfl,rfl⟩,z⟩
 ·refine⟨its.toList,r,⟨o,n,I.kIn a o hk,hc,hd,by simpa using hs⟩,?_⟩
  have e:=r.length
  simp only[Array.length_toList] at e
  omega
theorem Inv.tuple (I:Inv X pins σ H s) (h:SqT X.K H a xs):∃ its:List Value,Vals xs its/\IsTup s.heap a its.toArray/\xs.length<=sizeLine:=by
 rcases h with h | ⟨o,its,n,hk,hc,hs,hz,r⟩
 ·obtain⟨z,its,r,p⟩:=h.ok I.hok
  exact⟨its,r,p,z⟩
 ·refine⟨its.toList,r,⟨o,I.kIn a o hk,hc,n,by simpa using hs⟩,?_⟩
  have e:=r.length
  simp only[Array.length_toList] at e
  omega
theorem Inv.list_inj (I:Inv X pins σ H s) (h:SqL X.K H a xs) (h':SqL X.K H a ys):xs=ys:=by
 obtain⟨its,r,⟨o,n,e,_,_,d⟩,_⟩:=I.list h
 obtain⟨its',r',⟨o',n',e',_,_,d'⟩,_⟩:=I.list h'
 rw[e] at e';cases e'
 rw[d] at d'
 injection d' with d1 _
 have:its=its':=by simpa using congrArg Array.toList d1
 subst this
 exact r.inj r'
theorem Inv.tuple_inj (I:Inv X pins σ H s) (h:SqT X.K H a xs) (h':SqT X.K H a ys):xs=ys:=by
 obtain⟨its,r,⟨o,e,_,n,d⟩,_⟩:=I.tuple h
 obtain⟨its',r',⟨o',e',_,n',d'⟩,_⟩:=I.tuple h'
 rw[e] at e';cases e'
 rw[d] at d'
 injection d' with d1 _
 have:its=its':=by simpa using congrArg Array.toList d1
 subst this
 exact r.inj r'
end
abbrev Cx.wish (X:Cx) (E:Value->Shared->Prop):Cx:={ X with xe:=E }
abbrev Cx.nox (X:Cx):Cx:=X.wish fun _ _=>False
theorem Cx.Ok.wish {X:Cx} (ok:X.Ok) (E:Value->Shared->Prop):(X.wish E).Ok :=
 ⟨ok.mod,ok.kind,ok.glob,ok.blt,ok.above,ok.inj,ok.has,ok.cab,ok.hd,ok.frames,ok.stk,ok.exf,ok.bs,ok.bsz,ok.noex,ok.exfs,ok.funs,ok.frf⟩
theorem Cx.Ok.unwish {X:Cx} {E:Value->Shared->Prop} (ok:(X.wish E).Ok):X.Ok :=
 ⟨ok.mod,ok.kind,ok.glob,ok.blt,ok.above,ok.inj,ok.has,ok.cab,ok.hd,ok.frames,ok.stk,ok.exf,ok.bs,ok.bsz,ok.noex,ok.exfs,ok.funs,ok.frf⟩
section
variable {X:Cx} {pins:List (Addr × Obj)} {σ:St} {H:Hp} {s:Shared} {E:Value->Shared->Prop}
theorem Inv.wish (I:Inv X pins σ H s) (E:Value->Shared->Prop):Inv (X.wish E) pins σ H s:=⟨I.ok.wish E,I.os,I.bare,I.base,I.loc,I.cell,I.free,I.freeC,I.pin,I.hok,I.len,I.tk⟩
theorem Inv.unwish (I:Inv (X.wish E) pins σ H s):Inv X pins σ H s:=⟨I.ok.unwish,I.os,I.bare,I.base,I.loc,I.cell,I.free,I.freeC,I.pin,I.hok,I.len,I.tk⟩
theorem SP.unwish {D:Ends} {f:Flow} {s':Shared} (h:SP (X.wish E) pins D f s'):SP X pins D f s':=by
 cases f with
 | next=>obtain⟨σ',H',I,q⟩:=h;exact⟨σ',H',I.unwish,q⟩
 | brk=>obtain⟨σ',H',I,q⟩:=h;exact⟨σ',H',I.unwish,q⟩
 | cont=>obtain⟨σ',H',I,q⟩:=h;exact⟨σ',H',I.unwish,q⟩
 | ret u=>obtain⟨v,σ',H',I,r,q⟩:=h;exact⟨v,σ',H',I.unwish,r,q⟩
theorem PSs.nox {st:List Stmt} {t:TS} (h:PSs X.nox st t):PSs X st t:=fun pins s σ H D I hw =>
 wpAny_mono (h pins s σ H D (I.wish _) hw) (fun _ _ q=>q.unwish) fun _ _ z=>False.elim z
end
section
variable {X:Cx} {st:Stmt} {Q5:List Stmt} {t u:TS} {e:Expr} {te:TE} {pos:Pos}
def zH5:TS:=fun D σ H=>D.nx σ H
def zLe (t u:TS):TS:=fun D σ H=>t { D with nx:=u D } σ H
theorem QO:PSs X [] zH5:=fun _ _ σ H _ I h=>wpAny_execs_nil ⟨σ,H,I,h⟩
theorem QB (h1:PS X st t) (h2:PSs X Q5 u):PSs X (st::Q5) (zLe t u):=by
 intro pins s σ H D I h
 refine wpAny_execs_cons (thn (h1 pins s σ H { D with nx:=u D } I h) fun f s1 q=>?_)
 cases f with
 | next =>
  obtain⟨σ',H',I',q⟩:=q
  exact h2 pins s1 σ' H' D I' q
 | ret v=>exact q
 | brk=>exact q
 | cont=>exact q
theorem QG (h1:PS X st t):PSs X [st] t:=by
 intro pins s σ H D I h
 refine wpAny_execs_cons (thn (h1 pins s σ H D I h) fun f s1 q=>?_)
 cases f with
 | next=>exact wpAny_execs_nil q
 | ret v=>exact q
 | brk=>exact q
 | cont=>exact q
def zLF:TS:=fun D σ H=>D.bk σ H
theorem zHH:PS X (.Break pos) zLF:=fun _ _ σ H _ I h=>wpAny_Break ⟨σ,H,I,h⟩
theorem Inv.quiet {pins:List (Addr × Obj)} {σ:St} {H:Hp} {s:Shared} (I:Inv X pins σ H s):interactive X.env=false:=by simp[interactive,I.ok.kind]
def zID (te:TE):TS:=fun D σ H=>te σ H fun _ H1=>D.nx σ H1
theorem Qm (he:PE X e te) (hs:swapsWith e none pos.line X.env=pure false:=by rfl):PS X (.Expr e pos) (zID te):=by
 intro pins s σ H D I h
 exact wpAny_Expr_any (thn (he pins s σ H _ I h) fun v s1 ⟨x,H1,I1,r1,q1⟩=>⟨σ,H1,I1,q1⟩) I.quiet hs
def zIs (te:TE):TS:=fun D σ H=>te σ H D.rt
theorem QN (he:PE X e te):PS X (.Return (some e) pos) (zIs te):=by
 intro pins s σ H D I h
 exact wpAny_Return_some (thn (he pins s σ H _ I h) fun v s1 ⟨x,H1,I1,r1,q1⟩=>⟨x,σ,H1,I1,r1,q1⟩)
def zLX:TS:=fun D _ H=>D.rt .non H
def zKV (c:TT) (t u:TS):TS:=fun D σ H=>c σ H fun b H1=>if b=true then t D σ H1 else u D σ H1
theorem QT {c:Expr} {a b:List Stmt} {tc:TT} (hc:PT X c tc) (ha:PSs X a t) (hb:PSs X b u):PS X (.If c a b pos) (zKV tc t u):=by
 intro pins s σ H D I h
 refine wpAny_If (thn (hc pins s σ H _ I h) fun d s1 ⟨H1,I1,q1⟩=>?_)
 cases d with
 | true=>exact ha pins s1 σ H1 D I1 q1
 | false=>exact hb pins s1 σ H1 D I1 q1
def zIR:TS:=fun _ _ _=>False
theorem Wf:PS X st zIR:=fun _ _ _ _ _ _ h=>h.elim
theorem QV {sts:List Stmt}:PSs X sts zIR:=fun _ _ _ _ _ _ h=>h.elim
end
abbrev TG:=V->St->Hp->(St->Hp->Prop)->Prop
abbrev TGs:=List V->St->Hp->(St->Hp->Prop)->Prop
def PG (X:Cx) (target:Expr) (t:TG):Prop :=
 ∀ (pins:List (Addr × Obj)) (s:Shared) (σ:St) (H:Hp) (v:V) (u:Value) (Q:St->Hp->Prop),Inv X pins σ H s->RelV v u->t v σ H Q ->
  wpAny (model X.prog X.w) X.A (assign target X.env u) (fun _ s'=>∃ σ' H',Inv X pins σ' H' s'/\Q σ' H') X.xe s
def PGs (X:Cx) (ts:List Expr) (t:TGs):Prop :=
 ∀ (pins:List (Addr × Obj)) (s:Shared) (σ:St) (H:Hp) (vs:List V) (us:List Value) (Q:St->Hp->Prop),Inv X pins σ H s->Vals vs us->t vs σ H Q ->
  wpAny (model X.prog X.w) X.A (assignInOrder ((assignEach ts X.env).map (·.2)) us) (fun _ s'=>∃ σ' H',Inv X pins σ' H' s'/\Q σ' H') X.xe s
abbrev zJa:=V->V->V->Hp->(Hp->Prop)->Prop
def zKc (X:Cx) (t:zJa):Prop :=
 ∀ (pins:List (Addr × Obj)) (s:Shared) (σ:St) (H:Hp) (o i v:V) (ov iv u:Value) (Q:Hp->Prop),Inv X pins σ H s->RelV o ov->RelV i iv->RelV v u->t o i v H Q ->
  wpAny (model X.prog X.w) X.A (setItem ov iv u) (fun _ s'=>∃ H',Inv X pins σ H' s'/\Q H') X.xe s
section
variable {X:Cx} {pos:Pos}
def Wz (i:Nat):TG:=fun v σ H Q=>Q (σ.set i (some v)) H
theorem Qt {i:Nat} {x:Str} (hN:X.N.Nodup) (hi:X.N[i]? = some x) (hx:Loc X.env.scope x) (hf:X.fn x=true\/X.env.scope.names.lookup x=some .local:=by first | exact .inl rfl | exact .inr rfl | assumption):PG X (.Name x pos) (Wz i):=by
 intro pins s σ H v u Q I r h
 exact wpAny_assign_Name (zAD I hN hi hx r (fun s' I'=>⟨_,H,I',h⟩) hf)
def zKo:TGs:=fun vs σ H Q=>vs=[]/\Q σ H
def zFF (t:TG) (u:TGs):TGs:=fun vs σ H Q=>∃ v r,vs=v::r/\t v σ H fun σ' H'=>u r σ' H' Q
theorem zEx:PGs X [] zKo:=by
 intro pins s σ H vs us Q I r h
 obtain⟨e,h⟩:=h
 subst e
 cases r
 exact assignInOrder_nil ⟨σ,H,I,h⟩
theorem W5 {e:Expr} {es:List Expr} {t:TG} {u:TGs} (h1:PG X e t) (h2:PGs X es u)
  (hs:(assignEach (e::es) X.env).map (·.2)=assign e X.env::(assignEach es X.env).map (·.2):=by rfl):PGs X (e::es) (zFF t u):=by
 intro pins s σ H vs us Q I r h
 obtain⟨v,vr,e1,h⟩:=h
 subst e1
 cases r with
 | cons r rr =>
  rw[hs]
  refine assignInOrder_cons (thn (h1 pins s σ H _ _ _ I r h) fun _ s1 ⟨σ1,H1,I1,q1⟩=>?_)
  exact h2 pins s1 σ1 H1 _ _ Q I1 rr q1
def zKW (K:W.Frag) (n:Nat) (t:TGs):TG:=fun v σ H Q=>∃ a xs,v=.ref a/\SqT K H a xs/\xs.length=n/\t xs σ H Q
theorem zHv {es:List Expr} {k:Nat} {t:TGs} {n:Nat} (hc:X.calm=true) (h:PGs X es t)
  (hn:(assignEach es X.env).length=n:=by rfl) (hst:(assignEach es X.env).findIdx? (·.1)=none:=by rfl):PG X (.Tuple es k pos) (zKW X.K n t):=by
 intro pins s σ H v u Q I r hw
 obtain⟨a,xs,e1,hq,hl,hw⟩:=hw
 subst e1
 cases r
 obtain⟨its,rv,ht,hz⟩:=I.tuple hq
 refine assign_Tuple_tuple (I.ok.hd hc) ht (by simp[hn,← hl,rv.length]) hst fun h' hx=>?_
 have I1:Inv X pins σ H { s with heap:=h' }:=I.kept (t':=s.toks) fun b o e=>hx b o (Nat.ne_of_lt (Heap.lt_size e)) e
 exact h pins _ σ H xs _ Q I1 (by simpa using rv) hw
def zLb (to ti:TE) (t:zJa):TG:=fun v σ H Q=>to σ H fun o H1=>ti σ H1 fun i H2=>t o i v H2 fun H3=>Q σ H3
theorem ZR {o i:Expr} {to ti:TE} {t:zJa} (ho:PE X o to) (hi:PE X i ti) (hs:zKc X t)
  (ha:∀ v,assign (.Subscript o i pos) X.env v=(do
   let ov ← holding [v] (eval o X.env)
   let iv ← holding [v,ov] (eval i X.env)
   standAt pos
   holding [v,ov,iv] (setItem ov iv v)
   release [v,ov,iv] []):=by intro _;rfl):PG X (.Subscript o i pos) (zLb to ti t):=by
 intro pins s σ H v u Q I r h
 rw[ha]
 refine wpAny_bind (wpAny_holding (thn (ho pins s σ H _ I h) fun ov s1 ⟨x,H1,I1,r1,q1⟩=>?_))
 refine wpAny_bind (wpAny_holding (thn (hi pins s1 σ H1 _ I1 q1) fun iv s2 ⟨y,H2,I2,r2,q2⟩=>?_))
 refine wpAny_bind (wpAny_standAt (wpAny_bind (wpAny_holding (thn (hs pins s2 σ H2 x y v ov iv u _ I2 r1 r2 r q2) fun _ s3 ⟨H3,I3,q3⟩=>?_))))
 exact wpAny_release ⟨σ,H3,I3,q3⟩
def zF9 (te:TE) (g:TG):TS:=fun D σ H=>te σ H fun x H1=>g x σ H1 D.nx
theorem ZK {tg e:Expr} {te:TE} {g:TG} (he:PE X e te) (hg:PG X tg g) (hs:swapsWithSole [tg] e pos.line X.env=pure false:=by rfl) (hw:swappedStores [tg] e X.env=pure none:=by rfl)
  (h1:(assignEach [tg] X.env).map (·.2)=[assign tg X.env]:=by rfl):PS X (.Assign [tg] e pos) (zF9 te g):=by
 intro pins s σ H D I h
 refine wpAny_Assign_stores (thn (he pins s σ H _ I h) fun v s1 ⟨x,H1,I1,r1,q1⟩=>?_) hs hw
 rw[h1]
 exact thn (hg pins s1 σ H1 x v _ I1 r1 q1) fun _ s2 q=>q
theorem QQ {i:Nat} {x:Str} {e:Expr} {te:TE} {pos':Pos} (hN:X.N.Nodup) (hi:X.N[i]? = some x) (hx:Loc X.env.scope x) (he:PE X e te) (hs:swapsWith e (some (.Name x pos')) pos.line X.env=pure false:=by rfl) (hf:X.fn x=true\/X.env.scope.names.lookup x=some .local:=by first | exact .inl rfl | exact .inr rfl | assumption) :
  PS X (.Assign [.Name x pos'] e pos) (zF9 te (Wz i)):=by
 intro pins s σ H D I h
 refine wpAny_Assign_Name (thn (he pins s σ H _ I h) fun v s1 ⟨y,H1,I1,r1,q1⟩=>?_) hs
 exact zAD I1 hN hi hx r1 (fun s2 I2=>⟨_,H1,I2,q1⟩) hf
end
section
variable {X:Cx} {pos:Pos}
def zKg (c:TT) (tb:TS):TS:=fun D σ H=>∃ W:Nat->St->Hp->Prop,(∃ m,W m σ H)/\∀ m σ H,W m σ H ->
 c σ H fun b H1=>if b=true then ∃ N:St->Hp->Prop,(∀ σ' H',N σ' H'->∃ m',m' < m/\W m' σ' H')/\tb { D with nx:=N,ct:=N,bk:=D.nx } σ H1 else D.nx σ H1
theorem zHf {c:Expr} {body:List Stmt} {tc:TT} {tb:TS} (hp:PassesOwn (model X.prog X.w) X.A X.env X.xe) (hc:PT X c tc) (hb:PSs X body tb):PS X (.While c body [] pos) (zKg tc tb):=by
 intro pins s σ H D I h
 obtain⟨W,⟨m0,w0⟩,turn⟩:=h
 refine wpAny_While (codeAny_whileLoop (fun n s'=>∃ σ' H',Inv X pins σ' H' s'/\W n σ' H') ?_ m0 ⟨σ,H,I,w0⟩)
 rintro n s1 ⟨σ1,H1,I1,w1⟩
 refine wpAny_passesOwn hp (thn (hc pins s1 σ1 H1 _ I1 (turn n σ1 H1 w1)) fun b s2 ⟨H2,I2,q2⟩=>?_)
 cases b with
 | true =>
  obtain⟨N,hN,q2⟩:=q2
  rw[if_pos rfl]
  refine wpAny_passesOwn hp (thn (hb pins s2 σ1 H2 _ I2 q2) fun f s3 q3=>?_)
  cases f with
  | next =>
   obtain⟨σ3,H3,I3,n3⟩:=q3
   obtain⟨m',hm,w3⟩:=hN σ3 H3 n3
   exact⟨m',hm,σ3,H3,I3,w3⟩
  | cont =>
   obtain⟨σ3,H3,I3,n3⟩:=q3
   obtain⟨m',hm,w3⟩:=hN σ3 H3 n3
   exact⟨m',hm,σ3,H3,I3,w3⟩
  | brk=>exact q3
  | ret v=>exact q3
 | false =>
  rw[if_neg Bool.false_ne_true]
  exact wpAny_execs_nil ⟨σ1,H2,I2,q2⟩
end
structure It where
 go:Nat->Hp->Prop
 yld:Nat->Hp->V->Hp->Prop
 stop:Nat->Hp->Prop
def Zd (X:Cx) (pins:List (Addr × Obj)) (H:Hp) (b:Addr):Prop :=
 H b=none/\b ≠ X.env.locals/\b ∉ X.fs/\(b∈X.ex\/X.s₀.heap.objs.size<=b)/\(∀ x c,X.env.cells.lookup x=some c->c ≠ b)/\∀ p∈X.pn++pins,p.1 ≠ b
theorem Inv.fpOk {X:Cx} {pins:List (Addr × Obj)} {σ:St} {H H':Hp} {s:Shared} {b:Addr} (I:Inv X pins σ H s) (hb:s.heap.objs.size<=b) (hn:H' b=none):Zd X pins H' b:=by
 refine⟨hn,Nat.ne_of_gt (Nat.lt_of_lt_of_le I.lt hb),I.nofs hb,.inr (Nat.le_trans I.sz hb),fun x c e z=>?_,fun p hp z=>?_⟩
 ·obtain⟨v,q⟩:=I.cell x c e
  exact absurd (Nat.lt_of_lt_of_le q.lt (by rw[z];exact hb)) (Nat.lt_irrefl _)
 ·exact absurd (Nat.lt_of_lt_of_le (Heap.lt_size (I.pin p hp).1) (by rw[z];exact hb)) (Nat.lt_irrefl _)
structure Turn (P:Program) (w:World) (K:W.Frag) (tg:Expr) (J:It) (fp:List Addr) (it:Addr) (tn:Nat->Heap->Prop):Prop where
 mem:it∈fp
 obj:∀ i h,tn i h->∀ b∈fp,∃ o,h.get? b=some o/\∀ v,o.data ≠ .cell v
 keep:∀ i h h',tn i h->(∀ b∈fp,∀ o,h.get? b=some o->h'.get? b=some o)->tn i h'
 item:∀ (X:Cx),X.prog=P->X.w=w->X.K=K->X.calm=true->∀ (i:Nat) (pins:List (Addr × Obj)) (s:Shared) (σ:St) (H:Hp) (E:Value->Shared->Prop),Inv X pins σ H s->(∀ b∈fp,Zd X pins H b)->tn i s.heap->J.go i H ->
  wpAny (model P w) X.A (pyNext (.ref it)) (fun r s1=>∃ u,r=some u /\
   wpAny (model P w) X.A (letOwnedTupleGo tg (.ref it) u) (fun _ s2=>∃ x H',Inv X pins σ H' s2/\RelV x u/\J.yld i H x H'/\tn (i+1) s2.heap/\∀ b∈fp,H' b=none) E s1) E s
 done:∀ (X:Cx),X.prog=P->X.w=w->X.K=K->X.calm=true->∀ (i:Nat) (pins:List (Addr × Obj)) (s:Shared) (σ:St) (H:Hp) (E:Value->Shared->Prop),Inv X pins σ H s->(∀ b∈fp,Zd X pins H b)->tn i s.heap->J.stop i H ->
  wpAny (model P w) X.A (pyNext (.ref it)) (fun r s1=>r=none/\Inv X pins σ H s1) E s
 self:∀ (A:Around) (i:Nat) (s:Shared) (Q:Value->Shared->Prop) (E:Value->Shared->Prop),tn i s.heap->Q (.ref it) s->wpAny (model P w) A (pyIter (.ref it)) Q E s
abbrev TI:=St->Hp->(It->Hp->Prop)->Prop
def PIE (X:Cx) (pins:List (Addr × Obj)) (σ:St) (tg:Expr) (R:It->Hp->Prop) (itv:Value) (s2:Shared):Prop :=
 ∃ (it:Addr) (fp:List Addr) (tn:Nat->Heap->Prop) (J:It) (H':Hp),itv=.ref it/\Inv X pins σ H' s2/\Turn X.prog X.w X.K tg J fp it tn/\tn 0 s2.heap/\(∀ b∈fp,Zd X pins H' b)/\R J H'
def PI (X:Cx) (tg iter:Expr) (wi:TI):Prop :=
 ∀ (pins:List (Addr × Obj)) (s:Shared) (σ:St) (H:Hp) (R:It->Hp->Prop),Inv X pins σ H s->wi σ H R ->
  wpAny (model X.prog X.w) X.A (eval iter X.env) (fun v s1=>wpAny (model X.prog X.w) X.A (pyIter v) (PIE X pins σ tg R) X.xe s1) X.xe s
theorem zDa {M:Model} {A:Around} {E:Value->Shared->Prop} {s:Shared} {tg:Expr} {it:Addr} {u:Value} {o:Obj} {n:String} {vs:Array Value} {Q:Unit->Shared->Prop} (ho:s.heap.get? it=some o) (hc:o.cls=.type n) (hd:o.data=.fields vs)
  (hn:["enumerate", "zip", "dict_itemiterator", "dict_reverseitemiterator", "odict_iterator", "itertools.zip_longest", "itertools.pairwise"].contains n=false) (hQ:Q () s):wpAny M A (letOwnedTupleGo tg (.ref it) u) Q E s:=by
 unfold letOwnedTupleGo
 cases tg <;> first
  | exact wpAny_pure hQ
  | (cases u <;> first
    | exact wpAny_pure hQ
    | (refine wpAny_bind (wpAny_load ho ?_)
       rw[hc,hd]
       show wpAny M A (if (["enumerate", "zip", "dict_itemiterator", "dict_reverseitemiterator", "odict_iterator", "itertools.zip_longest", "itertools.pairwise"].contains n && vs[0]? == some (rawInt _))=true then _ else _) Q E s
       rw[if_neg (by intro h;rw[hn,Bool.false_and] at h;cases h)]
       exact wpAny_pure hQ))
def Itl (K:W.Frag) (a:Addr):It :=
 ⟨fun i H=>∃ xs x,SqL K H a xs/\xs[i]? = some x,fun i H x H'=>H'=H/\∀ xs,SqL K H a xs->xs[i]? = some x,fun i H=>∃ xs,SqL K H a xs/\xs.length<=i⟩
def Itt (K:W.Frag) (a:Addr):It :=
 ⟨fun i H=>∃ xs x,SqT K H a xs/\xs[i]? = some x,fun i H x H'=>H'=H/\∀ xs,SqT K H a xs->xs[i]? = some x,fun i H=>∃ xs,SqT K H a xs/\xs.length<=i⟩
def Itr (lo:Int) (n:Nat):It:=⟨fun i _=>i < n,fun i H x H'=>H'=H/\x=.int (lo+i),fun i _=>n<=i⟩
theorem zF5 {P:Program} {w:World} {K:W.Frag} {tg:Expr} (a it:Addr):Turn P w K tg (Itl K a) [it] it (fun i h=>h.IsListIter it a i) where
 mem:=by simp
 obj:=fun i h st b hb=>by
  have e:b=it:=by simpa using hb
  subst e
  obtain⟨o,e,c,d⟩:=st
  exact⟨o,e,fun v z=>by rw[d] at z;cases z⟩
 keep:=fun i h h' st k=>st.at fun o e=>k it (by simp) o e
 item:=by
  intro X hP hw hK hc i pins s σ H E I hf st hg
  subst hP hw hK
  obtain⟨xs,x,hq,hx⟩:=hg
  obtain⟨its,rv,p,hz⟩:=I.list hq
  obtain⟨u,hu,ru⟩:=rv.get hx
  obtain⟨f0,f1,f2,f3,f4,f5⟩:=hf it (by simp)
  refine wpAny_pyNext_list_item st p.isList (x:=u) (by simpa using hu) fun h' st' sb=>?_
  have I1:Inv X pins σ H { s with heap:=h' }:=I.turned (t':=s.toks) (fun b o hb e=>(sb.2 b hb).trans e) f0 f1 f3 f4 f5
  obtain⟨o,e,c,d⟩:=id st'
  exact⟨u,rfl,zDa (s:={ s with heap:=h' }) e c d (by decide) ⟨x,H,I1,ru,⟨rfl,fun ys hy=>by rw[I.list_inj hy hq];exact hx⟩,st',fun b hb=>(hf b hb).1⟩⟩
 done:=by
  intro X hP hw hK hc i pins s σ H E I hf st hg
  subst hP hw hK
  obtain⟨xs,hq,hx⟩:=hg
  obtain⟨its,rv,p,hz⟩:=I.list hq
  obtain⟨f0,f1,f2,f3,f4,f5⟩:=hf it (by simp)
  have hl:=rv.length
  exact wpAny_pyNext_list_end (I.ok.hd hc) st p.isList (by simp;omega) fun h' eb=>⟨rfl,I.turned (t':=s.toks) (fun b o hb e=>eb b o hb e) f0 f1 f3 f4 f5⟩
 self:=fun _ _ _ _ _ st h=>wpAny_pyIter_listiter st h
theorem zDu {P:Program} {w:World} {K:W.Frag} {tg:Expr} (a it:Addr):Turn P w K tg (Itt K a) [it] it (fun i h=>h.IsTupleIter it a i) where
 mem:=by simp
 obj:=fun i h st b hb=>by
  have e:b=it:=by simpa using hb
  subst e
  obtain⟨o,e,c,d⟩:=st
  exact⟨o,e,fun v z=>by rw[d] at z;cases z⟩
 keep:=fun i h h' st k=>st.at fun o e=>k it (by simp) o e
 item:=by
  intro X hP hw hK hc i pins s σ H E I hf st hg
  subst hP hw hK
  obtain⟨xs,x,hq,hx⟩:=hg
  obtain⟨its,rv,p,hz⟩:=I.tuple hq
  obtain⟨u,hu,ru⟩:=rv.get hx
  obtain⟨f0,f1,f2,f3,f4,f5⟩:=hf it (by simp)
  refine wpAny_pyNext_tuple_item st (show s.heap.IsTuple a its.toArray from p) (x:=u) (by simpa using hu) fun h' st' sb=>?_
  have I1:Inv X pins σ H { s with heap:=h' }:=I.turned (t':=s.toks) (fun b o hb e=>(sb.2 b hb).trans e) f0 f1 f3 f4 f5
  obtain⟨o,e,c,d⟩:=id st'
  exact⟨u,rfl,zDa (s:={ s with heap:=h' }) e c d (by decide) ⟨x,H,I1,ru,⟨rfl,fun ys hy=>by rw[I.tuple_inj hy hq];exact hx⟩,st',fun b hb=>(hf b hb).1⟩⟩
 done:=by
  intro X hP hw hK hc i pins s σ H E I hf st hg
  subst hP hw hK
  obtain⟨xs,hq,hx⟩:=hg
  obtain⟨its,rv,p,hz⟩:=I.tuple hq
  obtain⟨f0,f1,f2,f3,f4,f5⟩:=hf it (by simp)
  have hl:=rv.length
  exact wpAny_pyNext_tuple_end (I.ok.hd hc) st (show s.heap.IsTuple a its.toArray from p) (by simp;omega) fun h' eb=>⟨rfl,I.turned (t':=s.toks) (fun b o hb e=>eb b o hb e) f0 f1 f3 f4 f5⟩
 self:=fun _ _ _ _ _ st h=>wpAny_pyIter_tupleiter st h
theorem zDw {P:Program} {w:World} {K:W.Frag} {tg:Expr} (it:Addr) (lo:Int) (n:Nat):Turn P w K tg (Itr lo n) [it] it (fun i h=>IsRangeIter h it (lo+(i:Nat)*1) ((n:Int) - (i:Nat)) 1) where
 mem:=by simp
 obj:=fun i h st b hb=>by
  have e:b=it:=by simpa using hb
  subst e
  exact⟨_,st,fun v z=>by
   have z':Data.fields _=Data.cell v:=z
   cases z'⟩
 keep:=fun i h h' st k=>k it (by simp) _ st
 item:=by
  intro X hP hw hK hc i pins s σ H E I hf st hg
  subst hP hw hK
  obtain⟨f0,f1,f2,f3,f4,f5⟩:=hf it (by simp)
  have hit:IsRangeIter s.heap it (lo+(i:Int)*1) ((n:Int) - (i:Int)) 1:=st
  rw[Int.mul_one] at hit
  refine wpAny_pyNext_range_item hit (by have:i < n:=hg;omega) fun h' hit' sb=>?_
  have st':IsRangeIter h' it (lo+((i+1:Nat):Int)*1) ((n:Int) - ((i+1:Nat):Int)) 1:=by
   have e1:lo+((i+1:Nat):Int)*1=lo+i+1:=by omega
   have e2:(n:Int) - ((i+1:Nat):Int)=n - i - 1:=by omega
   rw[e1,e2];exact hit'
  have I1:Inv X pins σ H { s with heap:=h',toks:=s.toks+1 }:=I.turned (fun b o hb e=>(sb.2 b hb).trans e) f0 f1 f3 f4 f5
  exact⟨_,rfl,zDa (s:={ s with heap:=h',toks:=s.toks+1 }) (n := "range_iterator") st' rfl rfl (by decide) ⟨.int (lo+i),H,I1,I.rI,⟨rfl,rfl⟩,st',fun b hb=>(hf b hb).1⟩⟩
 done:=by
  intro X hP hw hK hc i pins s σ H E I hf st hg
  subst hP hw hK
  obtain⟨f0,f1,f2,f3,f4,f5⟩:=hf it (by simp)
  exact wpAny_pyNext_range_end (I.ok.hd hc) st (by have:n<=i:=hg;omega) fun h' eb=>⟨rfl,I.turned (t':=s.toks) (fun b o hb e=>eb b o hb e) f0 f1 f3 f4 f5⟩
 self:=fun _ _ _ _ _ st h=>wpAny_pyIter_rangeiter st h
end L2
namespace L2
open PySem PySem.Spec PyProof.Rows
section
variable {X:Cx} {tg:Expr}
def zKS (K:W.Frag) (tl:TE):TI:=fun σ H R=>tl σ H fun x H1=>∃ a,x=.ref a/\(∃ xs,SqL K H1 a xs)/\R (Itl K a) H1
def zLi (K:W.Frag) (tl:TE):TI:=fun σ H R=>tl σ H fun x H1=>∃ a,x=.ref a/\(∃ xs,SqT K H1 a xs)/\R (Itt K a) H1
theorem YO {l:Expr} {tl:TE} (hl:PE X l tl):PI X tg l (zKS X.K tl):=by
 intro pins s σ H R I h
 refine thn (hl pins s σ H _ I h) fun v s1 ⟨x,H1,I1,r1,q1⟩=>?_
 obtain⟨a,e,⟨xs,hq⟩,q⟩:=q1
 subst e
 cases r1
 obtain⟨its,rv,p,hz⟩:=I1.list hq
 refine wpAny_pyIter_list p.isList ?_
 refine⟨s1.heap.objs.size,[s1.heap.objs.size],_,_,H1,rfl,I1.kept (t':=s1.toks) fun b o e=>Heap.get?_push_of_some _ e,zF5 a _,⟨_,Heap.get?_push_size _ rfl,rfl,rfl⟩,fun b hb=>?_,q⟩
 have e:b=s1.heap.objs.size:=by simpa using hb
 subst e
 exact I1.fpOk (Nat.le_refl _) (I1.hok.fresh (Nat.le_refl _))
theorem zD2 {l:Expr} {tl:TE} (hl:PE X l tl):PI X tg l (zLi X.K tl):=by
 intro pins s σ H R I h
 refine thn (hl pins s σ H _ I h) fun v s1 ⟨x,H1,I1,r1,q1⟩=>?_
 obtain⟨a,e,⟨xs,hq⟩,q⟩:=q1
 subst e
 cases r1
 obtain⟨its,rv,p,hz⟩:=I1.tuple hq
 refine wpAny_pyIter_tuple (show s1.heap.IsTuple a its.toArray from p) ?_
 refine⟨s1.heap.objs.size,[s1.heap.objs.size],_,_,H1,rfl,I1.kept (t':=s1.toks) fun b o e=>Heap.get?_push_of_some _ e,zDu a _,⟨_,Heap.get?_push_size _ rfl,rfl,rfl⟩,fun b hb=>?_,q⟩
 have e:b=s1.heap.objs.size:=by simpa using hb
 subst e
 exact I1.fpOk (Nat.le_refl _) (I1.hok.fresh (Nat.le_refl _))
theorem zIL {pins:List (Addr × Obj)} {σ:St} {H:Hp} {s:Shared} {R:It->Hp->Prop} {E:Value->Shared->Prop} {lo hi:Int} {t u v:Tok} {tk:Nat} (I:Inv X pins σ H s) (htk:1<=tk) (h1 : -(2 ^ 62)<=lo) (h2:lo < 2 ^ 62) (h3 : -(2 ^ 62)<=hi) (h4:hi < 2 ^ 62)
  (q:R (Itr lo (hi - lo).toNat) H):wpAny (model X.prog X.w) X.A (pyIter (.ref s.heap.objs.size)) (PIE X pins σ tg R) E { s with heap:=s.heap.push { cls:=.type "range",data:=.fields #[.int lo t,.int hi u,.int 1 v] },toks:=tk }:=by
 refine wpAny_pyIter_range (IsRange.new ..) (small_one h1 h2 h3 h4) ?_
 have I1:Inv X pins σ H { s with heap:=s.heap.push { cls:=.type "range",data:=.fields #[.int lo t,.int hi u,.int 1 v] },toks:=tk }:=I.kept fun b o e=>Heap.get?_push_of_some _ e
 refine⟨(s.heap.push { cls:=.type "range",data:=.fields #[.int lo t,.int hi u,.int 1 v] }).objs.size,[(s.heap.push { cls:=.type "range",data:=.fields #[.int lo t,.int hi u,.int 1 v] }).objs.size],_,_,H,rfl,
  I1.kept (t':=tk) fun b o e=>Heap.get?_push_of_some _ e,zDw _ lo (hi - lo).toNat,?_,fun b hb=>?_,q⟩
 ·have e1:lo+((0:Nat):Int)*1=lo:=by simp
  have e2:(((hi - lo).toNat:Nat):Int) - ((0:Nat):Int)=Builtin.Range.rangeSize lo hi 1:=by rw[rangeSize_one];split <;> omega
  show IsRangeIter _ _ (lo+((0:Nat):Int)*1) ((((hi - lo).toNat:Nat):Int) - ((0:Nat):Int)) 1
  rw[e1,e2]
  exact Heap.get?_push_size _ rfl
 ·have e:b=(s.heap.push { cls:=.type "range",data:=.fields #[.int lo t,.int hi u,.int 1 v] }).objs.size:=by simpa using hb
  subst e
  exact I1.fpOk (Nat.le_refl _) (I1.hok.fresh (Nat.le_refl _))
def zJ4 (ta:TA):TI:=fun σ H R=>ta σ H fun vs H1=>∃ j:Int,vs=[.int j] /\ -(2 ^ 62)<=j/\j < 2 ^ 62/\R (Itr 0 j.toNat) H1
def zLr (ta:TA):TI:=fun σ H R=>ta σ H fun vs H1=>∃ i j:Int,vs=[.int i,.int j]/\(-(2 ^ 62)<=i/\i < 2 ^ 62 /\ -(2 ^ 62)<=j/\j < 2 ^ 62)/\R (Itr i (j - i).toNat) H1
theorem Y7 {a:Expr} {ta:TA} {p pos:Pos} (hg:Gl X "range") (hm:X.mg "range" = none) (ha:PA X [a] ta) (hs:starEach [a] X.env=[(false,eval a X.env)]:=by rfl):PI X tg (.Call (.Name "range" p) [a] [] pos) (zJ4 ta):=by
 intro pins s σ H R I h
 refine Call_ (Zn I hg hm boot_range (PyProof.Rows.callWith_type1 (thn (ha pos pins s σ H _ I h) fun us s1 ⟨vs,H1,I1,r1,q1⟩=>?_) hs rfl))
 obtain⟨j,e,q1,q2,q⟩:=q1
 subst e
 cases r1 with
 | cons r rr =>
  cases rr
  obtain⟨t,rfl⟩:=r
  exact call_range_1 (zIL I1 (by have:=I1.tk;omega) (by omega) (by omega) q1 q2 (by simpa using q))
def zLd (wi:TI) (g:TG) (tb:TS):TS:=fun D σ H=>wi σ H fun J H1=>∃ W:Nat->Nat->St->Hp->Prop,(∃ m,W 0 m σ H1)/\∀ i m σ H,W i m σ H ->
 (J.stop i H/\D.nx σ H)\/(J.go i H/\∃ N:St->Hp->Prop,(∀ σ' H',N σ' H'->∃ m',m' < m/\W (i+1) m' σ' H')/\∀ x H',J.yld i H x H'->g x σ H' fun σ2 H2=>tb { D with nx:=N,ct:=N,bk:=D.nx } σ2 H2)
def Zx (fp:List Addr) (h:Heap):List (Addr × Obj):=fp.filterMap fun b=>(h.get? b).map fun o=>(b,o)
theorem YX {fp:List Addr} {h:Heap} {b:Addr} {o:Obj} (hb:b∈fp) (e:h.get? b=some o):(b,o)∈Zx fp h:=List.mem_filterMap.mpr ⟨b,hb,by rw[e];rfl⟩
theorem zGa {fp:List Addr} {h:Heap} {p:Addr × Obj} (hp:p∈Zx fp h):p.1∈fp/\h.get? p.1=some p.2:=by
 obtain⟨b,hb,e⟩:=List.mem_filterMap.mp hp
 cases q:h.get? b with
 | none=>rw[q] at e;cases e
 | some o =>
  rw[q] at e
  have e':(b,o)=p:=Option.some.inj e
  subst e'
  exact⟨hb,q⟩
theorem Inv.pinned {pins:List (Addr × Obj)} {σ:St} {H:Hp} {s:Shared} {fp:List Addr} (I:Inv X pins σ H s) (hf:∀ b∈fp,Zd X pins H b) (ho:∀ b∈fp,∃ o,s.heap.get? b=some o/\∀ v,o.data ≠ .cell v):Inv X (pins++Zx fp s.heap) σ H s :=
 I.pins_of fun p hp=>(List.mem_append.mp hp).elim (fun z=>I.pin p (List.mem_append_right _ z)) fun z=>by
  obtain⟨hb,e⟩:=zGa z
  obtain⟨f0,f1,f2,_⟩:=hf p.1 hb
  obtain⟨o,e',d⟩:=ho p.1 hb
  rw[e] at e';cases e'
  exact⟨e,f0,f1,f2,d⟩
theorem Inv.unpinned {pins pl:List (Addr × Obj)} {σ:St} {H:Hp} {s:Shared} (I:Inv X (pins++pl) σ H s):Inv X pins σ H s:=I.pins_of fun p hp=>I.pin p (List.mem_append_right _ (List.mem_append_left _ hp))
theorem YT {iter:Expr} {body:List Stmt} {wi:TI} {g:TG} {tb:TS} {pos:Pos} (hp:PassesOwn (model X.prog X.w) X.A X.env X.xe) (hc:X.calm=true) (hi:PI X tg iter wi) (hg:PG X tg g) (hb:PSs X body tb)
  (hs:∀ x,foldedSetIterable iter X.env x=pure x:=by intro _;rfl):PS X (.For tg iter body [] pos) (zLd wi g tb):=by
 intro pins s σ H D I h
 refine wpAny_For (thn (hi pins s σ H _ I h) fun v s1 h1=>thn h1 fun itv s2 h2=>?_) hs
 obtain⟨it,fp,tn,J,H2,e,I2,T,st2,f2,W,⟨m0,w0⟩,turn⟩:=h2
 subst e
 have stat:∀ {H':Hp},(∀ b∈fp,H' b=none)->∀ b∈fp,Zd X pins H' b:=fun hn b hb=>⟨hn b hb,(f2 b hb).2⟩
 refine codeAny_forLoop_any (fun n s'=>∃ i σ' H',Inv X pins σ' H' s'/\tn i s'.heap/\(∀ b∈fp,H' b=none)/\W i n σ' H') ?_ m0 ⟨0,σ,H2,I2,st2,fun b hb=>(f2 b hb).1,w0⟩
 rintro n s3 ⟨i,σ3,H3,I3,st3,fr3,w3⟩
 rcases turn i n σ3 H3 w3 with ⟨stop,qn⟩ | ⟨go,N,hN,step⟩
 ·refine wpAny_passesOwn hp (thn (T.done X rfl rfl rfl hc i pins s3 σ3 H3 X.xe I3 (stat fr3) st3 stop) fun r s4 ⟨hr,I4⟩=>?_)
  subst hr
  exact wpAny_execs_nil ⟨σ3,H3,I4,qn⟩
 ·refine wpAny_passesOwn hp (thn (T.item X rfl rfl rfl hc i pins s3 σ3 H3 X.xe I3 (stat fr3) st3 go) fun r s4 ⟨u,hr,h4⟩=>?_)
  subst hr
  refine wpAny_passesOwn hp (thn h4 fun _ s5 ⟨x,H5,I5,r5,y5,st5,fr5⟩=>?_)
  have I5':=I5.pinned (stat fr5) (T.obj _ _ st5)
  refine wpAny_passesOwn hp (thn (hg _ s5 σ3 H5 x u _ I5' r5 (step x H5 y5)) fun _ s6 ⟨σ6,H6,I6,q6⟩=>?_)
  refine wpAny_passesOwn hp (thn (hb _ s6 σ6 H6 _ I6 q6) fun f s7 q7=>?_)
  have again:∀ {σ7:St} {H7:Hp},Inv X (pins++Zx fp s5.heap) σ7 H7 s7->N σ7 H7->∃ m,m < n/\∃ i σ' H',Inv X pins σ' H' s7/\tn i s7.heap/\(∀ b∈fp,H' b=none)/\W i m σ' H':=fun {σ7 H7} I7 n7=>by
   obtain⟨m',hm,w7⟩:=hN σ7 H7 n7
   refine⟨m',hm,i+1,σ7,H7,I7.unpinned,T.keep _ _ _ st5 fun b hb o e=>(I7.pin (b,o) (List.mem_append_right _ (List.mem_append_right _ (YX hb e)))).1,fun b hb=>?_,w7⟩
   obtain⟨o,e,d⟩:=T.obj _ _ st5 b hb
   exact (I7.pin (b,o) (List.mem_append_right _ (List.mem_append_right _ (YX hb e)))).2.1
  cases f with
  | next=>obtain⟨σ7,H7,I7,n7⟩:=q7;exact again I7 n7
  | cont=>obtain⟨σ7,H7,I7,n7⟩:=q7;exact again I7 n7
  | brk=>obtain⟨σ7,H7,I7,q7⟩:=q7;exact⟨σ7,H7,I7.unpinned,q7⟩
  | ret v=>obtain⟨x7,σ7,H7,I7,r7,q7⟩:=q7;exact⟨x7,σ7,H7,I7.unpinned,r7,q7⟩
end
theorem zHa {K:W.Frag} {a:Addr} {xs:List V} {g:TG} {tb:TS} {D:Ends} {σ:St} {H:Hp} (Pv:Nat->St->Hp->Prop) (h0:Pv 0 σ H) (hl:∀ i σ H,i<=xs.length->Pv i σ H->SqL K H a xs)
  (hs:∀ i x σ H,xs[i]? = some x->Pv i σ H->g x σ H fun σ2 H2=>tb { D with nx:=Pv (i+1),ct:=Pv (i+1),bk:=D.nx } σ2 H2) (hd:∀ σ H,Pv xs.length σ H->D.nx σ H) :
  ∃ W:Nat->Nat->St->Hp->Prop,(∃ m,W 0 m σ H)/\∀ i m σ H,W i m σ H ->
   ((Itl K a).stop i H/\D.nx σ H)\/((Itl K a).go i H/\∃ N:St->Hp->Prop,(∀ σ' H',N σ' H'->∃ m',m' < m/\W (i+1) m' σ' H')/\∀ x H',(Itl K a).yld i H x H'->g x σ H' fun σ2 H2=>tb { D with nx:=N,ct:=N,bk:=D.nx } σ2 H2):=by
 refine⟨fun i m σ H=>m=xs.length - i/\i<=xs.length/\Pv i σ H,⟨xs.length,by simp,Nat.zero_le _,h0⟩,?_⟩
 rintro i m σ H ⟨rfl,hi,p⟩
 have q:=hl i σ H hi p
 by_cases hlt:i < xs.length
 ·refine .inr ⟨⟨xs,xs[i],q,by simp[hlt]⟩,Pv (i+1),fun σ' H' p'=>⟨xs.length - (i+1),by omega,rfl,hlt,p'⟩,fun x H' y=>?_⟩
  obtain⟨e,y⟩:=y
  subst e
  exact hs i x σ _ (y xs q) p
 ·have e:i=xs.length:=by omega
  subst e
  exact .inl ⟨⟨xs,q,Nat.le_refl _⟩,hd σ H p⟩
theorem zIn {K:W.Frag} {a:Addr} {xs:List V} {g:TG} {tb:TS} {D:Ends} {σ:St} {H:Hp} (Pv:Nat->St->Hp->Prop) (h0:Pv 0 σ H) (hl:∀ i σ H,i<=xs.length->Pv i σ H->SqT K H a xs)
  (hs:∀ i x σ H,xs[i]? = some x->Pv i σ H->g x σ H fun σ2 H2=>tb { D with nx:=Pv (i+1),ct:=Pv (i+1),bk:=D.nx } σ2 H2) (hd:∀ σ H,Pv xs.length σ H->D.nx σ H) :
  ∃ W:Nat->Nat->St->Hp->Prop,(∃ m,W 0 m σ H)/\∀ i m σ H,W i m σ H ->
   ((Itt K a).stop i H/\D.nx σ H)\/((Itt K a).go i H/\∃ N:St->Hp->Prop,(∀ σ' H',N σ' H'->∃ m',m' < m/\W (i+1) m' σ' H')/\∀ x H',(Itt K a).yld i H x H'->g x σ H' fun σ2 H2=>tb { D with nx:=N,ct:=N,bk:=D.nx } σ2 H2):=by
 refine⟨fun i m σ H=>m=xs.length - i/\i<=xs.length/\Pv i σ H,⟨xs.length,by simp,Nat.zero_le _,h0⟩,?_⟩
 rintro i m σ H ⟨rfl,hi,p⟩
 have q:=hl i σ H hi p
 by_cases hlt:i < xs.length
 ·refine .inr ⟨⟨xs,xs[i],q,by simp[hlt]⟩,Pv (i+1),fun σ' H' p'=>⟨xs.length - (i+1),by omega,rfl,hlt,p'⟩,fun x H' y=>?_⟩
  obtain⟨e,y⟩:=y
  subst e
  exact hs i x σ _ (y xs q) p
 ·have e:i=xs.length:=by omega
  subst e
  exact .inl ⟨⟨xs,q,Nat.le_refl _⟩,hd σ H p⟩
theorem zFy {lo:Int} {n:Nat} {g:TG} {tb:TS} {D:Ends} {σ:St} {H:Hp} (Pv:Nat->St->Hp->Prop) (h0:Pv 0 σ H)
  (hs:∀ i σ H,i < n->Pv i σ H->g (.int (lo+i)) σ H fun σ2 H2=>tb { D with nx:=Pv (i+1),ct:=Pv (i+1),bk:=D.nx } σ2 H2) (hd:∀ σ H,Pv n σ H->D.nx σ H) :
  ∃ W:Nat->Nat->St->Hp->Prop,(∃ m,W 0 m σ H)/\∀ i m σ H,W i m σ H ->
   ((Itr lo n).stop i H/\D.nx σ H)\/((Itr lo n).go i H/\∃ N:St->Hp->Prop,(∀ σ' H',N σ' H'->∃ m',m' < m/\W (i+1) m' σ' H')/\∀ x H',(Itr lo n).yld i H x H'->g x σ H' fun σ2 H2=>tb { D with nx:=N,ct:=N,bk:=D.nx } σ2 H2):=by
 refine⟨fun i m σ H=>m=n - i/\i<=n/\Pv i σ H,⟨n,by simp,Nat.zero_le _,h0⟩,?_⟩
 rintro i m σ H ⟨rfl,hi,p⟩
 by_cases hlt:i < n
 ·refine .inr ⟨hlt,Pv (i+1),fun σ' H' p'=>⟨n - (i+1),by omega,rfl,hlt,p'⟩,fun x H' y=>?_⟩
  obtain⟨e,y⟩:=y
  subst e y
  exact hs i σ _ hlt p
 ·have e:i=n:=by omega
  subst e
  exact .inl ⟨Nat.le_refl _,hd σ H p⟩
end L2
namespace L2
open PySem PySem.Spec PyProof.Rows
abbrev R2:=V->V->Hp->VK->Prop
def OpR (X:Cx) (f:Value->Value->Sem Value) (r:R2):Prop :=
 ∀ (pins:List (Addr × Obj)) (s:Shared) (σ:St) (H:Hp) (x y:V) (v u:Value) (Q:VK),Inv X pins σ H s->RelV x v->RelV y u->r x y H Q ->
  wpAny (model X.prog X.w) X.A (f v u) (EP X pins σ Q) X.xe s
def UnR (X:Cx) (f:Value->Sem Value) (r:V->Hp->VK->Prop):Prop :=
 ∀ (pins:List (Addr × Obj)) (s:Shared) (σ:St) (H:Hp) (x:V) (v:Value) (Q:VK),Inv X pins σ H s->RelV x v->r x H Q ->
  wpAny (model X.prog X.w) X.A (f v) (EP X pins σ Q) X.xe s
def Yf (X:Cx) (f:Value) (r:List V->Hp->VK->Prop):Prop :=
 ∀ (pins:List (Addr × Obj)) (s:Shared) (σ:St) (H:Hp) (xs:List V) (us:List Value) (Q:VK),Inv X pins σ H s->Vals xs us->r xs H Q ->
  wpAny (model X.prog X.w) X.A (call f us) (EP X pins σ Q) X.xe s
def zL9 (X:Cx) (r:V->Hp->(Bool->Hp->Prop)->Prop):Prop :=
 ∀ (pins:List (Addr × Obj)) (s:Shared) (σ:St) (H:Hp) (x:V) (v:Value) (Q:Bool->Hp->Prop),Inv X pins σ H s->RelV x v->r x H Q ->
  wpAny (model X.prog X.w) X.A (truthy v) (TP X pins σ Q) X.xe s
def tOp (r:R2) (ta tb:TE):TE:=fun σ H Q=>ta σ H fun x H1=>tb σ H1 fun y H2=>r x y H2 Q
def tUn (r:V->Hp->VK->Prop) (ta:TE):TE:=fun σ H Q=>ta σ H fun x H1=>r x H1 Q
def rI (C:Int->Int->Prop) (g:Int->Int->V):R2:=fun x y H Q=>∃ i j,x=.int i/\y=.int j/\C i j/\Q (g i j) H
def rI0 (g:Int->Int->V):R2:=fun x y H Q=>∃ i j,x=.int i/\y=.int j/\Q (g i j) H
def rU (g:Int->V):V->Hp->VK->Prop:=fun x H Q=>∃ i,x=.int i/\Q (g i) H
section
variable {X:Cx} {a b c:Expr} {ta tb tc:TE} {pos:Pos}
theorem zKq (ha:PE X a ta) (hb:PE X b tb) {pins:List (Addr × Obj)} {s:Shared} {σ:St} {H:Hp} {R:V->V->Hp->Prop} (I:Inv X pins σ H s)
  (h:ta σ H fun x H1=>tb σ H1 fun y H2=>R x y H2) {Q:Value->Shared->Prop} {f:Value->Value->Sem Value}
  (hf:∀ v u s2 x y H2,Inv X pins σ H2 s2->RelV x v->RelV y u->R x y H2->wpAny (model X.prog X.w) X.A (f v u) Q X.xe s2) :
  wpAny (model X.prog X.w) X.A (eval a X.env) (fun v s₁=>wpAny (model X.prog X.w) X.A (eval b X.env) (fun u s₂=>wpAny (model X.prog X.w) X.A (f v u) Q X.xe s₂) X.xe s₁) X.xe s:=by
 refine thn (ha pins s σ H _ I h) fun v s1 ⟨x,H1,I1,r1,q1⟩=>?_
 refine thn (hb pins s1 σ H1 _ I1 q1) fun u s2 ⟨y,H2,I2,r2,q2⟩=>?_
 exact hf v u s2 x y H2 I2 r1 r2 q2
theorem QK {op:Operator} {r:R2} (ho:OpR X (binaryOp op) r) (ha:PE X a ta) (hb:PE X b tb):PE X (.BinOp a op b pos) (tOp r ta tb):=by
 intro pins s σ H Q I h
 exact wpAny_BinOp (zKq ha hb I h fun v u s2 x y H2 I2 rx ry q=>ho pins s2 σ H2 x y v u Q I2 rx ry q)
theorem JR {op:UnaryOp} {r:V->Hp->VK->Prop} (ho:UnR X (unaryOp op) r) (ha:PE X a ta):PE X (.UnaryOp op a pos) (tUn r ta):=by
 intro pins s σ H Q I h
 exact UnaryOp_ (thn (ha pins s σ H _ I h) fun v s1 ⟨x,H1,I1,r1,q1⟩=>ho pins s1 σ H1 x v Q I1 r1 q1)
theorem opI {f:Value->Value->Sem Value} {C:Int->Int->Prop} {g:Int->Int->Int}
  (rule:∀ (i j:Int) (t u:Tok) (s:Shared) (Q:Value->Shared->Prop) (E:Value->Shared->Prop),C i j->Q (.int (g i j) s.toks) { s with toks:=s.toks+1 }->wpAny (model X.prog X.w) X.A (f (.int i t) (.int j u)) Q E s) :
  OpR X f (rI C fun i j=>.int (g i j)):=by
 intro pins s σ H x y v u Q I rx ry h
 obtain⟨i,j,rfl,rfl,hc,q⟩:=h
 obtain⟨t,rfl⟩:=rx
 obtain⟨t',rfl⟩:=ry
 exact rule i j (t+1) (t'+1) s _ _ hc ⟨.int (g i j),H,I.tok _,I.rI,q⟩
theorem zHn {f:Value->Value->Sem Value} {g:Int->Int->Int}
  (rule:∀ (i j:Int) (t u:Tok) (s:Shared) (Q:Value->Shared->Prop) (E:Value->Shared->Prop),Q (.int (g i j) s.toks) { s with toks:=s.toks+1 }->wpAny (model X.prog X.w) X.A (f (.int i t) (.int j u)) Q E s) :
  OpR X f (rI0 fun i j=>.int (g i j)):=by
 intro pins s σ H x y v u Q I rx ry h
 obtain⟨i,j,rfl,rfl,q⟩:=h
 obtain⟨t,rfl⟩:=rx
 obtain⟨t',rfl⟩:=ry
 exact rule i j (t+1) (t'+1) s _ _ ⟨.int (g i j),H,I.tok _,I.rI,q⟩
theorem zJm {f:Value->Value->Sem Value} {g:Int->Int->Bool}
  (rule:∀ (i j:Int) (t u:Tok) (s:Shared) (Q:Value->Shared->Prop) (E:Value->Shared->Prop),Q (.bool (g i j)) s->wpAny (model X.prog X.w) X.A (f (.int i t) (.int j u)) Q E s) :
  OpR X f (rI0 fun i j=>.bl (g i j)):=by
 intro pins s σ H x y v u Q I rx ry h
 obtain⟨i,j,rfl,rfl,q⟩:=h
 obtain⟨t,rfl⟩:=rx
 obtain⟨t',rfl⟩:=ry
 exact rule i j (t+1) (t'+1) s _ _ ⟨.bl (g i j),H,I,rfl,q⟩
def zLc (i j:Int):Prop:=0 < j/\j < 1073741824
def zJg (i j:Int):Prop:=0<=j/\j<=1000000/\i.natAbs < 2 ^ 64
def CMul (i j:Int):Prop:=(-(2 ^ 64) < i/\i < 2 ^ 64)\/(-(2 ^ 64) < j/\j < 2 ^ 64)
theorem CMul.ok {i j:Int} (h:CMul i j):IntMulOk i j:=by
 rcases h with ⟨h1,h2⟩ | ⟨h1,h2⟩
 ·exact .of_left (intBits_le_64 h1 h2)
 ·exact .of_right (intBits_le_64 h1 h2)
theorem Qv:OpR X (binaryOp .Add) (rI0 fun i j=>.int (i+j)):=zHn fun _ _ _ _ _ _ _ q=>add_int q
theorem JI:OpR X (binaryOp .Sub) (rI0 fun i j=>.int (i - j)):=zHn fun _ _ _ _ _ _ _ q=>sub_int q
theorem Q1:OpR X (binaryOp .Mult) (rI CMul fun i j=>.int (i*j)):=opI fun _ _ _ _ _ _ _ hc q=>mul_int q hc.ok
theorem Qk:OpR X (binaryOp .FloorDiv) (rI zLc fun i j=>.int (i / j)):=opI fun i j _ _ _ _ _ hc q=>by
 have h1:(0:Int) < j:=hc.1
 have h2:j < 1073741824:=hc.2
 exact floordiv_int (by omega) (by rw[Int.fdiv_eq_ediv_of_nonneg i (by omega)];exact q) (.inl (PyProof.noPylong_small (by omega)))
theorem QX:OpR X (binaryOp .Mod) (rI (fun _ j=>0 < j) fun i j=>.int (i % j)):=opI fun i j _ _ _ _ _ hc q=>by
 have h1:(0:Int) < j:=hc
 exact mod_int' (by omega) (by rw[Int.fmod_eq_emod_of_nonneg i (by omega)];exact q)
theorem Zu:OpR X (binaryOp .Pow) (rI zJg fun i j=>.int (i ^ j.toNat)):=opI fun _ _ _ _ _ _ _ hc q=>pow_int_small hc.1 hc.2.1 hc.2.2 q
theorem zLP:OpR X (binaryOp .LShift) (rI zJg fun i j=>.int (i*2 ^ j.toNat)):=opI fun _ _ _ _ _ _ _ hc q=>lshift_int_small hc.1 hc.2.1 hc.2.2 q
theorem zLE:OpR X (binaryOp .BitAnd) (rI0 fun i j=>.int (Builtin.bitAnd i j)):=zHn fun _ _ _ _ _ _ _ q=>and_int q
theorem zL4:OpR X (binaryOp .BitOr) (rI0 fun i j=>.int (Builtin.bitOr i j)):=zHn fun _ _ _ _ _ _ _ q=>or_int q
theorem zDr:OpR X (binaryOp .BitXor) (rI0 fun i j=>.int (Builtin.bitXor i j)):=zHn fun _ _ _ _ _ _ _ q=>xor_int q
theorem unI {f:Value->Sem Value} {g:Int->Int}
  (rule:∀ (i:Int) (t:Tok) (s:Shared) (Q:Value->Shared->Prop) (E:Value->Shared->Prop),Q (.int (g i) s.toks) { s with toks:=s.toks+1 }->wpAny (model X.prog X.w) X.A (f (.int i t)) Q E s) :
  UnR X f (rU fun i=>.int (g i)):=by
 intro pins s σ H x v Q I rx h
 obtain⟨i,rfl,q⟩:=h
 obtain⟨t,rfl⟩:=rx
 exact rule i (t+1) s _ _ ⟨.int (g i),H,I.tok _,I.rI,q⟩
theorem Zg:UnR X (unaryOp .USub) (rU fun i=>.int (-i)):=unI fun _ _ _ _ _ q=>neg_int q
end
def zDQ:V->V->Bool
 | .non,.non=>true | .non,.int _=>true | .int _,.non=>true | .non,.bl _=>true | .bl _,.non=>true | .non,.str _=>true | .str _,.non=>true
 | .int _,.int _=>true | .bl _,.bl _=>true | .str _,.str _=>true | .byt _,.byt _=>true
 | .int _,.str _=>true | .str _,.int _=>true | .bl _,.str _=>true | .str _,.bl _=>true
 | _,_=>false
def rEq:R2:=fun x y H Q=>zDQ x y=true/\Q (.bl (decide (x=y))) H
def rNe:R2:=fun x y H Q=>zDQ x y=true/\Q (.bl (!decide (x=y))) H
theorem zEz {i j:Int}:decide (V.int i=V.int j)=(i == j):=by
 rw[Bool.eq_iff_iff]
 simp
theorem zHB {i j:Bool}:decide (V.bl i=V.bl j)=(i == j):=by
 rw[Bool.eq_iff_iff]
 simp
theorem zFE {i j:Str}:decide (V.str i=V.str j)=(i == j):=by
 rw[Bool.eq_iff_iff]
 simp
theorem zE2 {i j:Array UInt8}:decide (V.byt i=V.byt j)=(i.toList == j.toList):=by
 rw[Bool.eq_iff_iff]
 cases i
 cases j
 simp
section
variable {X:Cx} {a b c:Expr} {ta tb tc:TE} {pos:Pos}
theorem Qa {pins:List (Addr × Obj)} {σ:St} {H:Hp} {s:Shared} {Q:VK} {k k':Bool} (I:Inv X pins σ H s) (q:Q (.bl k) H) (e:k=k'):EP X pins σ Q (.bool k') s:=by
 subst e
 exact⟨.bl k,H,I,rfl,q⟩
theorem YS:OpR X (compareOp .Eq) rEq:=by
 intro pins s σ H x y v u Q I rx ry h
 obtain⟨hs,q⟩:=h
 cases x with
 | non =>
  cases rx
  cases y with
  | non=>cases ry;exact PySem.EqNone.eq_none_none (Qa I q (by simp))
  | bl j=>cases ry;exact PySem.EqNone.eq_none_bool (Qa I q (by simp))
  | int j=>obtain⟨t',rfl⟩:=ry;exact PySem.EqNone.eq_none_int (Qa I q (by simp))
  | str j=>obtain⟨t',rfl⟩:=ry;exact PySem.EqNone.eq_none_str (Qa I q (by simp))
  | _=>exact absurd (show false=true from hs) Bool.false_ne_true
 | bl i =>
  cases rx
  cases y with
  | non=>cases ry;exact PySem.EqNone.eq_bool_none (Qa I q (by simp))
  | bl j=>cases ry;exact eq_bool (Qa I q zHB)
  | str j=>obtain⟨t',rfl⟩:=ry;exact PySem.EqMixed.eq_bool_str (Qa I q (by simp))
  | _=>exact absurd (show false=true from hs) Bool.false_ne_true
 | int i =>
  obtain⟨t,rfl⟩:=rx
  cases y with
  | non=>cases ry;exact PySem.EqNone.eq_int_none (Qa I q (by simp))
  | int j=>obtain⟨t',rfl⟩:=ry;exact eq_int (Qa I q zEz)
  | str j=>obtain⟨t',rfl⟩:=ry;exact PySem.EqMixed.eq_int_str (Qa I q (by simp))
  | _=>exact absurd (show false=true from hs) Bool.false_ne_true
 | str i =>
  obtain⟨t,rfl⟩:=rx
  cases y with
  | non=>cases ry;exact PySem.EqNone.eq_str_none (Qa I q (by simp))
  | bl j=>cases ry;exact PySem.EqMixed.eq_str_bool (Qa I q (by simp))
  | int j=>obtain⟨t',rfl⟩:=ry;exact PySem.EqMixed.eq_str_int (Qa I q (by simp))
  | str j=>obtain⟨t',rfl⟩:=ry;exact eq_str (Qa I q zFE)
  | _=>exact absurd (show false=true from hs) Bool.false_ne_true
 | byt i =>
  obtain⟨t,rfl⟩:=rx
  cases y with
  | byt j=>obtain⟨t',rfl⟩:=ry;exact PySem.W.eq_bytes (Qa I q zE2)
  | _=>exact absurd (show false=true from hs) Bool.false_ne_true
 | _=>cases y <;> exact absurd (show false=true from hs) Bool.false_ne_true
theorem zC2:OpR X (compareOp .NotEq) rNe:=by
 intro pins s σ H x y v u Q I rx ry h
 obtain⟨hs,q⟩:=h
 cases x with
 | non =>
  cases rx
  cases y with
  | non=>cases ry;exact PySem.EqNone.ne_none_none (Qa I q (by simp))
  | bl j=>cases ry;exact PySem.EqNone.ne_none_bool (Qa I q (by simp))
  | int j=>obtain⟨t',rfl⟩:=ry;exact PySem.EqNone.ne_none_int (Qa I q (by simp))
  | str j=>obtain⟨t',rfl⟩:=ry;exact PySem.EqNone.ne_none_str (Qa I q (by simp))
  | _=>exact absurd (show false=true from hs) Bool.false_ne_true
 | bl i =>
  cases rx
  cases y with
  | non=>cases ry;exact PySem.EqNone.ne_bool_none (Qa I q (by simp))
  | bl j=>cases ry;exact ne_bool (Qa I q (congrArg not zHB))
  | str j=>obtain⟨t',rfl⟩:=ry;exact PySem.EqMixed.ne_bool_str (Qa I q (by simp))
  | _=>exact absurd (show false=true from hs) Bool.false_ne_true
 | int i =>
  obtain⟨t,rfl⟩:=rx
  cases y with
  | non=>cases ry;exact PySem.EqNone.ne_int_none (Qa I q (by simp))
  | int j=>obtain⟨t',rfl⟩:=ry;exact ne_int (Qa I q (congrArg not zEz))
  | str j=>obtain⟨t',rfl⟩:=ry;exact PySem.EqMixed.ne_int_str (Qa I q (by simp))
  | _=>exact absurd (show false=true from hs) Bool.false_ne_true
 | str i =>
  obtain⟨t,rfl⟩:=rx
  cases y with
  | non=>cases ry;exact PySem.EqNone.ne_str_none (Qa I q (by simp))
  | bl j=>cases ry;exact PySem.EqMixed.ne_str_bool (Qa I q (by simp))
  | int j=>obtain⟨t',rfl⟩:=ry;exact PySem.EqMixed.ne_str_int (Qa I q (by simp))
  | str j=>obtain⟨t',rfl⟩:=ry;exact ne_str (Qa I q (congrArg not zFE))
  | _=>exact absurd (show false=true from hs) Bool.false_ne_true
 | byt i =>
  obtain⟨t,rfl⟩:=rx
  cases y with
  | byt j=>obtain⟨t',rfl⟩:=ry;exact PySem.W.ne_bytes (Qa I q (congrArg not zE2))
  | _=>exact absurd (show false=true from hs) Bool.false_ne_true
 | _=>cases y <;> exact absurd (show false=true from hs) Bool.false_ne_true
theorem zAq:OpR X (compareOp .Lt) (rI0 fun i j=>.bl (decide (i < j))):=zJm fun _ _ _ _ _ _ _ q=>lt_int q
theorem zBN:OpR X (compareOp .LtE) (rI0 fun i j=>.bl (decide (i<=j))):=zJm fun _ _ _ _ _ _ _ q=>le_int q
theorem zDB:OpR X (compareOp .Gt) (rI0 fun i j=>.bl (decide (j < i))):=zJm fun _ _ _ _ _ _ _ q=>gt_int q
theorem zKN:OpR X (compareOp .GtE) (rI0 fun i j=>.bl (decide (j<=i))):=zJm fun _ _ _ _ _ _ _ q=>ge_int q
theorem zEV:OpR X (compareOp .Is) (fun x y H Q=>y=.non/\Q (.bl (decide (x=.non))) H):=by
 intro pins s σ H x y v u Q I rx ry h
 obtain⟨rfl,q⟩:=h
 cases ry
 refine is_none_gen (Qa I q ?_)
 cases x <;> first
  | (cases rx;rfl)
  | (obtain⟨t,rfl⟩:=rx;rfl)
theorem Wd:OpR X (compareOp .IsNot) (fun x y H Q=>y=.non/\Q (.bl (!decide (x=.non))) H):=by
 intro pins s σ H x y v u Q I rx ry h
 obtain⟨rfl,q⟩:=h
 cases ry
 refine isnot_none_gen (Qa I q ?_)
 cases x <;> first
  | (cases rx;rfl)
  | (obtain⟨t,rfl⟩:=rx;rfl)
theorem QR (b:Expr) {op:CmpOp} (h:op ≠ .In:=by decide) (h2:op ≠ .NotIn:=by decide):behindInMarks op b=false:=by
 have e1:(op == CmpOp.In)=false:=by cases op <;> first | rfl | exact absurd rfl h
 have e2:(op == CmpOp.NotIn)=false:=by cases op <;> first | rfl | exact absurd rfl h2
 cases b <;> simp[behindInMarks,e1,e2]
theorem Qn {op:CmpOp} {r:R2} (ho:OpR X (compareOp op) r) (ha:PE X a ta) (hb:PE X b tb) (hm:behindInMarks op b=false):PE X (.Compare a [op] [b] pos) (tOp r ta tb):=by
 intro pins s σ H Q I h
 exact wpAny_Compare1 (zKq ha hb I h fun v u s2 x y H2 I2 rx ry q=>ho pins s2 σ H2 x y v u Q I2 rx ry q) hm
def zHw (t:TE):TT:=fun σ H Q=>t σ H fun x H'=>∃ k,x=.bl k/\Q k H'
theorem QS {op:CmpOp} {r:R2} (ho:OpR X (compareOp op) r) (ha:PE X a ta) (hb:PE X b tb) (hm:behindInMarks op b=false):PT X (.Compare a [op] [b] pos) (zHw (tOp r ta tb)):=by
 intro pins s σ H Q I h
 refine wpAny_isTrue_Compare1 (thn (ha pins s σ H _ I h) fun v s1 ⟨x,H1,I1,r1,q1⟩=>thn (hb pins s1 σ H1 _ I1 q1) fun u s2 ⟨y,H2,I2,r2,q2⟩ =>
  thn (ho pins s2 σ H2 x y v u _ I2 r1 r2 q2) fun c s3 ⟨z,H3,I3,r3,k,e,q3⟩=>?_) hm
 subst e
 cases r3
 exact wpAny_truthy_bool ⟨H3,I3,q3⟩
def zIZ (r r':R2) (ta tb tc:TE):TE:=fun σ H Q=>ta σ H fun x H1=>tb σ H1 fun y H2=>r x y H2 fun z H3=>∃ k,z=.bl k /\
 (if k=true then tc σ H3 fun w' H4=>r' y w' H4 Q else Q (.bl false) H3)
theorem zDN {op op':CmpOp} {r r':R2} (ho:OpR X (compareOp op) r) (ho':OpR X (compareOp op') r') (ha:PE X a ta) (hb:PE X b tb) (hc:PE X c tc)
  (hm:lastMarks [op,op'] [b,c]=false:=by with_unfolding_all rfl):PE X (.Compare a [op,op'] [b,c] pos) (zIZ r r' ta tb tc):=by
 intro pins s σ H Q I h
 refine Compare_chain (thn (ha pins s σ H _ I h) fun v s1 ⟨x,H1,I1,r1,q1⟩=>chain_link (thn (hb pins s1 σ H1 _ I1 q1) fun u s2 ⟨y,H2,I2,r2,q2⟩ =>
  thn (ho pins s2 σ H2 x y v u _ I2 r1 r2 q2) fun d s3 ⟨z,H3,I3,r3,k,e,q3⟩=>?_)) hm
 subst e
 cases r3
 refine wpAny_truthy_bool ?_
 cases k with
 | false=>exact ite_ff ⟨.bl false,H3,I3,rfl,q3⟩
 | true=>exact ite_tt (chain_last (thn (hc pins s3 σ H3 _ I3 q3) fun w' s4 ⟨z',H4,I4,r4,q4⟩=>ho' pins s4 σ H4 y z' u w' Q I4 r2 r4 q4))
def zLo (K:W.Frag) (x:V) (H:Hp) (k:Bool):Prop :=
 match x with
 | .non=>k=false
 | .bl b=>k=b
 | .int i=>k=(i != 0)
 | .str y=>y.length<=sizeLine/\k=((y.length:Int) != 0)
 | .byt y=>y.size<=sizeLine/\k=((y.size:Int) != 0)
 | .ref p=>(∃ xs,SqL K H p xs/\k = !xs.isEmpty)\/(∃ xs,SqT K H p xs/\k = !xs.isEmpty)\/∃ kvs,H p=some (.dK kvs)/\k = !kvs.isEmpty
 | _=>False
theorem zEh {κ:Type} {kvs:List (κ × V)} {vs:List (κ × Value)} (r:KV kvs vs):(!vs.isEmpty) = !kvs.isEmpty:=by
 cases r <;> rfl
theorem J2 {xs:List V} {its:List Value} (r:Vals xs its):(!its.toArray.isEmpty) = !xs.isEmpty:=by
 cases r <;> simp
theorem Wa:(sizeLine:Nat) < 2 ^ 63:=by rw[sizeLine_eq];decide
theorem zK5:zL9 X (fun x H Q=>∃ k,zLo X.K x H k/\Q k H):=by
 intro pins s σ H x v Q I rx h
 obtain⟨k,e,q⟩:=h
 have hl:=Wa
 have hs:sizeLine=16777216:=sizeLine_eq
 cases x with
 | non =>
  cases rx
  have e':k=false:=e
  subst e'
  exact truthy_none ⟨H,I,q⟩
 | bl b =>
  cases rx
  have e':k=b:=e
  subst e'
  exact wpAny_truthy_bool ⟨H,I,q⟩
 | int i =>
  obtain⟨t,rfl⟩:=rx
  have e':k=(i != 0):=e
  subst e'
  exact PySem.P.truthy_int ⟨H,I,q⟩
 | str y =>
  obtain⟨t,rfl⟩:=rx
  obtain⟨hy,e'⟩:y.length<=sizeLine/\k=((y.length:Int) != 0):=e
  subst e'
  exact PySem.P.truthy_str (by omega) ⟨H,I.tok _,q⟩
 | byt y =>
  obtain⟨t,rfl⟩:=rx
  obtain⟨hy,e'⟩:y.size<=sizeLine/\k=((y.size:Int) != 0):=e
  subst e'
  exact PySem.W.truthy_bytes (by omega) ⟨H,I.tok _,q⟩
 | ref p =>
  cases rx
  have e':(∃ xs,SqL X.K H p xs/\k = !xs.isEmpty)\/(∃ xs,SqT X.K H p xs/\k = !xs.isEmpty)\/∃ kvs,H p=some (.dK kvs)/\k = !kvs.isEmpty:=e
  rcases e' with ⟨xs,hx,e'⟩ | ⟨xs,hx,e'⟩ | ⟨kvs,hx,e'⟩
  ·subst e'
   obtain⟨its,r,pl,hz⟩:=I.list hx
   have hlen:=r.length
   exact wpAny_truthy_list pl.isList (by simp only[List.size_toArray];omega) ⟨H,I.tok _,by rw[J2 r];exact q⟩
  ·subst e'
   obtain⟨its,r,pl,hz⟩:=I.tuple hx
   have hlen:=r.length
   exact truthy_tuple pl (by simp only[List.size_toArray];omega) ⟨H,I.tok _,by rw[J2 r];exact q⟩
  ·subst e'
   obtain⟨hz,hS,vs,r,m⟩:kvs.length<=sizeLine/\(p == sysModules)=false/\∃ vs,KV kvs vs/\s.heap.DictOf (zCW X.prog X.w) p vs:=I.hok p _ hx
   have hlen:kvs.length=vs.length:=Paired.length r
   exact wpAny_truthy_dict hS m (by omega) ⟨H,I.tok _,by rw[zEh r];exact q⟩
 | _=>exact (show False from e).elim
theorem zGz (ha:PE X a ta) (he:∀ WB,isTrue a X.env WB=(do let v ← WB;standAt a.pos;holding [v] (truthy v))) :
  PT X a (fun σ H Q=>ta σ H fun x H'=>∃ k,zLo X.K x H' k/\Q k H'):=by
 intro pins s σ H Q I h
 exact isTrue_plain (thn (ha pins s σ H _ I h) fun v s1 ⟨x,H1,I1,r1,q1⟩=>zK5 pins s1 σ H1 x v Q I1 r1 q1) (he _)
theorem zHr {x y:Str} {t u:Nat} {s:Shared} {Q:Value->Shared->Prop} (hz:x.length+y.length<=sizeLine) (h:∀ n tk,s.toks<=tk->Q (.str (x++y) (n+1)) { s with toks:=tk }) (ht:1<=s.toks) :
  (if x.length == 0 then Made.val (.str y (u+1)) else if y.length == 0 then Made.val (.str x (t+1)) else Made.str (x++y)).post Q s:=by
 have e0:∀ z:Str,(z.length == 0)=true->z=⟨#[]⟩:=fun z hz=>by
  obtain⟨c⟩:=z
  have:c.size=0:=by simpa [Str.length] using hz
  have:c = #[]:=Array.eq_empty_of_size_eq_zero this
  subst this;rfl
 by_cases h1:(x.length == 0)=true
 ·rw[if_pos h1]
  have:=h u s.toks (Nat.le_refl _)
  have e:x++y=y:=by
   rw[e0 x h1]
   obtain⟨c⟩:=y
   show Str.mk (#[]++c)=Str.mk c
   rw[Array.empty_append]
  rw[e] at this
  exact this
 ·rw[if_neg h1]
  by_cases h2:(y.length == 0)=true
  ·rw[if_pos h2]
   have:=h t s.toks (Nat.le_refl _)
   have e:x++y=x:=by
    rw[e0 y h2]
    obtain⟨c⟩:=x
    show Str.mk (c ++ #[])=Str.mk c
    rw[Array.append_empty]
   rw[e] at this
   exact this
  ·rw[if_neg h2]
   refine⟨by rw[Str.length_append];exact hz,?_⟩
   have:=h (s.toks - 1) (s.toks+1) (Nat.le_succ _)
   rw[Nat.sub_add_cancel ht] at this
   exact this
theorem ZS:OpR X (binaryOp .Add) (fun x y H Q=>∃ i j,x=.str i/\y=.str j/\i.length+j.length<=sizeLine/\Q (.str (i++j)) H):=by
 intro pins s σ H x y v u Q I rx ry h
 obtain⟨i,j,rfl,rfl,hz,q⟩:=h
 obtain⟨t,rfl⟩:=rx
 obtain⟨t',rfl⟩:=ry
 refine PySem.P.add_str ?_
 exact zHr hz (fun n tk hk=>⟨.str (i++j),H,I.tok _ (Nat.le_trans I.tk hk),⟨n,rfl⟩,q⟩) I.tk
theorem Ww {x:V} {us:List Value} (r:Vals [x] us):∃ u,us=[u]/\RelV x u:=by
 cases r with
 | cons r1 r2=>cases r2;exact⟨_,rfl,r1⟩
theorem zLW {x y:V} {us:List Value} (r:Vals [x,y] us):∃ u w',us=[u,w']/\RelV x u/\RelV y w':=by
 cases r with
 | cons r1 r2 =>
  cases r2 with
  | cons r3 r4=>cases r4;exact⟨_,_,rfl,r1,r3⟩
theorem zHq:Yf X (.builtin "ord") (fun xs H Q=>∃ x,xs=[.str x]/\x.length=1/\Q (.int (x.cps.getD 0 0:Nat)) H):=by
 intro pins s σ H xs us Q I r h
 obtain⟨x,rfl,hz,q⟩:=h
 obtain⟨u,rfl,t,rfl⟩:=Ww r
 exact ord_of_one hz ⟨.int _,H,I.tok _,I.rI,q⟩
end
end L2
namespace L2
open PySem PySem.Spec PyProof.Rows
structure ObjM (h:Heap) (x dx C:Addr) (mA:Str->Option Value):Prop where
 obj:h.get? x=some (W.instObj C dx)
 ns:h.Ns1 dx mA
 ne:dx ≠ x
theorem zFu {h:Heap} {dx:Addr} {mA:Str->Option Value} (n:h.Ns1 dx mA):∃ od,h.get? dx=some od/\∀ name,PySem.W.lookIn name od=some (mA name):=by
 obtain⟨o,es,ep,ho,hd,hk,_,hm⟩:=n
 refine⟨o,ho,fun name=>?_⟩
 have e:=hm name
 unfold nsFind findBy at e
 rw[← Array.find?_toList] at e
 unfold PySem.W.lookIn
 rw[hd]
 dsimp only
 split
 ·rename_i y q
  rw[q] at e
  exact congrArg some e
 ·rename_i q
  rw[q] at e
  have a:es.toList.any (·.refKey)=false:=by
   rw[List.any_eq_false]
   intro y hy
   obtain⟨z,t,hkey⟩:=hk y (Array.mem_toList_iff.mp hy)
   simp[DictEntry.refKey,hkey]
  have a':¬ es.toList.any (·.refKey)=true:=by rw[a];exact Bool.false_ne_true
  rw[if_neg a']
  exact congrArg some e
theorem ObjM.look {h:Heap} {x dx C:Addr} {mA:Str->Option Value} (I:ObjM h x dx C mA):∃ od,PySem.W.InstAt h x (W.instObj C dx) C (some od)/\∀ name,PySem.W.lookIn name od=some (mA name) :=
 let ⟨od,ho,hl⟩:=zFu I.ns
 ⟨od,⟨I.obj,rfl,rfl,ho⟩,hl⟩
section
variable {prog:Program} {w:World} {A:Around} {E:Value->Shared->Prop} {s:Shared} {K:W.Frag} {x dx C f:Addr} {mA:Str->Option Value} {name:Str} {v:Value}
theorem zJc {expr:Bool} {Q:Value->Shared->Prop} (X:K.In s.heap) (I:ObjM s.heap x dx C mA) (hg:W.plainGet K C name=true) (hh:PySem.W.hasDictIn K C=true)
  (ha:W.findIn K (.ref C) name=some none) (hv:mA name=some v) (hv':PySem.W.handedIn v=true) (h:Q v { s with toks:=s.toks+1 }) :
  wpAny (model prog w) A (getAttr (.ref x) name expr) Q E s:=by
 obtain⟨od,J,hl⟩:=I.look
 exact PySem.W.get_value X J (PySem.W.plainGet_of hg).1 (PySem.W.findObj_own hh ha rfl (by rw[hl,hv])) hv' h
theorem zIT {pl:Sem Bool} {Q:Value × List Value->Shared->Prop} (X:K.In s.heap) (I:ObjM s.heap x dx C mA) (hg:W.plainGet K C name=true)
  (hf:W.findIn K (.ref C) name=some (some (.ref f))) (ht:W.isFn K (.ref f)=true) (hv:mA name=none) (h:Q (.ref f,[.ref x]) s) :
  wpAny (model prog w) A (getMethod (.ref x) name pl) Q E s:=by
 obtain⟨od,J,hl⟩:=I.look
 exact PySem.W.method_fn X J (PySem.W.plainGet_of hg).1 (PySem.W.plainGet_of hg).2 hf (beq_iff_eq.mp ht) (by show (PySem.W.lookIn name od).map (·.isSome)=some false;rw[hl,hv];rfl) h
theorem zJV {ns:List Str} {Q:Unit->Shared->Prop} (X:K.In s.heap) (I:ObjM s.heap x dx C mA)
  (hs:W.findIn K (.ref C) "__setattr__" = some (some (.builtin "object.__setattr__"))) (hp:PySem.W.plainOver K C=true) (ht:PySem.W.takerIn K C name=some none) (hh:PySem.W.hasDictIn K C=true)
  (hw:PySem.Within mA ns) (hsz:ns.length<=sizeLine)
  (h:∀ h',ObjM h' x dx C (fun y=>if y=name then some v else mA y)->Heap.SameBut dx s.heap h'->Q () { s with heap:=h',toks:=s.toks+2 }) :
  wpAny (model prog w) A (setAttr (.ref x) name v) Q E s:=by
 obtain⟨od,J,hl⟩:=I.look
 refine PySem.W.set_plain X J hs (PySem.W.osa_open (s:={ s with toks:=s.toks+1 }) (r:=none) X J hp ht fun b=>?_)
 obtain⟨cd,hc,hd'⟩:=PySem.W.any_some hh
 have hx:s.heap.get? x=some ⟨.ref C,some dx,.plain,#[]⟩:=I.obj
 refine wpAny_bind (wpAny_pure (wpAny_bind (wpAny_bind (wpAny_loadPart hx (wpAny_bind (PySem.W.Looks.here (s:={ s with toks:=s.toks+1 }) (PySem.W.looks_clsIn X hc) ?_))))))
 rw[hd']
 refine wpAny_pure (a:=some dx) (wpAny_bind (wpAny_pure (wpAny_bind ?_)))
 refine wpAny_nsSet1 (s:={ s with toks:=s.toks+1 }) I.ns fun h' hn2 hs2=>?_
 obtain⟨oD,esD,epD,hoD,hdD,hcD⟩:=hn2.count (PySem.Within.cons name v hw)
 refine wpAny_bind (wpAny_lookBehind hoD (by rw[hdD];exact pastItsLine_dict (Nat.le_trans hcD (by rw[List.length_cons];omega))) ?_)
 exact wpAny_pure (h _ ⟨(hs2.2 _ (Ne.symm I.ne)).trans I.obj,hn2,I.ne⟩ hs2)
theorem zHP {R:Result->Shared->Prop} {vs:List Value} {kw:List (Str × Value)} (X:K.In s.heap) (hm:PySem.W.makesIn K C=true)
  (hi:W.findIn K (.ref C) "__init__" = some (some (.ref f))) (hf:PySem.W.typeIn K (.ref f)=some (.type "function"))
  (h:codeAny (model prog w) (A.under (.builtin "type.__call__" ⟨.ref C::vs,kw⟩)) (.call (.ref f) ⟨.ref (s.heap.objs.size+1)::vs,kw⟩) (PySem.W.InitBack (s.heap.objs.size+1) R)
   { s with heap:=(s.heap.push W.emptyDict).push (W.instObj C s.heap.objs.size) }) :
  codeAny (model prog w) A (.call (.ref C) ⟨vs,kw⟩) R s:=by
 obtain⟨hh,g,d,t,os⟩:=s
 exact PySem.W.make_core (PySem.W.makes_of X hm) (PySem.W.looks_findIn X hi) (fun self=>PySem.W.bind_fn X self hf) (.inl rfl) h
end
def Qu (f:Str) (v:V):List (Str × V)->List (Str × V)
 | []=>[(f,v)]
 | (g,x)::r=>if g=f then (g,v)::r else (g,x)::Qu f v r
theorem JY (f g:Str) (v:V):∀ fs:List (Str × V),(Qu f v fs).lookup g=if g=f then some v else fs.lookup g
 | []=>by
  show List.lookup g [(f,v)]=_
  by_cases h:g=f
  ·have hb:(g == f)=true:=beq_iff_eq.mpr h
   simp only[List.lookup,hb,if_pos h]
  ·have hb:(g == f)=false:=beq_eq_false_iff_ne.mpr h
   simp only[List.lookup,hb,if_neg h]
 | (k,x)::r=>by
  have ih:=JY f g v r
  rw[show Qu f v ((k,x)::r)=(if k=f then (k,v)::r else (k,x)::Qu f v r) from rfl]
  by_cases hk:k=f
  ·rw[if_pos hk]
   by_cases h:g=k
   ·have hb:(g == k)=true:=beq_iff_eq.mpr h
    simp only[List.lookup,hb,if_pos (h.trans hk)]
   ·have hb:(g == k)=false:=beq_eq_false_iff_ne.mpr h
    simp only[List.lookup,hb,if_neg (fun e:g=f=>h (e.trans hk.symm))]
  ·rw[if_neg hk]
   by_cases h:g=k
   ·have hb:(g == k)=true:=beq_iff_eq.mpr h
    simp only[List.lookup,hb,if_neg (fun e:g=f=>hk (h.symm.trans e))]
   ·have hb:(g == k)=false:=beq_eq_false_iff_ne.mpr h
    simp only[List.lookup,hb]
    exact ih
theorem JB (f:Str) (v:V):∀ fs:List (Str × V),f∈(Qu f v fs).map (·.1)/\∀ g,g∈fs.map (·.1)->g∈(Qu f v fs).map (·.1)
 | []=>⟨by simp[Qu],fun g h=>by simp at h⟩
 | (k,x)::r=>by
  obtain⟨i1,i2⟩:=JB f v r
  rw[show Qu f v ((k,x)::r)=(if k=f then (k,v)::r else (k,x)::Qu f v r) from rfl]
  by_cases hk:k=f
  ·rw[if_pos hk]
   subst hk
   exact⟨by simp,fun g h=>by simpa using h⟩
  ·rw[if_neg hk]
   refine⟨?_,fun g h=>?_⟩
   ·rw[List.map_cons]
    exact List.mem_cons_of_mem _ i1
   ·rw[List.map_cons] at h ⊢
    rcases List.mem_cons.mp h with e | e
    ·exact List.mem_cons.mpr (.inl e)
    ·exact List.mem_cons_of_mem _ (i2 g e)
theorem Qc (f:Str) (v:V):∀ fs:List (Str × V),(Qu f v fs).length<=fs.length+1
 | []=>by simp[Qu]
 | (k,x)::r=>by
  have ih:=Qc f v r
  rw[show Qu f v ((k,x)::r)=(if k=f then (k,v)::r else (k,x)::Qu f v r) from rfl]
  by_cases hk:k=f
  ·rw[if_pos hk,List.length_cons,List.length_cons];omega
  ·rw[if_neg hk,List.length_cons,List.length_cons];omega
theorem RelO.some_of {v:V} {o:Option Value} (r:RelO (some v) o):∃ u,o=some u/\RelV v u:=by
 cases o with
 | none=>exact (show False from r).elim
 | some u=>exact⟨u,rfl,r⟩
theorem RelO.none_of {o:Option Value} (r:RelO none o):o=none:=by
 cases o with
 | none=>rfl
 | some u=>exact (show False from r).elim
theorem zGX {v:V} {u:Value} (r:RelV v u):PySem.W.handedIn u=true:=by
 cases v with
 | non=>cases (show u=Value.none from r);rfl
 | bl b=>cases (show u=Value.bool b from r);rfl
 | int i=>obtain⟨t,e⟩:=(show ∃ t,u=Value.int i (t+1) from r);cases e;rfl
 | str x=>obtain⟨t,e⟩:=(show ∃ t,u=Value.str x (t+1) from r);cases e;rfl
 | byt b=>obtain⟨t,e⟩:=(show ∃ t,u=Value.bytes b t from r);cases e;rfl
 | flt b=>obtain⟨t,e⟩:=(show ∃ t,u=Value.float b t from r);cases e;rfl
 | ref a=>cases (show u=Value.ref a from r);rfl
 | ty n=>cases (show u=Value.type n from r);rfl
section
variable {P:Program} {w:World} {H H':Hp} {h h':Heap} {a C dx:Addr} {fs fs':List (Str × V)}
theorem Jz (hok:HOk P w H h) (e:H a=some (.ins C dx fs)):∃ mA,ObjM h a dx C mA/\(∀ f,RelO (fs.lookup f) (mA f))/\PySem.Within mA (fs.map (·.1))/\fs.length<=1000/\H dx=some (.own a):=by
 obtain⟨d,z,ne,ob,mA,n,r,q⟩:=(show ObjOk P w H h a (.ins C dx fs) from hok a _ e)
 exact⟨mA,⟨ob,n,ne⟩,r,q,z,d⟩
end
structure Cls (K:W.Frag) (C:Addr):Prop where
 pg:W.plainGet K C Str.empty=true
 hd:PySem.W.hasDictIn K C=true
 po:PySem.W.plainOver K C=true
 sa:W.findIn K (.ref C) "__setattr__" = some (some (.builtin "object.__setattr__"))
theorem Cls.get {K:W.Frag} {C:Addr} (c:Cls K C) (f:Str):W.plainGet K C f=true:=c.pg
def NoAttr (K:W.Frag) (C:Addr) (f:Str):Prop:=W.findIn K (.ref C) f=some none
theorem NoAttr.taker {K:W.Frag} {C:Addr} {f:Str} (n:NoAttr K C f):PySem.W.takerIn K C f=some none:=by
 unfold PySem.W.takerIn
 rw[show W.findIn K (.ref C) f=some none from n]
 rfl
structure Meth (K:W.Frag) (C:Addr) (m:Str) (f:Addr):Prop where
 at_:W.findIn K (.ref C) m=some (some (.ref f))
 fn:W.isFn K (.ref f)=true
 kp:W.keepIn K (.ref f)=true
section
variable {X:Cx} {pins:List (Addr × Obj)} {σ:St} {H:Hp} {s:Shared} {a C dx:Addr} {fs:List (Str × V)} {f:Str} {v:V} {A:Around} {E:Value->Shared->Prop}
theorem zAE {b:Bool} {Q:Value->Shared->Prop} (I:Inv X pins σ H s) (e:H a=some (.ins C dx fs)) (c:Cls X.K C) (n:NoAttr X.K C f) (l:fs.lookup f=some v)
  (h:∀ u s',Inv X pins σ H s'->RelV v u->Q u s'):wpAny (model X.prog X.w) A (getAttr (.ref a) f b) Q E s:=by
 obtain⟨mA,O,r,_,_,_⟩:=Jz I.hok e
 obtain⟨u,hu,ru⟩:=RelO.some_of (v:=v) (o:=mA f) (by rw[← l];exact r f)
 exact zJc I.kIn O (c.get f) c.hd n hu (zGX ru) (h u _ (I.tok _) ru)
theorem ZA {m:Str} {g:Addr} {pl:Sem Bool} {Q:Value × List Value->Shared->Prop} (I:Inv X pins σ H s) (e:H a=some (.ins C dx fs)) (c:Cls X.K C) (k:Meth X.K C m g) (l:fs.lookup m=none)
  (h:Q (.ref g,[.ref a]) s):wpAny (model X.prog X.w) A (getMethod (.ref a) m pl) Q E s:=by
 obtain⟨mA,O,r,_,_,_⟩:=Jz I.hok e
 have hn:mA m=none:=RelO.none_of (by rw[← l];exact r m)
 exact zIT I.kIn O (c.get m) k.at_ k.fn hn h
theorem zAs {y:V} {u:Value} {Q:Unit->Shared->Prop} (I:Inv X pins σ H s) (e:H a=some (.ins C dx fs)) (c:Cls X.K C) (n:NoAttr X.K C f) (hl:fs.length < 1000) (ry:RelV y u)
  (h:∀ s',Inv X pins σ (upd H a (.ins C dx (Qu f y fs))) s'->Q () s'):wpAny (model X.prog X.w) A (setAttr (.ref a) f u) Q E s:=by
 obtain⟨mA,O,r,wi,_,ho⟩:=Jz I.hok e
 have hz:(fs.map (·.1)).length<=sizeLine:=by rw[List.length_map,sizeLine_eq];omega
 refine zJV I.kIn O c.sa c.po n.taker c.hd wi hz fun h' O' sb=>h _ ?_
 have hd:∃ o,h'.get? dx=some o:=let ⟨o,_,_,e',_⟩:=O'.ns;⟨o,e'⟩
 refine I.write (x:=a) (e:=dx) (by rw[e];exact True.intro) (.inr ho) (fun b q hb z=>(sb.2 b hb).trans z) hd ?_
 refine⟨by rw[QH O.ne];exact ho,?_,O.ne,O'.obj,_,O'.ns,fun g=>?_,fun g hg=>?_⟩
 ·have:=Qc f y fs;omega
 ·show RelO ((Qu f y fs).lookup g) (if g=f then some u else mA g)
  rw[JY]
  by_cases q:g=f
  ·rw[if_pos q,if_pos q];exact ry
  ·rw[if_neg q,if_neg q];exact r g
 ·by_cases q:g=f
  ·rw[q];exact (JB f y fs).1
  ·refine (JB f y fs).2 g (wi g fun z=>hg ?_)
   show (if g=f then some u else mA g)=none
   rw[if_neg q];exact z
theorem Inv.made (I:Inv X pins σ H s):Inv X pins σ (upd (upd H s.heap.objs.size (.own (s.heap.objs.size+1))) (s.heap.objs.size+1) (.ins C s.heap.objs.size []))
  { s with heap:=(s.heap.push W.emptyDict).push (W.instObj C s.heap.objs.size) }:=by
 have e1:(s.heap.push W.emptyDict).get? s.heap.objs.size=some W.emptyDict:=Heap.get?_push_size s.heap rfl
 have e2:((s.heap.push W.emptyDict).push (W.instObj C s.heap.objs.size)).get? (s.heap.objs.size+1)=some (W.instObj C s.heap.objs.size):=by
  have:=Heap.get?_push_size (s.heap.push W.emptyDict) (o:=W.instObj C s.heap.objs.size) rfl
  rwa [Heap.size_push] at this
 have e3:(s.heap.push W.emptyDict).Ns s.heap.objs.size (fun _=>none):=⟨W.emptyDict,#[],_,e1,rfl,(fun e he=>absurd he (by simp)),fun _=>rfl⟩
 have I1:=I.laid (a:=s.heap.objs.size) (o:=.own (s.heap.objs.size+1)) (h':=s.heap.push W.emptyDict) (t':=s.toks) (fun b u q=>Heap.get?_push_of_some _ q) (Nat.le_refl _) ⟨_,e1⟩
 refine I1.laid (a:=s.heap.objs.size+1) (o:=.ins C s.heap.objs.size []) (t':=s.toks) (fun b u q=>Heap.get?_push_of_some _ q) (Nat.le_of_eq (Heap.size_push _ _)) ?_
 have ne:s.heap.objs.size ≠ s.heap.objs.size+1:=Nat.ne_of_lt (Nat.lt_succ_self _)
 refine⟨by rw[QH ne,QF],Nat.zero_le _,ne,e2,fun _=>none,(Heap.Ns1.of_empty e3).at fun o q=>Heap.get?_push_of_some _ q,fun _=>True.intro,fun y hy=>absurd rfl hy⟩
theorem zIk {prog:Program} {w:World} {env:Env} {e:Expr} {f:Str} {pos:Pos} {s:Shared} {Q:Value->Shared->Prop} (hb:attributeBase e f env (eval e env)=eval e env)
  (h:wpAny (model prog w) A (eval e env) (fun o s₁=>wpAny (model prog w) A (getAttr o f true) Q E s₁) E s):wpAny (model prog w) A (eval (.Attribute e f pos) env) Q E s :=
 Attribute_any_ h (by rw[arm_eval_Attribute,hb])
end
def zLj (X:Cx) (op:Operator) (rd:V->V->Hp->VK->Prop):Prop :=
 ∀ (pins:List (Addr × Obj)) (s:Shared) (σ:St) (H:Hp) (x y:V) (u v:Value) (Q:VK),Inv X pins σ H s->RelV x u->RelV y v->rd x y H Q->wpAny (model X.prog X.w) X.A (inplaceOp op u v) (EP X pins σ Q) X.xe s
section
variable {X:Cx} {o e value:Expr} {f:Str} {pos pos' tpos:Pos} {ta tv:TE}
def zLZ:V->V->Hp->VK->Prop:=fun x y H Q=>∃ i j,x=.int i/\y=.int j/\Q (.int (i+j)) H
theorem zHW:zLj X .Add zLZ:=by
 rintro pins s σ H x y u v Q I rx ry ⟨i,j,rfl,rfl,q⟩
 obtain⟨t,rfl⟩:=(show ∃ t,u=Value.int i (t+1) from rx)
 obtain⟨t',rfl⟩:=(show ∃ t',v=Value.int j (t'+1) from ry)
 exact PyProof.Rows.iadd_int ⟨.int (i+j),H,I.tok _,I.rI,q⟩
end
section
variable {X:Cx} {pins:List (Addr × Obj)} {σ:St} {H:Hp} {s:Shared} {A:Around} {E:Value->Shared->Prop} {Q:Value->Shared->Prop} {c:Value} {b:Bool}
inductive TyOf (K:W.Frag) (H:Hp):V->Value->Prop where
 | non:TyOf K H .non (.type "NoneType")
 | bl (x:Bool):TyOf K H (.bl x) (.type "bool")
 | int (i:Int):TyOf K H (.int i) (.type "int")
 | str (x:Str):TyOf K H (.str x) (.type "str")
 | flt (x:UInt64):TyOf K H (.flt x) (.type "float")
 | lst {a:Addr} {xs:List V} (e:H a=some (.lst xs)):TyOf K H (.ref a) (.type "list")
 | frz {a:Addr} {o:Obj} {xs:List V} (e:H a=some (.frz o (.lst xs))):TyOf K H (.ref a) (.type "list")
 | tup {a:Addr} {xs:List V} (e:H a=some (.tup xs)):TyOf K H (.ref a) (.type "tuple")
 | dK {a:Addr} {kvs:List (Key × V)} (e:H a=some (.dK kvs)):TyOf K H (.ref a) (.type "dict")
 | dT {a:Addr} {kvs:List (List Key × V)} (e:H a=some (.dT kvs)):TyOf K H (.ref a) (.type "dict")
 | ins {a C dx : Addr} {fs : List (Str × V)} (e : H a = some (.ins C dx fs)) (cl : Cls K C) (ha : W.findIn K (.ref C) "__class__" = some (some (.builtin "object.__class__")))
   (hn:PySem.W.specialIn K (.builtin "object.__class__") "__get__" = some (some (.builtin "getset_descriptor.__get__"))) (htk:PySem.W.takesIn K (.builtin "object.__class__")=some true)
   (hm:W.mroIn K C (.type "object")=some true):TyOf K H (.ref a) (.ref C)
theorem zF2 {x:V} {u t:Value} (I:Inv X pins σ H s) (rx:RelV x u) (ty:TyOf X.K H x t) (e:W.kitOne X.K t c=some b) (h:∀ tk,Q (.bool b) { s with toks:=tk }) :
  wpAny (model X.prog X.w) A (call (.builtin "isinstance") [u,c]) Q E s:=by
 cases ty with
 | non=>cases (show u=Value.none from rx);exact PySem.W.kia_one PySem.W.kitx_none I.kIn True.intro e (fun z=>nomatch z) h
 | bl y=>cases (show u=Value.bool y from rx);exact PySem.W.kia_one PySem.W.kitx_bool I.kIn True.intro e (fun z=>nomatch z) h
 | int i=>obtain⟨t,q⟩:=(show ∃ t,u=Value.int i (t+1) from rx);cases q;exact PySem.W.kia_one PySem.W.kitx_int I.kIn True.intro e (fun z=>nomatch z) h
 | str y=>obtain⟨t,q⟩:=(show ∃ t,u=Value.str y (t+1) from rx);cases q;exact PySem.W.kia_one PySem.W.kitx_str I.kIn True.intro e (fun z=>nomatch z) h
 | flt y=>obtain⟨t,q⟩:=(show ∃ t,u=Value.float y t from rx);cases q;exact PySem.W.kia_one PySem.W.kitx_float I.kIn True.intro e (fun z=>nomatch z) h
 | @lst a xs ea =>
  cases (show u=Value.ref a from rx)
  obtain⟨_,_,n,_,h1⟩:=(show ObjOk X.prog X.w H s.heap a (.lst xs) from I.hok a _ ea)
  exact PySem.W.kia_one PySem.W.kitx_list I.kIn ⟨_,h1,rfl⟩ e (fun z=>nomatch z) h
 | @frz a ob xs ea =>
  cases (show u=Value.ref a from rx)
  obtain⟨_,_,_,n,_,h1⟩:=(show ObjOk X.prog X.w H s.heap a (.frz ob (.lst xs)) from I.hok a _ ea)
  exact PySem.W.kia_one PySem.W.kitx_list I.kIn ⟨_,h1,rfl⟩ e (fun z=>nomatch z) h
 | @tup a xs ea =>
  cases (show u=Value.ref a from rx)
  obtain⟨_,_,_,p⟩:=(show ObjOk X.prog X.w H s.heap a (.tup xs) from I.hok a _ ea)
  obtain⟨o,h1,h2,_⟩:=p
  exact PySem.W.kia_one PySem.W.kitx_tuple I.kIn ⟨o,h1,h2⟩ e (fun z=>nomatch z) h
 | @dK a kvs ea =>
  cases (show u=Value.ref a from rx)
  obtain⟨_,_,vs,_,p⟩:=(show ObjOk X.prog X.w H s.heap a (.dK kvs) from I.hok a _ ea)
  obtain⟨o,es,ep,h1,h2,_⟩:=p
  exact PySem.W.kia_one PySem.W.kitx_dict I.kIn ⟨o,h1,h2.1⟩ e (fun z=>nomatch z) h
 | @dT a kvs ea =>
  cases (show u=Value.ref a from rx)
  obtain⟨_,_,xs,_,o,es,ep,h1,h2,_⟩:=(show ObjOk X.prog X.w H s.heap a (.dT kvs) from I.hok a _ ea)
  exact PySem.W.kia_one PySem.W.kitx_dict I.kIn ⟨o,h1,h2.1⟩ e (fun z=>nomatch z) h
 | @ins a C dx fs ea cl ha hn htk hm =>
  cases (show u=Value.ref a from rx)
  obtain⟨mA,O,_⟩:=Jz I.hok ea
  obtain⟨od,J,_⟩:=O.look
  exact PySem.W.kia_one (PySem.W.kitx_own (cl.get _) cl.hd ha hn htk hm) I.kIn J e (fun z=>nomatch z) h
end
end L2
namespace L2
open PySem PySem.Spec PyProof.Rows
structure Room (k:Nat) (A:Around):Prop where
 hd:A.handled=none
 dp:A.depth+3*k+5 < recursionLimit
 un:A.units+16*k+200 < cLine
theorem Room.mono {j k:Nat} {A:Around} (r:Room k A) (h:j<=k):Room j A:=⟨r.hd,by have:=r.dp;omega,by have:=r.un;omega⟩
theorem Room.deeper {k:Nat} {A:Around} (r:Room (k+1) A) (env:Env):Room k (A.deeper env) :=
 ⟨r.hd,by have:=r.dp;show A.depth+1+3*k+5 < _;omega,by have:=r.un;show A.units+3+16*k+200 < _;omega⟩
theorem zDy {A:Around} {C:Addr} {us:List Value} {kw:List (Str × Value)}:(A.under (.builtin "type.__call__" ⟨.ref C::us,kw⟩)).depth=A.depth+1:=by
 first | rfl | simp[Around.under,Code.weight,Code.isCreation,Code.isGuard,Code.isCaller,Code.frames,Code.isFrame,guardIds]
theorem zET {A:Around} {C:Addr} {us:List Value} {kw:List (Str × Value)}:(A.under (.builtin "type.__call__" ⟨.ref C::us,kw⟩)).units=A.units+1:=by
 first | rfl | simp[Around.under,Code.cUnits,Code.frames,Code.isFrame]
theorem Room.make {k:Nat} {A:Around} (r:Room (k+1) A) (C:Addr) (us:List Value) (kw:List (Str × Value)):Room k (A.under (.builtin "type.__call__" ⟨.ref C::us,kw⟩)) :=
 ⟨r.hd,by have:=r.dp;rw[zDy];omega,by have:=r.un;rw[zET];omega⟩
theorem Room.depth {k:Nat} {A:Around} (r:Room k A):A.depth < recursionLimit:=by have:=r.dp;omega
theorem Room.units {k:Nat} {A:Around} (r:Room k A):A.units+64 < cLine:=by have:=r.un;omega
def zEZ:TA:=fun _ H Q=>Q [] H
def zFS (ta:TE) (tr:TA):TA:=fun σ H Q=>ta σ H fun x H1=>tr σ H1 fun xs H2=>Q (x::xs) H2
section
variable {X:Cx} {e:Expr} {es:List Expr} {te:TE} {t:TA} {pos:Pos}
theorem QC:PA X [] zEZ:=fun _ _ _ _ H Q I h=>Calls.spliced_nil ⟨[],H,I,.nil,h⟩
theorem QA (ha:PE X e te) (hr:PA X es t) (hs:starEach (e::es) X.env=(false,eval e X.env)::starEach es X.env:=by rfl):PA X (e::es) (zFS te t):=by
 intro pos pins s σ H Q I h
 rw[hs]
 show wpAny _ _ (spliced ((false,eval e X.env)::backTo pos (starEach es X.env))) _ _ s
 refine Calls.spliced_cons (thn (ha pins s σ H _ I h) fun u s1 ⟨x,H1,I1,r1,q1⟩=>?_)
 exact thn (hr pos pins s1 σ H1 _ I1 q1) fun us s2 ⟨xs,H2,I2,r2,q2⟩=>⟨x::xs,H2,I2,.cons r1 r2,q2⟩
def zLx (t:TA):TE:=fun σ H Q=>t σ H fun xs H1=>xs.length<=sizeLine/\∀ p,H1 p=none->Q (.ref p) (upd H1 p (.tup xs))
def zLk (t:TA):TE:=fun σ H Q=>t σ H fun xs H1=>xs.length<=sizeLine/\∀ p,H1 p=none->Q (.ref p) (upd H1 p (.lst xs))
theorem ZW {x1} (h:PA X es t):PE X (.Tuple es x1 pos) (zLx t):=by
 intro pins s σ H Q I hq
 refine wpAny_Tuple_spliced (thn (h pos pins s σ H _ I hq) fun us s1 ⟨xs,H1,I1,r,z,q⟩=>⟨by rw[← r.length];exact z,?_⟩)
 have hf:H1 s1.heap.objs.size=none:=I1.hok.fresh (Nat.le_refl _)
 refine⟨.ref s1.heap.objs.size,upd H1 s1.heap.objs.size (.tup xs),I1.laid (t':=s1.toks) (fun b u e=>Heap.get?_push_of_some _ e) (Nat.le_refl _) ?_,rfl,q _ hf⟩
 exact⟨z,us,r,⟨_,Heap.get?_push_size _ rfl,rfl,_,rfl⟩⟩
theorem ZU (h:PA X es t):PE X (.List es pos) (zLk t):=by
 intro pins s σ H Q I hq
 refine wpAny_List_spliced (thn (h pos pins s σ H _ I hq) fun us s1 ⟨xs,H1,I1,r,z,q⟩=>⟨by rw[← r.length];exact z,?_⟩)
 have hf:H1 s1.heap.objs.size=none:=I1.hok.fresh (Nat.le_refl _)
 refine⟨.ref s1.heap.objs.size,upd H1 s1.heap.objs.size (.lst xs),I1.laid (t':=s1.toks) (fun b u e=>Heap.get?_push_of_some _ e) (Nat.le_refl _) ?_,rfl,q _ hf⟩
 exact⟨z,us,0,r,Heap.get?_push_size _ rfl⟩
end
abbrev Sp:=List V->Hp->VK->XK->Prop
abbrev CXT:=List Env->Hp->Shared->XK->Value->Shared->Prop
structure Env0 (P:Program) (w:World) (K:W.Frag) (mg:Str->Option Value) (base:Heap) (A:Around) (outer:List Env) (s:Shared) (H:Hp):Prop where
 frames:A.frames=some outer
 mod:Mod K mg base
 bs:∀ b o,base.get? b=some o->s.heap.get? b=some o/\H b=none
 bsz:base.objs.size<=s.heap.objs.size
 funs:s.heap.FunFrames base outer
 frf:∀ b∈frs outer,H b=none
 hok:HOk P w H s.heap
 bare:AllBare s.gens
 tk:1<=s.toks
def CE (outer:List Env) (P:Program) (w:World) (H:Hp) (s:Shared) (Q:VK) (u:Value) (s':Shared):Prop :=
 ∃ v H',(s'.os=s.os/\1<=s'.toks)/\AllBare s'.gens/\Un (frs outer) [] H H' s.heap s'.heap/\HOk P w H' s'.heap/\RelV v u/\Q v H'
def CR (CX:CXT) (outer:List Env) (P:Program) (w:World) (H:Hp) (s:Shared) (Q:VK) (E:XK) (r:Result) (s':Shared):Prop :=
 match r with
 | .ok (.ret u)=>CE outer P w H s Q u s'
 | .ok _=>False
 | .error e=>CX outer H s E e s'
structure FnOk (P:Program) (w:World) (K:W.Frag) (mg:Str->Option Value) (base:Heap) (CX:CXT) (k:Nat) (f:Addr) (fd:FuncData) (ps:List Str) (sp:Sp):Prop where
 len:∀ vs H Q E,sp vs H Q E->vs.length=ps.length
 run:∀ (A:Around) (outer:List Env) (s:Shared) (H:Hp) (args:Args) (us:List Value) (vs:List V) (Q:VK) (E:XK),Room k A->Env0 P w K mg base A outer s H->BindsTo s fd args (ps.zip us)->Vals vs us->sp vs H Q E ->
  codeAny (model P w) A (.call (.ref f) args) (CR CX outer P w H s Q E) s
theorem FnOk.mono {P:Program} {w:World} {K:W.Frag} {mg:Str->Option Value} {base:Heap} {CX:CXT} {j k:Nat} {f:Addr} {fd:FuncData} {ps:List Str} {sp:Sp} (F:FnOk P w K mg base CX j f fd ps sp) (h:j<=k) :
  FnOk P w K mg base CX k f fd ps sp:=⟨F.len,fun A outer s H args us vs Q E hr=>F.run A outer s H args us vs Q E (hr.mono h)⟩
theorem Env0.make {P:Program} {w:World} {K:W.Frag} {mg:Str->Option Value} {base:Heap} {A:Around} {outer:List Env} {s:Shared} {H:Hp} (e:Env0 P w K mg base A outer s H) (C:Addr) (us:List Value) (kw:List (Str × Value)) :
  Env0 P w K mg base (A.under (.builtin "type.__call__" ⟨.ref C::us,kw⟩)) outer s H:=⟨by first | exact e.frames | (simpa [Around.under,Code.envs,Code.isFrame,pushEnvs] using e.frames),e.mod,e.bs,e.bsz,e.funs,e.frf,e.hok,e.bare,e.tk⟩
section
variable {X:Cx} {pins:List (Addr × Obj)} {σ:St} {H:Hp} {s s':Shared}
theorem Inv.env0 (I:Inv X pins σ H s):Env0 X.prog X.w X.K X.mg X.base X.A X.stack s H :=
 ⟨I.ok.frames,I.ok.mod,I.bs,Nat.le_trans I.ok.bsz I.sz,I.stack,I.stkFree,I.hok,I.bare,I.tk⟩
theorem Inv.after {Q:VK} {u:Value} (I:Inv X pins σ H s) (h:CE X.stack X.prog X.w H s Q u s'):EP X pins σ Q u s':=by
 obtain⟨v,H',⟨os,tk⟩,bare,un,hok,r,q⟩:=h
 obtain⟨hh,g,d,t,os'⟩:=s'
 obtain rfl:os'=s.os:=os
 exact⟨v,H',I.call (h':=hh) (g':=g) (d':=d) (t':=t) (ch:=[]) un hok bare tk (fun b z=>absurd z (by simp)),r,q⟩
end
def zJ8 (sp:Sp) (dvs:List V) (E:XK) (t:TA):TE:=fun σ H Q=>t σ H fun vs H1=>sp (vs++dvs) H1 Q E
def zKJ (C:Addr) (sp:Sp) (dvs:List V) (E:XK) (t:TA):TE:=fun σ H Q=>t σ H fun vs H1=>∀ x dx,H1 x=none->H1 dx=none->dx ≠ x ->
 sp (.ref x::(vs++dvs)) (upd (upd H1 dx (.own x)) x (.ins C dx [])) (fun v H2=>v=.non/\Q (.ref x) H2) E
def Binds (K:W.Frag) (fd:FuncData) (ps:List Str) (ds:List Value):Prop :=
 ∀ (s:Shared) (us:List Value),K.In s.heap->(us++ds).length=ps.length->BindsTo s fd ⟨us,[]⟩ (ps.zip (us++ds))
theorem Binds.all {K:W.Frag} {fd:FuncData} {ps:List Str} (h:∀ us:List Value,us.length=ps.length->bindArgs fd ⟨us,[]⟩=pure (ps.zip us)):Binds K fd ps []:=fun s us _ hl=>by
 rw[List.append_nil] at hl ⊢
 exact .of_eq (h us hl)
def ZN (CX:CXT) (X:Cx) (E:XK):Prop:=∀ (pins:List (Addr × Obj)) (σ:St) (H:Hp) (s:Shared) (e:Value) (s':Shared),Inv X pins σ H s->CX X.stack H s E e s'->X.xe e s'
section
variable {X:Cx} {CX:CXT} {k:Nat} {f C:Addr} {fd:FuncData} {ps:List Str} {sp:Sp} {dvs:List V} {ds:List Value} {E:XK} {x m:Str} {p pos apos:Pos} {e o:Expr} {es:List Expr} {ta:TE} {t:TA}
theorem zEM {pins:List (Addr × Obj)} {σ:St} {H:Hp} {s:Shared} {Q:VK} {us:List Value} {vs:List V} (F:FnOk X.prog X.w X.K X.mg X.base CX k f fd ps sp) (hr:Room k X.A) (hb:Binds X.K fd ps ds) (hd:Vals dvs ds) (hx:ZN CX X E)
  (I:Inv X pins σ H s) (r:Vals vs us) (h:sp (vs++dvs) H Q E):wpAny (model X.prog X.w) X.A (call (.ref f) us) (EP X pins σ Q) X.xe s:=by
 have r2:Vals (vs++dvs) (us++ds):=r.append hd
 have hl:(us++ds).length=ps.length:=by rw[← r2.length];exact F.len _ _ _ _ h
 refine wpAny_call (codeAny_mono (F.run X.A X.stack s H ⟨us,[]⟩ (us++ds) (vs++dvs) Q E hr I.env0 (hb s us I.kIn hl) r2 h) fun r s' hq=>?_)
 cases r with
 | error e=>exact hx pins σ H s e s' I hq
 | ok fl =>
  cases fl with
  | ret u=>exact I.after hq
  | next=>exact False.elim hq
  | brk=>exact False.elim hq
  | cont=>exact False.elim hq
theorem QM (F:FnOk X.prog X.w X.K X.mg X.base CX k f fd ps sp) (hr:Room k X.A) (hg:Gl X x) (hm:X.mg x=some (.ref f)) (hk:W.keepIn X.K (.ref f)=true) (hb:Binds X.K fd ps ds) (hd:Vals dvs ds) (hx:ZN CX X E)
  (ha:PA X (e::es) t) (hdb:(x == ("__debug__" : Str))=false:=by decide) (he:starEach (e::es) X.env=(false,eval e X.env)::starEach es X.env:=by rfl) (hpl:(backTo pos (starEach es X.env)).any (·.1)=false:=by rfl) :
  PE X (.Call (.Name x p) (e::es) [] pos) (zJ8 sp dvs E t):=by
 intro pins s σ H Q I h
 refine wpAny_Call_Name_kw (Z3 I hg hm ?_ hdb)
 refine PySem.W.callWith_K (h₀:=X.base) I.ok.mod.kin hk (thn (ha pos pins s σ H _ I h) fun us s1 ⟨vs,H1,I1,r,q⟩=>⟨I1.kIn,?_⟩) he hpl
 exact zEM F hr hb hd hx I1 r q
structure Mk (K:W.Frag) (C f:Addr):Prop where
 makes:PySem.W.makesIn K C=true
 init:W.findIn K (.ref C) "__init__" = some (some (.ref f))
 fn:W.isFn K (.ref f)=true
 kp:W.keepIn K (.ref C)=true
theorem zHh {pins:List (Addr × Obj)} {σ:St} {H:Hp} {s:Shared} {Q:VK} {us:List Value} {vs:List V} (M:Mk X.K C f) (F:FnOk X.prog X.w X.K X.mg X.base CX k f fd ps sp) (hr:Room (k+1) X.A) (hb:Binds X.K fd ps ds) (hd:Vals dvs ds)
  (hx:ZN CX X E) (I:Inv X pins σ H s) (r:Vals vs us)
  (h:∀ x dx,H x=none->H dx=none->dx ≠ x->sp (.ref x::(vs++dvs)) (upd (upd H dx (.own x)) x (.ins C dx [])) (fun v H2=>v=.non/\Q (.ref x) H2) E) :
  wpAny (model X.prog X.w) X.A (call (.ref C) us) (EP X pins σ Q) X.xe s:=by
 have hq:=h (s.heap.objs.size+1) s.heap.objs.size (I.hok.fresh (Nat.le_succ _)) (I.hok.fresh (Nat.le_refl _)) (Nat.ne_of_lt (Nat.lt_succ_self _))
 have I2:=Inv.made (C:=C) I
 have r2:Vals (V.ref (s.heap.objs.size+1)::(vs++dvs)) (Value.ref (s.heap.objs.size+1)::(us++ds)):=.cons rfl (r.append hd)
 have hl:(Value.ref (s.heap.objs.size+1)::us++ds).length=ps.length:=by
  have e:=r2.length
  rw[F.len _ _ _ _ hq] at e
  exact e.symm
 refine wpAny_call (zHP (f:=f) I.kIn M.makes M.init (beq_iff_eq.mp M.fn) (codeAny_mono (F.run _ X.stack _ _ ⟨Value.ref (s.heap.objs.size+1)::us,[]⟩ (Value.ref (s.heap.objs.size+1)::(us++ds)) _ _ E (hr.make C us [])
  (I2.env0.make C us []) (hb _ (Value.ref (s.heap.objs.size+1)::us) I2.kIn hl) r2 hq) fun r s' hq'=>?_))
 cases r with
 | error e=>exact hx pins σ _ _ e s' I2 hq'
 | ok fl =>
  cases fl with
  | ret u =>
   obtain⟨v,H',I3,rv,ev,q3⟩:=I2.after hq'
   subst ev
   exact⟨rv,⟨V.ref (s.heap.objs.size+1),H',I3,rfl,q3⟩⟩
  | next=>exact False.elim hq'
  | brk=>exact False.elim hq'
  | cont=>exact False.elim hq'
theorem zFN (M:Mk X.K C f) (F:FnOk X.prog X.w X.K X.mg X.base CX k f fd ps sp) (hr:Room (k+1) X.A) (hg:Gl X x) (hm:X.mg x=some (.ref C)) (hb:Binds X.K fd ps ds) (hd:Vals dvs ds) (hx:ZN CX X E)
  (ha:PA X (e::es) t) (hdb:(x == ("__debug__" : Str))=false:=by decide) (he:starEach (e::es) X.env=(false,eval e X.env)::starEach es X.env:=by rfl) (hpl:(backTo pos (starEach es X.env)).any (·.1)=false:=by rfl) :
  PE X (.Call (.Name x p) (e::es) [] pos) (zKJ C sp dvs E t):=by
 intro pins s σ H Q I h
 refine wpAny_Call_Name_kw (Z3 I hg hm ?_ hdb)
 refine PySem.W.callWith_K (h₀:=X.base) I.ok.mod.kin M.kp (thn (ha pos pins s σ H _ I h) fun us s1 ⟨vs,H1,I1,r,q⟩=>⟨I1.kIn,?_⟩) he hpl
 exact zHh M F hr hb hd hx I1 r q
end
def PK (X:Cx) (kws:List Keyword) (t:TA):Prop :=
 ∀ (pos:Pos) (pins:List (Addr × Obj)) (s:Shared) (σ:St) (H:Hp) (Q:List V->Hp->Prop),Inv X pins σ H s->t σ H Q->wpAny (model X.prog X.w) X.A (evalAll ((backToKw pos (keywordEach kws X.env)).map (·.2))) (AP X pins σ Q) X.xe s
structure FnScope (N P:List Str) (sc:Scope):Prop where
 kind:sc.kind=.function
 co:sc.isCoroutine=false
 gen:sc.isGenerator=false
 nd:N.Nodup
 pre:N.take P.length=P
 par:∀ x∈P,sc.names.lookup x=some .local\/sc.names.lookup x=some .cell
 nofree:∀ y∈sc.names,y.2 ≠ .free
theorem zBj {kindOf:Str->Option NameKind} {x:Str}:∀ {binds:List (Str × Value)} {m:Str->Option Value},(∀ v,(x,v) ∉ binds)->bindL kindOf binds m x=m x
 | [],_,_=>rfl
 | (n,v)::r,m,h=>by
  unfold bindL
  rw[zBj fun w hw=>h w (List.mem_cons_of_mem _ hw)]
  split
  ·have:x ≠ n:=by rintro rfl;exact h v List.mem_cons_self
   simp[this]
  ·rfl
theorem zBd {kindOf:Str->Option NameKind} {x:Str}:∀ {binds:List (Str × Value)} {m:Str->Option Value},(∀ v,(x,v) ∉ binds)->bindC kindOf binds m x=m x
 | [],_,_=>rfl
 | (n,v)::r,m,h=>by
  unfold bindC
  rw[zBd fun w hw=>h w (List.mem_cons_of_mem _ hw)]
  split
  ·rfl
  ·have:x ≠ n:=by rintro rfl;exact h v List.mem_cons_self
   simp[this]
theorem zBk {kindOf:Str->Option NameKind} {x:Str} {v:Value}:∀ {P:List Str} {vs:List Value} {i:Nat} {m:Str->Option Value},P.Nodup->P[i]? = some x->vs[i]? = some v->kindOf x=some .local ->
  bindL kindOf (P.zip vs) m x=some v
 | [],_,_,_,_,h,_,_=>by simp at h
 | _::_,[],_,_,_,_,h,_=>by simp at h
 | p::P,w::vs,0,m,nd,h1,h2,hk=>by
  simp at h1 h2;subst h1;subst h2
  show bindL kindOf ((p,w)::P.zip vs) m p=_
  unfold bindL
  rw[zBj fun v hv=>(List.nodup_cons.mp nd).1 (List.of_mem_zip hv).1,if_pos hk]
  simp
 | p::P,w::vs,i+1,m,nd,h1,h2,hk=>by
  show bindL kindOf ((p,w)::P.zip vs) m x=_
  unfold bindL
  exact zBk (i:=i) (List.nodup_cons.mp nd).2 (by simpa using h1) (by simpa using h2) hk
theorem zBV {kindOf:Str->Option NameKind} {x:Str} {v:Value}:∀ {P:List Str} {vs:List Value} {i:Nat} {m:Str->Option Value},P.Nodup->P[i]? = some x->vs[i]? = some v->kindOf x ≠ some .local ->
  bindC kindOf (P.zip vs) m x=some v
 | [],_,_,_,_,h,_,_=>by simp at h
 | _::_,[],_,_,_,_,h,_=>by simp at h
 | p::P,w::vs,0,m,nd,h1,h2,hk=>by
  simp at h1 h2;subst h1;subst h2
  show bindC kindOf ((p,w)::P.zip vs) m p=_
  unfold bindC
  rw[zBd fun v hv=>(List.nodup_cons.mp nd).1 (List.of_mem_zip hv).1,if_neg hk]
  simp
 | p::P,w::vs,i+1,m,nd,h1,h2,hk=>by
  show bindC kindOf ((p,w)::P.zip vs) m x=_
  unfold bindC
  exact zBV (i:=i) (List.nodup_cons.mp nd).2 (by simpa using h1) (by simpa using h2) hk
def Zq (N:List Str) (vs:List V):St:=vs.map some++List.replicate (N.length - vs.length) none
def zA4 (CX:CXT) (P:Program) (w:World) (K:W.Frag) (mg:Str->Option Value) (base:Heap) (N:List Str) (qual:Str) (scope:Scope) (f:Addr) (cd:Value) (A:Around) (outer:List Env) (s:Shared) (H:Hp) (E:XK):Cx where
 prog:=P
 w:=w
 K:=K
 mg:=mg
 base:=base
 A:=A.deeper (envOfC qual scope s.heap.objs.size f cd)
 N:=N
 s₀:=s
 H₀:=H
 env:=envOfC qual scope s.heap.objs.size f cd
 outer:=outer
 stack:=envOfC qual scope s.heap.objs.size f cd::outer
 ex:=[]
 calm:=true
 fn:=fun _=>true
 pn:=[]
 xe:=fun e s'=>wpAny (model P w) (A.deeper (envOfC qual scope s.heap.objs.size f cd)) (leaving (envOfC qual scope s.heap.objs.size f cd) e) (fun _ s''=>CX outer H s E e s'') (fun e' s''=>CX outer H s E e' s'') s'
theorem zDR {sc:Scope} {n:Nat} {x:Str} (h:sc.names.lookup x=some .cell):∃ c,(cellsFrom n sc.names []).lookup x=some c:=by
 have q:=PySem.W.cellsFrom_some sc.names n [] (.inl h)
 exact Option.isSome_iff_exists.mp q
theorem zGK {CX:CXT} {P:Program} {w:World} {K:W.Frag} {mg:Str->Option Value} {base:Heap} {N ps:List Str} {qual:Str} {scope:Scope} {f:Addr} {cd:Value} {A:Around} {outer:List Env} {s s1:Shared} {H:Hp} {E:XK} {us:List Value} {vs:List V}
  (S:FnScope N ps scope) (hd:A.handled=none) (e0:Env0 P w K mg base A outer s H) (hl:vs.length=ps.length) (r:Vals vs us) (htk:1<=s1.toks)
  (x:InCallC s s.heap.objs.size (bindL (envOfC qual scope s.heap.objs.size f cd).kindOf (ps.zip us) fun _=>none) (cellsFrom (s.heap.objs.size+1) scope.names []) (bindC (envOfC qual scope s.heap.objs.size f cd).kindOf (ps.zip us) fun _=>none) s1) :
  Inv (zA4 CX P w K mg base N qual scope f cd A outer s H E) [] (Zq N vs) H s1:=by
 have hpl:ps.length<=N.length:=by have:=congrArg List.length S.pre;rw[List.length_take] at this;omega
 obtain⟨h1,tk,rfl,hk⟩:=x.done
 have noA:∀ b:Addr,b ∉ (zA4 CX P w K mg base N qual scope f cd A outer s H E).ex:=fun b z=>absurd (show b∈([]:List Addr) from z) (by simp)
 refine⟨⟨e0.mod,S.kind,rfl,rfl,Nat.le_refl _,fun y z c h1 h2=>?_,fun y hy=>?_,fun y c _ h=>?_,fun _=>hd,Around.frames_deeper e0.frames,.inr ⟨rfl,rfl⟩,fun b z=>absurd z (noA b),e0.bs,e0.bsz,fun b _ _=>noA b,fun b z=>absurd z (noA b),e0.funs,e0.frf⟩,
  rfl,e0.bare,Un.kept hk,⟨_,x.toInCall.ns,fun i y v h1 h2 h3=>?_⟩,fun y c h=>⟨_,x.cell y c h⟩,e0.hok.fresh (Nat.le_refl _),fun y c h=>?_,fun p hp=>absurd (show p∈([]:List (Addr × Obj)) from hp) (by simp),e0.hok.kept hk,?_,htk⟩
 ·exact name_of_addr x.apart (PySem.mem_of_lookup h1) (PySem.mem_of_lookup h2)
 ·have hy:scope.names.lookup y=some .cell\/scope.names.lookup y=some .free:=hy
  rcases hy with hy | hy
  ·exact zDR hy
  ·exact absurd rfl (S.nofree _ (PySem.mem_of_lookup hy))
 ·exact Nat.le_of_lt (x.above y c (PySem.mem_of_lookup h))
 ·have hi:i < vs.length:=by
   unfold Zq at h2
   by_cases hi:i < vs.length
   ·exact hi
   ·rw[List.getElem?_append_right (by simpa using hi)] at h2
    rw[List.getElem?_replicate] at h2
    split at h2 <;> cases h2
  have ha:vs[i]? = some v:=by
   unfold Zq at h2
   rw[List.getElem?_append_left (by simpa using hi),List.getElem?_map] at h2
   cases e:vs[i]? with
   | none=>rw[e] at h2;cases h2
   | some a=>rw[e] at h2;cases h2;rfl
  obtain⟨u,hu,rv⟩:=r.get ha
  have hp:ps[i]? = some y:=by
   rw[← S.pre,List.getElem?_take_of_lt (by omega)];exact h1
  have ndP:ps.Nodup:=by rw[← S.pre];exact S.nd.sublist (List.take_sublist _ _)
  refine⟨u,rv,?_⟩
  rcases S.par y (List.mem_of_getElem? hp) with k | k
  ·exact .inl ⟨k,zBk ndP hp hu k⟩
  ·obtain⟨c,e⟩:=zDR (n:=s.heap.objs.size+1) k
   refine .inr ⟨.inl k,c,e,?_⟩
   have q:=x.cell y c e
   rw[zBV ndP hp hu (by show scope.names.lookup y ≠ _;rw[k];decide)] at q
   exact q
 ·exact e0.hok.fresh (Nat.le_of_lt (x.above y c (PySem.mem_of_lookup h)))
 ·unfold Zq
  show _=N.length
  rw[List.length_append,List.length_map,List.length_replicate]
  omega
theorem zG2 {CX:CXT} {P:Program} {w:World} {K:W.Frag} {mg:Str->Option Value} {base:Heap} {k:Nat} {f:Addr} {name qual:Str} {params:Arguments} {body:List Stmt} {scope:Scope} {dV kV doc pm cdv ct oc:Value} {an od:Option Addr}
  {osl:Array (Option Value)} {N ps:List Str} {sp:Sp} (lk:K.lookup f=some ⟨oc,od,.func (W.fnOf name qual params body scope dV kV doc pm an cdv ct),osl⟩) (hcd:W.codeIn K cdv qual=true) (S:FnScope N ps scope)
  (len:∀ vs H Q E,sp vs H Q E->vs.length=ps.length)
  (hbody:∀ (A:Around) (outer:List Env) (s:Shared) (H:Hp) (vs:List V) (Q:VK) (E:XK),Room k (A.deeper (envOfC qual scope s.heap.objs.size f cdv))->sp vs H Q E ->
   ∃ t,PSs (zA4 CX P w K mg base N qual scope f cdv A outer s H E) body t/\t { nx:=fun _ H'=>Q .non H',rt:=Q } (Zq N vs) H) :
  FnOk P w K mg base CX (k+1) f (W.fnOf name qual params body scope dV kV doc pm an cdv ct) ps sp:=by
 refine⟨len,fun A outer s H args us vs Q E hr e0 hb r hsp=>?_⟩
 have hl:=len _ _ _ _ hsp
 have KX:K.In s.heap:=e0.mod.kin.keeps fun b o e=>(e0.bs b o e).1
 have lim:s.heap.NoLimit:=e0.mod.nolimit.keeps fun b o e=>(e0.bs b o e).1
 have hkind:∀ y∈ps.zip us,scope.names.lookup y.1=some .local\/(scope.names.lookup y.1=some .cell/\((cellsFrom (s.heap.objs.size+1) scope.names []).lookup y.1).isSome=true):=fun ⟨n,v⟩ hy=>by
  rcases S.par n (List.of_mem_zip hy).1 with q | q
  ·exact .inl q
  ·exact .inr ⟨q,PySem.W.cellsFrom_some _ _ _ (.inl q)⟩
 refine codeAny_call_function hr.depth (KX _ _ lk) rfl S.co S.gen rfl (PySem.W.codeRec_of KX hcd) (hb _ _ _ _ ?_)
 refine zDF (wpAny_newFunctionEnv_cells S.kind hkind fun env he s1 x htk=>?_)
 subst he
 refine⟨lim.keeps x.toInCall.keep,codeAny_func ?_⟩
 obtain⟨t,ht,hq⟩:=hbody A outer s H vs Q E (hr.deeper _) hsp
 have I:Inv (zA4 CX P w K mg base N qual scope f cdv A outer s H E) [] (Zq N vs) H s1:=zGK S hr.hd e0 hl r (Nat.le_trans e0.tk htk) x
 refine wpAny_mono (ht [] s1 (Zq N vs) H _ I hq) (fun fl s' hs=>?_) fun e s' hs=>hs
 have fin:∀ {σ':St} {H':Hp} {v:V} {u:Value},Inv (zA4 CX P w K mg base N qual scope f cdv A outer s H E) [] σ' H' s'->RelV v u->Q v H'->CE outer P w H s Q u s' :=
  fun {σ' H' v u} J rv q=>⟨v,H',⟨J.os,J.tk⟩,J.bare,J.base,J.hok,rv,q⟩
 cases fl with
 | ret u =>
  obtain⟨v,σ',H',J,rv,q⟩:=hs
  exact fin J rv q
 | next =>
  obtain⟨σ',H',J,q⟩:=hs
  exact fin (v:=V.non) (u:=Value.none) J rfl q
 | brk =>
  obtain⟨_,_,_,q⟩:=hs
  exact False.elim q
 | cont =>
  obtain⟨_,_,_,q⟩:=hs
  exact False.elim q
end L2
namespace L2
open PySem PySem.Spec PyProof.Rows
section
variable {X:Cx} {x:Str} {p pos:Pos} {e:Expr} {es:List Expr} {t:TA} {id T:String} {r:List V->Hp->VK->Prop}
def tCB (r:List V->Hp->VK->Prop) (t:TA):TE:=fun σ H Q=>t σ H fun vs H1=>r vs H1 Q
theorem QL (hc:Yf X (.builtin id) r) (hg:Gl X x) (hm:X.mg x=none) (hv:bootBuiltins x=some (.builtin id)) (ha:PA X (e::es) t) (hn:x ≠ "__name__" := by decide) (hdb:(x == ("__debug__" : Str))=false:=by decide)
  (he:starEach (e::es) X.env=(false,eval e X.env)::starEach es X.env:=by rfl) (hpl:(backTo pos (starEach es X.env)).any (·.1)=false:=by rfl):PE X (.Call (.Name x p) (e::es) [] pos) (tCB r t):=by
 intro pins s σ H Q I h
 refine wpAny_Call_Name_kw (Zn I hg hm hv ?_ hn hdb)
 exact PyProof.Rows.callWith_builtin1 (thn (ha pos pins s σ H _ I h) fun us s1 ⟨vs,H1,I1,r1,q1⟩=>hc pins s1 σ H1 vs us Q I1 r1 q1) he hpl
theorem Qy (hc:Yf X (.type T) r) (hg:Gl X x) (hm:X.mg x=none) (hv:bootBuiltins x=some (.type T)) (ha:PA X (e::es) t) (hn:x ≠ "__name__" := by decide) (hdb:(x == ("__debug__" : Str))=false:=by decide)
  (he:starEach (e::es) X.env=(false,eval e X.env)::starEach es X.env:=by rfl) (hpl:(backTo pos (starEach es X.env)).any (·.1)=false:=by rfl):PE X (.Call (.Name x p) (e::es) [] pos) (tCB r t):=by
 intro pins s σ H Q I h
 refine wpAny_Call_Name_kw (Zn I hg hm hv ?_ hn hdb)
 exact PyProof.Rows.callWith_type1 (thn (ha pos pins s σ H _ I h) fun us s1 ⟨vs,H1,I1,r1,q1⟩=>hc pins s1 σ H1 vs us Q I1 r1 q1) he hpl
end
end L2
namespace HT
open PySem PyProof.Rows
section
variable {prog:Program} {w:World} {A:Around} {E:Value->Shared->Prop} {s:Shared}
def sIx (n d:Nat):Option Int->Nat
 | none=>d
 | some v=>if v < 0 then (v+(n:Int)).toNat else min v.toNat n
end
end HT
namespace L2
open PySem PySem.Spec PyProof.Rows
abbrev TO:=St->Hp->(Option Int->Hp->Prop)->Prop
def PO (X:Cx) (e:Option Expr) (t:TO):Prop :=
 ∀ (pins:List (Addr × Obj)) (s:Shared) (σ:St) (H:Hp) (Q:Option Int->Hp->Prop),Inv X pins σ H s->t σ H Q ->
  wpAny (model X.prog X.w) X.A (evalPart e X.env) (fun u s'=>∃ o H',Inv X pins σ H' s'/\IsPart u o/\Q o H') X.xe s
def zEu:TO:=fun _ H Q=>Q none H
def zKH (t:TE):TO:=fun σ H Q=>t σ H fun x H1=>∃ i,x=.int i/\Q (some i) H1
theorem zAp {ns:List Int}:∀ {us:List Value},Vals (ns.map V.int) us->IntsAre us ns:=by
 induction ns with
 | nil=>intro us r;rw[List.map_nil] at r;cases r;exact .nil
 | cons n ns ih =>
  intro us r
  rw[List.map_cons] at r
  cases r with
  | cons r1 r2 =>
   obtain⟨t,e⟩:=r1
   subst e
   exact .cons n _ (ih r2)
section
variable {X:Cx} {e:Expr} {te:TE} {lo hi:Option Expr} {tl th:TO} {pos p2:Pos}
theorem Jl:PO X none zEu:=by
 intro pins s σ H Q I h
 rw[evalPart_none]
 exact wpAny_pure ⟨none,H,I,.none,h⟩
theorem Z2 (h:PE X e te):PO X (some e) (zKH te):=by
 intro pins s σ H Q I hw
 rw[evalPart_some]
 refine thn (h pins s σ H _ I hw) fun u s1 ⟨x,H1,I1,r1,q1⟩=>?_
 obtain⟨i,rfl,q⟩:=q1
 obtain⟨t,rfl⟩:=r1
 exact⟨some i,H1,I1,.int i _,q⟩
def SlR (X:Cx) (r:V->Option Int->Option Int->Hp->VK->Prop):Prop :=
 ∀ (pins:List (Addr × Obj)) (s:Shared) (σ:St) (H:Hp) (x:V) (v vl vu:Value) (lo hi:Option Int) (sl:Addr) (Q:VK),Inv X pins σ H s->RelV x v->s.heap.IsSliceOf sl vl vu .none->IsPart vl lo->IsPart vu hi->r x lo hi H Q ->
  ∃ T id,typeLookup (.type T) "__getitem__" = pure (some (.builtin id))/\s.TypeIs v T/\wpAny (model X.prog X.w) X.A (getItem v (.ref sl)) (EP X pins σ Q) X.xe s
def tSl (r:V->Option Int->Option Int->Hp->VK->Prop) (te:TE) (tl th:TO):TE:=fun σ H Q=>te σ H fun x H1=>tl σ H1 fun l H2=>th σ H2 fun u H3=>r x l u H3 Q
theorem Zk {r:V->Option Int->Option Int->Hp->VK->Prop} (hr:SlR X r) (he:PE X e te) (hl:PO X lo tl) (hu:PO X hi th):PE X (.Subscript e (.Slice lo hi none p2) pos) (tSl r te tl th):=by
 intro pins s σ H Q I h
 refine Subscript_ (thn (he pins s σ H _ I h) fun v s1 ⟨x,H1,I1,r1,q1⟩=>?_)
 refine wpAny_Slice (thn (hl pins s1 σ H1 _ I1 q1) fun vl s2 ⟨l,H2,I2,pl,q2⟩=>thn (hu pins s2 σ H2 _ I2 q2) fun vu s3 ⟨u,H3,I3,pu,q3⟩=>?_)
 rw[evalPart_none]
 refine wpAny_pure ?_
 have I4:Inv X pins σ H3 { s3 with heap:=s3.heap.push { cls:=.type "slice",data:=.fields #[vl,vu,.none] } }:=I3.kept (t':=s3.toks) fun b ob q=>Heap.get?_push_of_some _ q
 obtain⟨T,id,hT,ht,hg⟩:=hr pins { s3 with heap:=s3.heap.push { cls:=.type "slice",data:=.fields #[vl,vu,.none] } } σ H3 x v vl vu l u s3.heap.objs.size Q I4 r1 (Heap.IsSliceOf.new ..) pl pu q3
 show wpAny (model X.prog X.w) X.A (subscriptTail e (.Slice lo hi none p2) v (.ref s3.heap.objs.size)) (EP X pins σ Q) X.xe { s3 with heap:=s3.heap.push { cls:=.type "slice",data:=.fields #[vl,vu,.none] } }
 exact tail_any (ops:=[.ref s3.heap.objs.size,v]) ht hT hg (by with_unfolding_all rfl)
def zDZ (xs:List V) (lo hi:Option Int):List V:=(xs.drop (HT.sIx xs.length 0 lo)).take (HT.sIx xs.length xs.length hi - HT.sIx xs.length 0 lo)
theorem zDm (xs:List V) (lo hi:Option Int):(zDZ xs lo hi).length<=xs.length:=by
 unfold zDZ
 rw[List.length_take,List.length_drop]
 omega
end
end L2
namespace L2
open PySem PySem.Spec PyProof.Rows
def ixN (n:Nat) (i:Int):Option Nat:=if 0<=i then (if i < n then some i.toNat else none) else if -(n:Int)<=i then some (i+n).toNat else none
def atI {α:Type} (xs:List α) (i:Int):Option α:=(ixN xs.length i).bind fun j=>xs[j]?
theorem zFI {n:Nat} {i:Int} {j:Nat} (h:ixN n i=some j):seqIndex? i n=some j/\j < n /\ -(n:Int)<=i/\i < n:=by
 unfold ixN at h
 by_cases h0:0<=i
 ·rw[if_pos h0] at h
  by_cases h1:i < n
  ·rw[if_pos h1] at h
   have e:i.toNat=j:=Option.some.inj h
   exact⟨by rw[seqIndex_of h0 h1,e],by omega,by omega,h1⟩
  ·rw[if_neg h1] at h;cases h
 ·rw[if_neg h0] at h
  by_cases h1 : -(n:Int)<=i
  ·rw[if_pos h1] at h
   have e:(i+n).toNat=j:=Option.some.inj h
   exact⟨by rw[seqIndex_neg (by omega) h1,e],by omega,h1,by omega⟩
  ·rw[if_neg h1] at h;cases h
theorem zBn {α:Type} {xs:List α} {i:Int} {v:α} (h:atI xs i=some v):∃ j,seqIndex? i xs.length=some j/\xs[j]? = some v/\j < xs.length /\ -(xs.length:Int)<=i/\i < xs.length:=by
 unfold atI at h
 cases e:ixN xs.length i with
 | none=>rw[e] at h;cases h
 | some j =>
  rw[e] at h
  obtain⟨h1,h2,h3,h4⟩:=zFI e
  exact⟨j,h1,h,h2,h3,h4⟩
theorem YM {α:Type} {xs:List α} {j:Nat} {v:α} (h:xs[j]? = some v):atI xs (j:Int)=some v:=by
 have hj:j < xs.length:=(List.getElem?_eq_some_iff.mp h).1
 have e:ixN xs.length (j:Int)=some j:=by
  unfold ixN
  rw[if_pos (by omega),if_pos (by omega)];simp
 unfold atI;rw[e];exact h
theorem zHc {α:Type} (xs:List α) (v:α):atI (xs++[v]) (-1)=some v:=by
 have hl:(xs++[v]).length=xs.length+1:=by simp
 have e:ixN (xs++[v]).length (-1)=some xs.length:=by
  unfold ixN
  rw[hl,if_neg (by decide),if_pos (by omega)]
  congr 1
  omega
 unfold atI
 rw[e]
 show (xs++[v])[xs.length]? = some v
 simp
def zJk (b:Expr):Prop:=∀ o i,subscripted b false o i=operate [o,i] (getItem o i)
def IxR (X:Cx) (r:R2):Prop :=
 ∀ (value slice:Expr) (pins:List (Addr × Obj)) (s:Shared) (σ:St) (H:Hp) (x y:V) (v u:Value) (Q:VK),Inv X pins σ H s->RelV x v->RelV y u->r x y H Q ->
  subscripted slice false v u=operate [v,u] (getItem v u)->wpAny (model X.prog X.w) X.A (subscriptTail value slice v u) (EP X pins σ Q) X.xe s
def MtR (X:Cx) (id:String) (r:V->List V->Hp->VK->Prop):Prop :=
 ∀ (pins:List (Addr × Obj)) (s:Shared) (σ:St) (H:Hp) (x:V) (xs:List V) (v:Value) (us:List Value) (Q:VK),Inv X pins σ H s->RelV x v->Vals xs us->r x xs H Q ->
  wpAny (model X.prog X.w) X.A (call (.builtin id) (v::us)) (EP X pins σ Q) X.xe s
section
variable {X:Cx} {a b:Expr} {ta tb:TE} {pos:Pos}
theorem Qg {r:R2} (hr:IxR X r) (ha:PE X a ta) (hb:PE X b tb) (hs:zJk b):PE X (.Subscript a b pos) (tOp r ta tb):=by
 intro pins s σ H Q I h
 exact Subscript_ (zKq ha hb I h fun v u s2 x y H2 I2 rx ry q=>hr a b pins s2 σ H2 x y v u Q I2 rx ry q (hs _ _))
def zMK (K:W.Frag):R2:=fun x y H Q=>∃ p xs i v,x=.ref p/\y=.int i/\SqL K H p xs/\atI xs i=some v/\Q v H
def zMG (K:W.Frag):R2:=fun x y H Q=>∃ p xs i v,x=.ref p/\y=.int i/\SqT K H p xs/\atI xs i=some v/\Q v H
def zL8:R2:=fun x y H Q=>∃ z i c,x=.str z/\y=.int i/\z.length<=sizeLine/\atI z.cps.toList i=some c/\Q (.str ⟨#[c]⟩) H
theorem zFi:IxR X (zMK X.K):=by
 intro value slice pins s σ H x y v u Q I rx ry h hs
 obtain⟨p,xs,i,z,rfl,rfl,hq,he,q⟩:=h
 cases rx
 obtain⟨t,rfl⟩:=ry
 obtain⟨its,r,pl,hz⟩:=I.list hq
 obtain⟨j,h1,h2,h3,h4,h5⟩:=zBn he
 obtain⟨w,ew,rw'⟩:=r.get h2
 have hl:=r.length
 have hn:=Wa
 have fin:EP X pins σ Q w s:=⟨z,H,I,rw',q⟩
 by_cases h0:0<=i
 ·have hj:i.toNat=j:=by
   rw[seqIndex_of h0 h5] at h1
   exact Option.some.inj h1
  exact item_listR pl.isList h0 (by omega) (by rw[hj];simpa using ew) fin hs
 ·have hj:(i+(its.toArray.size:Int)).toNat=j:=by
   rw[seqIndex_neg (by omega) h4] at h1
   rw[List.size_toArray,← hl]
   exact Option.some.inj h1
  exact subscriptTail_builtinR (x:=w) pl.isList.typeIs slot_list_getitem.lookup
   (wpAny_getItem_list_neg (Q:=fun r s'=>r=w/\EP X pins σ Q r s') pl.isList (by omega) (by rw[List.size_toArray] <;> omega) (by omega) (by rw[hj];simpa using ew) ⟨rfl,fin⟩) hs
theorem zKm:IxR X (zMG X.K):=by
 intro value slice pins s σ H x y v u Q I rx ry h hs
 obtain⟨p,xs,i,z,rfl,rfl,hq,he,q⟩:=h
 cases rx
 obtain⟨t,rfl⟩:=ry
 obtain⟨its,r,pl,hz⟩:=I.tuple hq
 obtain⟨j,h1,h2,h3,h4,h5⟩:=zBn he
 obtain⟨w,ew,rw'⟩:=r.get h2
 have hl:=r.length
 have hn:=Wa
 have fin:EP X pins σ Q w s:=⟨z,H,I,rw',q⟩
 exact subscriptTail_builtinR (x:=w) pl.typeIs slot_tuple_getitem.lookup
  (getItem_tuple (j:=j) (Q:=fun r s'=>r=w/\EP X pins σ Q r s') pl (by omega) (by omega) (by rw[List.size_toArray,← hl];exact h1) (by simpa using ew) ⟨rfl,fin⟩) hs
theorem zLB:IxR X zL8:=by
 intro value slice pins s σ H x y v u Q I rx ry h hs
 obtain⟨z,i,c,rfl,rfl,hz,he,q⟩:=h
 obtain⟨t,rfl⟩:=rx
 obtain⟨t',rfl⟩:=ry
 obtain⟨j,h1,h2,h3,h4,h5⟩:=zBn he
 have hl:z.cps.toList.length=z.length:=by simp[Str.length]
 rw[hl] at h1 h4 h5
 have hn:=Wa
 exact tail_any (typeIs_str s z t) slot_str_getitem.lookup (getItem_str (c:=c) (by
  have e1:decide (i < -(2 ^ 63:Int))=false:=decide_eq_false (by omega)
  have e2:decide (i ≥ 2 ^ 63)=false:=decide_eq_false (by omega)
  rw[e1,e2,Bool.or_false]) (by rw[h1];simpa using h2) ⟨.str ⟨#[c]⟩,H,I.tok _,I.rS,q⟩) hs
theorem zEp (its:List Value) (n j:Nat) (u:Value):Obj.mapSeq (·.setIfInBounds j u) { cls:=.type "list",data:=.seq its.toArray n }={ cls:=.type "list",data:=.seq (its.set j u).toArray n }:=by
 simp[Obj.mapSeq]
theorem Inv.lst {pins:List (Addr × Obj)} {σ:St} {H:Hp} {s:Shared} {p:Addr} {xs:List V} (I:Inv X pins σ H s) (h:H p=some (.lst xs)) :
  ∃ (its:List Value) (n:Nat),Vals xs its/\s.heap.get? p=some { cls:=.type "list",data:=.seq its.toArray n }/\xs.length<=sizeLine:=by
 obtain⟨z,its,n,r,e⟩:=I.hok p _ h
 exact⟨its,n,r,e,z⟩
theorem Inv.lstUpd {pins:List (Addr × Obj)} {σ:St} {H:Hp} {s:Shared} {p:Addr} {xs ys:List V} {its its':List Value} {n n':Nat} {f:Obj->Obj} (I:Inv X pins σ H s) (h:H p=some (.lst xs))
  (ho:s.heap.get? p=some { cls:=.type "list",data:=.seq its.toArray n }) (hf:f { cls:=.type "list",data:=.seq its.toArray n }={ cls:=.type "list",data:=.seq its'.toArray n' }) (r:Vals ys its') (hz:ys.length<=sizeLine) (t':Nat) (ht:1<=t':=by first | exact Nat.le_add_left _ _ | exact Inv.tk (by assumption) | assumption | omega) :
  Inv X pins σ (upd H p (.lst ys)) { s with heap:=s.heap.update p f,toks:=t' }:=by
 have e:(s.heap.update p f).get? p=some { cls:=.type "list",data:=.seq its'.toArray n' }:=by
  rw[Heap.get?_update_self f ho (by rw[hf] <;> rfl),hf]
 refine I.write (x:=p) (e:=p) (by rw[h];trivial) (.inl rfl) (fun b u hb q=>(Heap.get?_update_other _ _ (Ne.symm hb)).trans q) ⟨_,e⟩ ?_ ht
 exact⟨hz,its',n',r,e⟩
def zLg:V->V->V->Hp->(Hp->Prop)->Prop:=fun o i v H Q=>∃ p xs k j,o=.ref p/\i=.int k/\H p=some (.lst xs)/\ixN xs.length k=some j/\Q (upd H p (.lst (xs.set j v)))
theorem zHK:zKc X zLg:=by
 intro pins s σ H o i v ov iv u Q I ro ri rv h
 obtain⟨p,xs,k,j,rfl,rfl,hp,hj,q⟩:=h
 cases ro
 obtain⟨t,rfl⟩:=ri
 obtain⟨its,n,r,ho,hz⟩:=I.lst hp
 obtain⟨h1,h2,h3,h4⟩:=zFI hj
 have hl:=r.length
 have hn:=Wa
 have I':Inv X pins σ (upd H p (.lst (xs.set j v))) { s with heap:=s.heap.update p (Obj.mapSeq (·.setIfInBounds j u)) } :=
  I.lstUpd hp ho (zEp its n j u) (r.set rv j) (by rw[List.length_set];exact hz) s.toks
 by_cases h0:0<=k
 ·have hk:k.toNat=j:=by
   rw[seqIndex_of h0 h4] at h1
   exact Option.some.inj h1
  exact PySem.W.ki_setAt ho h0 (by omega) (by rw[List.size_toArray,← hl];exact h4) (by rw[hk];exact⟨_,I',q⟩)
 ·have hk:(k+(its.toArray.size:Int)).toNat=j:=by
   rw[seqIndex_neg (by omega) h3] at h1
   rw[List.size_toArray,← hl]
   exact Option.some.inj h1
  exact PySem.W.ki_setBack ho (by omega) (by rw[List.size_toArray,← hl];exact h3) (by omega) (by rw[hk];exact⟨_,I',q⟩)
theorem zCP (lo hi:Option Int) (n:Nat):(sliceBounds lo hi none n).1=((HT.sIx n 0 lo:Nat):Int)/\(sliceBounds lo hi none n).2.1=((HT.sIx n n hi:Nat):Int)/\(sliceBounds lo hi none n).2.2=1:=by
 refine⟨?_,?_,rfl⟩
 ·cases lo with
  | none=>simp[sliceBounds,HT.sIx]
  | some i =>
   simp only[sliceBounds,HT.sIx,Option.getD_none,show (1:Int) > 0 by decide,if_true]
   by_cases h:i < 0
   ·simp only[h,if_true] <;> omega
   ·simp only[h,if_false] <;> omega
 ·cases hi with
  | none=>simp[sliceBounds,HT.sIx]
  | some i =>
   simp only[sliceBounds,HT.sIx,Option.getD_none,show (1:Int) > 0 by decide,if_true]
   by_cases h:i < 0
   ·simp only[h,if_true] <;> omega
   ·simp only[h,if_false] <;> omega
theorem zBH (its:List Value) (lo hi:Option Int):slicePick its.toArray lo hi none=((its.drop (HT.sIx its.length 0 lo)).take (HT.sIx its.length its.length hi - HT.sIx its.length 0 lo)).toArray:=by
 obtain⟨h1,h2,h3⟩:=zCP lo hi its.toArray.size
 unfold slicePick
 rw[h1,h2,h3]
 simp only[sliceRange_one,pick_run,List.size_toArray] <;> rfl
def zMC (K:W.Frag):V->Option Int->Option Int->Hp->VK->Prop:=fun x lo hi H Q=>∃ a xs,x=.ref a/\SqL K H a xs/\∀ p,H p=none->Q (.ref p) (upd H p (.lst (zDZ xs lo hi)))
theorem zBp:SlR X (zMC X.K):=by
 intro pins s σ H x v vl vu lo hi sl Q I rx hs pl pu h
 obtain⟨a,xs,rfl,hx,q⟩:=h
 cases rx
 obtain⟨its,r,ht,hz⟩:=I.list hx
 have hlen:=r.length
 refine⟨"list",_,slot_list_getitem.lookup,ht.isList.typeIs,?_⟩
 refine wpAny_getItem_list_slice ht.isList hs pl pu .none (by simp) ?_ (by rw[List.size_toArray] <;> omega)
 rw[zBH,← hlen]
 refine⟨.ref s.heap.objs.size,_,I.laid (t':=s.toks) (o:=.lst (zDZ xs lo hi)) (fun b ob q=>Heap.get?_push_of_some _ q) (Nat.le_refl _) ?_,rfl,q _ (I.hok.fresh (Nat.le_refl _))⟩
 exact⟨Nat.le_trans (zDm xs lo hi) hz,_,0,(r.drop (HT.sIx xs.length 0 lo)).take (HT.sIx xs.length xs.length hi - HT.sIx xs.length 0 lo),Heap.get?_push_size _ rfl⟩
theorem ZY:Yf X (.builtin "len") (fun xs H Q=>∃ p ys,xs=[.ref p]/\(SqL X.K H p ys\/SqT X.K H p ys)/\Q (.int ys.length) H):=by
 intro pins s σ H xs us Q I r h
 obtain⟨p,ys,rfl,hq,q⟩:=h
 obtain⟨u,rfl,rx⟩:=Ww r
 cases rx
 have hn:=Wa
 rcases hq with hq | hq
 ·obtain⟨its,r',pl,hz⟩:=I.list hq
  have hlen:=r'.length
  exact Calls.call_len_list pl.isList (by simp only[List.size_toArray] <;> omega) ⟨.int ys.length,H,I.tok _,⟨s.toks,by rw[List.size_toArray,hlen]⟩,q⟩
 ·obtain⟨its,r',pl,hz⟩:=I.tuple hq
  have hlen:=r'.length
  exact len_tuple pl (by simp only[List.size_toArray] <;> omega) ⟨.int ys.length,H,I.tok _,⟨s.toks,by rw[List.size_toArray,hlen]⟩,q⟩
theorem zCY:Yf X (.builtin "len") (fun xs H Q=>∃ z,xs=[.str z]/\z.length<=sizeLine/\Q (.int z.length) H):=by
 intro pins s σ H xs us Q I r h
 obtain⟨z,rfl,hz,q⟩:=h
 obtain⟨u,rfl,t,rfl⟩:=Ww r
 have hn:=Wa
 exact len_str (by omega) ⟨.int z.length,H,I.tok _,⟨_,rfl⟩,q⟩
theorem zB5:Yf X (.type "list") (fun xs H Q=>∃ p ys,xs=[.ref p]/\(SqL X.K H p ys\/SqT X.K H p ys)/\∀ l,H l=none->Q (.ref l) (upd H l (.lst ys))):=by
 intro pins s σ H xs us Q I r h
 obtain⟨p,ys,rfl,hq,q⟩:=h
 obtain⟨u,rfl,rx⟩:=Ww r
 cases rx
 have fin:∀ (its:List Value),Vals ys its->ys.length<=sizeLine->∀ (h':Heap) (c':Nat),(∀ b o',s.heap.get? b=some o'->h'.get? b=some o') ->
   h'.get? s.heap.objs.size=some { cls:=.type "list",dict:=none,data:=.seq its.toArray c',slots := #[] }->EP X pins σ Q (.ref s.heap.objs.size) { s with heap:=h' }:=fun its r' hz h' c' kp e =>
  ⟨.ref s.heap.objs.size,_,I.laid (t':=s.toks) kp (Nat.le_refl _) (show ObjOk X.prog X.w _ h' _ (.lst ys) from ⟨hz,its,c',r',e⟩),rfl,q _ (I.hok.fresh (Nat.le_refl _))⟩
 rcases hq with hq | hq
 ·obtain⟨its,r',pl,hz⟩:=I.list hq
  have hlen:=r'.length
  obtain⟨o,ho,hc,n,hd⟩:=pl.isList
  exact call_list_seq p (.inl rfl) ho hc hd (fun h' c' kp e=>fin its r' hz h' c' kp e) (by simp only[List.size_toArray] <;> omega)
 ·obtain⟨its,r',pl,hz⟩:=I.tuple hq
  have hlen:=r'.length
  obtain⟨o,ho,hc,n,hd⟩:=pl
  exact call_list_seq p (.inr rfl) ho hc hd (fun h' c' kp e=>fin its r' hz h' c' kp e) (by simp only[List.size_toArray] <;> omega)
theorem WH:Yf X (.type "tuple") (fun xs H Q=>∃ p ys,xs=[.ref p]/\((SqL X.K H p ys/\∀ l,H l=none->Q (.ref l) (upd H l (.tup ys)))\/(SqT X.K H p ys/\Q (.ref p) H))):=by
 intro pins s σ H xs us Q I r h
 obtain⟨p,ys,rfl,h⟩:=h
 obtain⟨u,rfl,rx⟩:=Ww r
 cases rx
 rcases h with ⟨hq,q⟩ | ⟨hq,q⟩
 ·obtain⟨its,r',pl,hz⟩:=I.list hq
  have hlen:=r'.length
  refine call_tuple_list pl.isList (fun h' kp=>?_) (by simp only[List.size_toArray] <;> omega)
  have I1:Inv X pins σ H { s with heap:=h' }:=I.kept (t':=s.toks) kp
  have I2:Inv X pins σ (upd H h'.objs.size (.tup ys)) { s with heap:=h'.push { cls:=.type "tuple",data:=.seq its.toArray } } :=
   I1.laid (t':=s.toks) (fun b o e=>Heap.get?_push_of_some _ e) (Nat.le_refl _) (show ObjOk X.prog X.w _ _ _ (.tup ys) from ⟨hz,its,r',IsTup.new _ _⟩)
  exact⟨.ref h'.objs.size,_,I2,rfl,q _ (I1.hok.fresh (Nat.le_refl _))⟩
 ·obtain⟨its,r',pl,hz⟩:=I.tuple hq
  exact call_tuple_same pl ⟨.ref p,H,I,rfl,q⟩
def tyV (K:W.Frag) (T:String) (x:V) (H:Hp):Prop:=match x with
 | .str _=>T = "str"
 | .int _=>T = "int"
 | .ref p => (T = "list" /\ ∃ xs, SqL K H p xs) \/ (T = "tuple" /\ ∃ o, K.lookup p = some o /\ o.cls = .type "tuple" /\ o.dict = none) \/
   (T = "dict" /\ ((∃ kvs,H p=some (.dK kvs))\/∃ kvs,H p=some (.dT kvs)))\/(T = "set" /\ ∃ S n,H p=some (.set S n))
 | _=>False
theorem zKu {pins:List (Addr × Obj)} {σ:St} {H:Hp} {s:Shared} {T:String} {x:V} {v:Value} (I:Inv X pins σ H s) (r:RelV x v) (ty:tyV X.K T x H) :
  s.TypeIs v T/\∀ a,v=.ref a->∃ ob,s.heap.get? a=some ob/\ob.dict=none:=by
 cases x with
 | str z =>
  obtain⟨t,rfl⟩:=r
  cases (show T = "str" from ty)
  exact⟨typeIs_str s z t,fun _ e=>nomatch e⟩
 | int i =>
  obtain⟨t,rfl⟩:=r
  cases (show T = "int" from ty)
  exact⟨typeIs_int s i t,fun _ e=>nomatch e⟩
 | ref p =>
  cases r
  rcases ty with ⟨rfl,xs,hq⟩ | ⟨rfl,o,hk,hc,hd⟩ | ⟨rfl,hk⟩ | ⟨rfl,S,n,hk⟩
  ·obtain⟨its,_,pl,_⟩:=I.list hq
   refine⟨pl.isList.typeIs,fun a e=>?_⟩
   cases e
   obtain⟨o,n,e,c,hd,_⟩:=pl
   exact⟨o,e,hd⟩
  ·refine⟨⟨o,I.kIn p o hk,hc⟩,fun a e=>?_⟩
   cases e
   exact⟨o,I.kIn _ o hk,hd⟩
  ·have z:∃ o,s.heap.get? p=some o/\o.ExactDict:=by
    rcases hk with ⟨kvs,hk⟩ | ⟨kvs,hk⟩
    ·obtain⟨_,_,_,_,o,_,_,e,ex,_⟩:=I.hok p _ hk
     exact⟨o,e,ex⟩
    ·obtain⟨_,_,_,_,o,_,_,e,ex,_⟩:=I.hok p _ hk
     exact⟨o,e,ex⟩
   obtain⟨o,e,ex⟩:=z
   refine⟨⟨o,e,ex.1⟩,fun a e2=>?_⟩
   cases e2
   exact⟨o,e,ex.2.1⟩
  ·obtain⟨o,_,_,_,e,ex,_⟩:=I.hok p _ hk
   refine⟨⟨o,e,ex.1⟩,fun a e2=>?_⟩
   cases e2
   exact⟨o,e,ex.2.1⟩
 | _=>exact False.elim ty
def zMJ (K:W.Frag) (T:String) (r:V->List V->Hp->VK->Prop) (to:TE):TE:=fun σ H Q=>to σ H fun x H1=>tyV K T x H1/\r x [] H1 Q
def tBM (K:W.Frag) (T:String) (r:V->List V->Hp->VK->Prop) (to:TE) (t:TA):TE:=fun σ H Q=>to σ H fun x H1=>tyV K T x H1/\t σ H1 fun xs H2=>r x xs H2 Q
variable {o e:Expr} {es:List Expr} {to:TE} {t:TA} {name:Str} {apos cpos:Pos} {T id:String} {r:V->List V->Hp->VK->Prop}
theorem Ws (pa:PlainAttrs T) (slot:Slot T name id) (hty:typeOf (.builtin id)=pure (.type "method_descriptor")) (hm:MtR X id r) (ho:PE X o to) (ha:PA X (e::es) t)
  (hbase:attributeBase o name X.env (eval o X.env)=eval o X.env:=by rfl)
  (hfew:((backTo cpos (starEach (e::es) X.env)).all (fun x => !x.1) && (backToKw cpos (keywordEach [] X.env)).all (fun x=>x.1.isSome)
   && decide ((e::es).length+([]:List Keyword).length+(if ([]:List Keyword).isEmpty then 0 else 1) < 30))=true:=by rfl)
  (hline:(apos.endLine == cpos.line)=true:=by rfl) (hs:starEach (e::es) X.env=(false,eval e X.env)::starEach es X.env:=by rfl) (hplain:(backTo cpos (starEach es X.env)).any (·.1)=false:=by rfl) :
  PE X (.Call (.Attribute o name apos) (e::es) [] cpos) (tBM X.K T r to t):=by
 intro pins s σ H Q I h
 refine wpAny_Call_method_late hbase hfew hline rfl (thn (ho pins s σ H _ I h) fun v s1 ⟨x,H1,I1,r1,ty,q1⟩=>?_)
 obtain⟨h1,h2⟩:=zKu I1 r1 ty
 refine⟨T,id,pa,slot,hty,h1,h2,?_⟩
 have hA:=ha cpos pins s1 σ H1 _ I1 q1
 rw[hs] at hA ⊢
 refine Calls.callWith_builtin (by show (false || (backTo cpos (starEach es X.env)).any (·.1))=false;rw[hplain] <;> rfl) (Calls.evalArgs_plain ?_)
 exact thn hA fun us s2 ⟨vs,H2,I2,r2,q2⟩=>hm pins s2 σ H2 x vs v us Q I2 r1 r2 q2
end
end L2
namespace L2
open PySem PySem.Spec PyProof.Rows
def MtM (X:Cx) (id:String) (r:V->List V->Hp->VK->Prop):Prop :=
 ∀ (pins:List (Addr × Obj)) (s:Shared) (σ:St) (H:Hp) (x:V) (xs:List V) (v:Value) (us:List Value) (Q:VK),Inv X pins σ H s->RelV x v->Vals xs us->r x xs H Q ->
  wpAny (model X.prog X.w) X.A (call (.builtin id) (v::us)) (EP X pins σ Q) X.xe s
theorem Vals.one:∀ {x:V} {us:List Value},Vals [x] us->∃ u,us=[u]/\RelV x u
 | _,_,.cons r .nil=>⟨_,rfl,r⟩
theorem Vals.two:∀ {x y:V} {us:List Value},Vals [x,y] us->∃ u v,us=[u,v]/\RelV x u/\RelV y v
 | _,_,_,.cons r (.cons q .nil)=>⟨_,_,rfl,r,q⟩
theorem Vals.reverse {xs:List V} {us:List Value} (h:Vals xs us):Vals xs.reverse us.reverse:=by
 induction h with
 | nil=>exact .nil
 | cons r t ih=>rw[List.reverse_cons,List.reverse_cons];exact Vals.append ih (.cons r .nil)
theorem Vals.rep {xs:List V} {us:List Value} (h:Vals xs us):∀ k:Nat,Vals (List.replicate k xs).flatten (List.replicate k us).flatten
 | 0=>.nil
 | k+1=>by
  rw[List.replicate_succ,List.replicate_succ,List.flatten_cons,List.flatten_cons]
  exact Vals.append h (Vals.rep h k)
theorem zBh (its:List Value):∀ (k:Nat) (acc:List Value),
  List.foldl (fun x1 x2=>x1++x2) acc.toArray (List.replicate k its.toArray)=(acc++(List.replicate k its).flatten).toArray
 | 0,acc=>by simp
 | k+1,acc=>by
  have e:acc.toArray++its.toArray=(acc++its).toArray:=by simp
  have e2:(acc++its)++(List.replicate k its).flatten=acc++(List.replicate (k+1) its).flatten:=by
   rw[List.replicate_succ,List.flatten_cons,List.append_assoc]
  rw[← e2,← zBh its k (acc++its),← e,List.replicate_succ,List.foldl_cons]
section
variable {X:Cx} {pins:List (Addr × Obj)} {σ:St} {H:Hp} {s:Shared} {l b:Addr} {xs ys zs:List V}
theorem Inv.lset {its its':List Value} {n:Nat} {f:Array Value->Array Value} {t':Nat} (I:Inv X pins σ H s) (hH:H l=some (.lst xs))
  (e:s.heap.get? l=some { cls:=.type "list",data:=.seq its.toArray n }) (hf:f its.toArray=its'.toArray) (hv:Vals ys its') (hz:ys.length<=sizeLine) (ht:1<=t':=by first | exact Nat.le_add_left _ _ | exact Inv.tk (by assumption) | assumption | omega) :
  Inv X pins σ (upd H l (.lst ys)) { s with heap:=s.heap.update l (Obj.mapSeq f),toks:=t' }:=by
 have q:=PySem.IsL.update e f
 rw[hf] at q
 refine I.write (x:=l) (e:=l) (by rw[hH];exact trivial) (.inl rfl) (fun b' u hb hu=>(Heap.get?_update_other s.heap (Obj.mapSeq f) (Ne.symm hb)).trans hu) ⟨_,q⟩ ?_ ht
 exact⟨hz,its',_,hv,q⟩
theorem Inv.lnew {its:List Value} {t':Nat} (I:Inv X pins σ H s) (hv:Vals ys its) (hz:ys.length<=sizeLine) (ht:1<=t':=by first | exact Nat.le_add_left _ _ | exact Inv.tk (by assumption) | assumption | omega) :
  Inv X pins σ (upd H s.heap.objs.size (.lst ys)) { s with heap:=s.heap.push { cls:=.type "list",data:=.seq its.toArray },toks:=t' } :=
 I.laid (fun _ _ q=>Heap.get?_push_of_some _ q) (Nat.le_refl _) ⟨hz,its,0,hv,Heap.get?_push_size _ rfl⟩ ht
theorem Inv.fresh (I:Inv X pins σ H s):H s.heap.objs.size=none:=I.hok.fresh (Nat.le_refl _)
theorem Inv.lstM (I:Inv X pins σ H s) (hH:H l=some (.lst xs)):xs.length<=sizeLine/\∃ (its:List Value) (n:Nat),Vals xs its/\xs.length=its.length/\s.heap.get? l=some { cls:=.type "list",data:=.seq its.toArray n }:=by
 obtain⟨z,its,n,r,e⟩:=I.hok l _ hH
 exact⟨z,its,n,r,r.length,e⟩
theorem zH1 {n:Nat} (h:n<=sizeLine):Builtin.List.listTooLong n=false:=by
 unfold Builtin.List.listTooLong
 exact decide_eq_false (by omega)
end
section
variable {X:Cx}
def zJp:V->List V->Hp->VK->Prop:=fun x vs H Q=>∃ l xs y,x=.ref l/\vs=[y]/\H l=some (.lst xs)/\xs.length < sizeLine/\Q .non (upd H l (.lst (xs++[y])))
theorem zF0:MtM X "list.append" zJp:=by
 intro pins s σ H x vs v us Q I rx rv h
 obtain⟨l,xs,y,rfl,rfl,hH,hz,q⟩:=h
 cases rx
 obtain⟨u,rfl,ru⟩:=rv.one
 obtain⟨z,its,n,r,hl,e⟩:=I.lstM hH
 refine call_meets F.slot_list_append ⟨_,e,rfl⟩ F.entry_list_append (F.args_list_append_2 _ _) (PySem.list_append l its.toArray n u (by rw[List.size_toArray];omega)) ⟨e,?_⟩
 refine⟨.non,_,I.lset (its':=its++[u]) hH e (by simp) (r.append (.cons ru .nil)) ?_,rfl,q⟩
 rw[List.length_append,List.length_singleton]
 omega
def zMP:R2:=fun x y H Q=>∃ l k xs,x=.ref l/\y=.int k/\H l=some (.lst xs) /\ -(2 ^ 63)<=k/\k < 2 ^ 63/\xs.length*k.toNat<=sizeLine /\
 ∀ p,H p=none->Q (.ref p) (upd H p (.lst (List.replicate k.toNat xs).flatten))
theorem zJB {α:Type} (xs:List α) (k:Nat):(List.replicate k xs).flatten.length=k*xs.length:=by
 induction k with
 | zero=>simp
 | succ k ih=>rw[List.replicate_succ,List.flatten_cons,List.length_append,ih,Nat.succ_mul,Nat.add_comm]
theorem zHV:OpR X (binaryOp .Mult) zMP:=by
 intro pins s σ H x y v u Q I rx ry h
 obtain⟨l,k,xs,rfl,rfl,hH,h1,h2,hz,q⟩:=h
 cases rx
 obtain⟨t,rfl⟩:=ry
 obtain⟨z,its,n,r,hl,e⟩:=I.lstM hH
 have hlen:its.toArray.size*k.toNat<=sizeLine:=by rw[List.size_toArray,← hl];exact hz
 have hcap:¬ its.toArray.size*k.toNat > (2 ^ 63 - 1) / 8:=by
  have:(sizeLine:Nat)<=(2 ^ 63 - 1) / 8:=by decide
  omega
 have hfit:¬ (!Builtin.List.listFitsIndex k)=true:=by
  rw[fitsIndex_both h1 h2]
  exact Bool.false_ne_true
 have hlong:¬ Builtin.List.listTooLong (its.toArray.size*k.toNat)=true:=by
  rw[zH1 hlen]
  exact Bool.false_ne_true
 have hnew:List.foldl (fun x1 x2=>x1++x2) #[] (List.replicate (if its.toArray.isEmpty=true then 0 else k.toNat) its.toArray)=(List.replicate k.toNat its).flatten.toArray:=by
  have f0:∀ m:Nat,List.foldl (fun x1 x2=>x1++x2) #[] (List.replicate m its.toArray)=(List.replicate m its).flatten.toArray:=fun m=>by
   have:=zBh its m []
   rw[List.nil_append] at this
   exact this
  rw[f0]
  cases its with
  | nil=>simp
  | cons a r'=>rw[if_neg (by simp)]
 refine wpAny_binaryOp_repeat_ref (T := "list") (U := "int") (by decide) ⟨_,e,rfl⟩ (fun s'=>typeIs_int s' k t) noFill_list_mul F.fills_int_mul F.slot_int_rmul repeat_list F.slot_int_index.lookup
  (call_meets F.slot_int_rmul (typeIs_int s k t) F.entry_int_rmul (F.args_int_rmul_2 _ _) (int___rmul___int_list k t l its.toArray n)
   ⟨e,rfl,⟨_,e,rfl⟩,call_meets F.slot_list_mul ⟨_,e,rfl⟩ F.entry_list_mul (F.args_list_mul_2 _ _) (AutoListH.list___mul___list_int_3 l its.toArray n k t hfit hcap hlong) ⟨e,?_⟩⟩)
 rw[hnew]
 exact⟨.ref _,_,I.lnew (t':=s.toks) (r.rep k.toNat) (by rw[zJB,Nat.mul_comm];exact hz),rfl,q _ I.fresh⟩
end
end L2
namespace Att
open PySem PySem.W PySem.Calls PyProof.Rows
theorem Jd {P:Params} {h:Heap}:∀ (ns:List Int) (vs:List Value),WellAll P h vs (ns.map WData.int)->IntsAre vs ns:=by
 intro ns
 induction ns with
 | nil =>
  intro vs w
  rw[List.map_nil] at w
  cases w
  exact .nil
 | cons n ns ih =>
  intro vs w
  rw[List.map_cons] at w
  cases w with
  | cons a b =>
   cases a
   exact .cons _ _ (ih _ b)
theorem zGh {l:OpenLaw} {n:Nat} (hn:l.most=some n) {P:Params} {h:Heap} {args:List WData} {vals:List Value}
  (hpre:l.row.toRowW.claim.pre args=true) (hwl:WellAll P h vals args) :
  ∃ a vs ns,vals=[Value.ref a]/\args=[WData.list (ns.map WData.int)]/\h.get? a=some { cls:=.type "list",data:=.seq vs.toArray }/\IntsAre vs ns/\ns.length<=n:=by
 have hsh:WShape.hasAll [] args [.list .int]=true:=(pre_splitW hpre).1
 have hc:l.pre.holds [] { args:=args }=true:=(pre_splitW hpre).2
 obtain⟨d,r,rfl,h1,h2⟩:=hasAllW_cons hsh
 obtain rfl:=hasAllW_nil h2
 obtain⟨xs,rfl,h3⟩:=hasW_list h1
 obtain⟨ns,rfl⟩:=items_int h3
 have hlen:ns.length<=n:=by
  unfold OpenLaw.pre at hc
  have h4:(WTm.not (.lt (.lit (.int (n:Int))) (.len (.arg 0)))).holds [] { args:=[.list (ns.map .int)] }=true:=by
   have h4:=(holds_andW hc).1
   rw[hn] at h4
   exact h4
  have h5:=condW_of h4 (w_not (w_lt w_lit (w_len_list (w_arg rfl))))
  rw[List.length_map] at h5
  refine Nat.le_of_not_lt fun q=>?_
  have q':(n:Int) < ((ns.length:Nat):Int):=by omega
  first
   | (rw[decide_eq_true q'] at h5;exact absurd h5 (by decide))
   | (simp at h5;omega)
 cases hwl with
 | cons w1 w2 =>
  cases w2
  cases w1 with
  | list ho hall=>exact⟨_,_,ns,rfl,rfl,ho,Jd ns _ hall,hlen⟩
theorem zF3 (l:OpenLaw) (args:List WData):l.row.toRowW.claim.post args (.bool true) args=true :=
 postW_of (r:=l.row.toRowW) (X:=(true == true))
  (show WShape.has [] (.bool true) .bool=true by first | rfl | decide | simp[WShape.has,WShape.arms,WShape.armsAll])
  (show (WTm.eq .res (.lit (.bool true))).value [] { args:=args,res:=some (.bool true),after:=args }=some (.bool (true == true)) from w_eq_bool (w_res rfl) w_lit) rfl
end Att
namespace L2
open PySem PySem.Spec PyProof.Rows
theorem zGe {vs:List Value} {ns:List Int} (h:IntsAre vs ns):(∀ v∈vs,∀ i,v ≠ Value.int i 0)->Vals (ns.map V.int) vs:=by
 induction h with
 | nil=>exact fun _=>.nil
 | cons n t h ih=>exact fun hv=>.cons ⟨t - 1,by rw[Nat.sub_add_cancel (Nat.pos_of_ne_zero fun z=>hv _ List.mem_cons_self n (by rw[z]))]⟩ (ih fun v hm=>hv v (List.mem_cons_of_mem _ hm))
def zKe (H:Hp):Prop:=∀ b,H b=none\/∃ o xs,H b=some (.frz o (.lst xs))
theorem zG5 {P:Program} {w:World} {K:W.Frag} {mg mb:Str->Option Value} {CX:CXT} {k:Nat} {fa a:Addr} {fd:FuncData} {x:Str} {sp:Sp} {s₁:Shared} {vs:List Value} {ns:List Int}
  (KX:K.In s₁.heap) (hns:s₁.heap.Ns mainGlobals mg) (hb:s₁.heap.Ns builtinsNs mb) (hbb:∀ x:Str,x ≠ "__name__" -> mb x=bootBuiltins x) (hlim:s₁.heap.NoLimit) (hg:s₁.gens = #[])
  (ha:s₁.heap.get? a=some { cls:=.type "list",data:=.seq vs.toArray }) (hi:IntsAre vs ns) (hl:ns.length<=sizeLine) (hr:Room k callerA) (htk:1<=s₁.toks) (htl:∀ v∈vs,∀ i,v ≠ Value.int i 0)
  (F:∀ base:Heap,K.In base->base.Ns mainGlobals mg->FnOk P w K mg base CX k fa fd [x] sp) (hbind:∀ (s:Shared) (u:Value),BindsTo s fd ⟨[u],[]⟩ [(x,u)])
  (hsp:∀ H:Hp,zKe H->SqL K H a (ns.map V.int)->sp [.ref a] H (fun v _=>v=.bl true) fun _ _ _=>False)
  (hCX:∀ H e s',CX [] H s₁ (fun _ _ _=>False) e s'->False) :
  codeAny (model P w) callerA (.call (.ref fa) ⟨[.ref a],[]⟩) (fun r s'=>r=.ok (.ret (.bool true))/\OldK s₁.heap s'.heap/\s'.os=s₁.os/\AllBare s'.gens) s₁:=by
 have rv:=zGe hi htl
 have lenV:=hi.length
 have core:∀ H:Hp,zKe H->SqL K H a (ns.map V.int)->HOk P w H s₁.heap->(∀ b,H b ≠ none->b=a)->(H a ≠ none->K.lookup a=none) ->
   codeAny (model P w) callerA (.call (.ref fa) ⟨[.ref a],[]⟩) (fun r s'=>r=.ok (.ret (.bool true))/\OldK s₁.heap s'.heap/\s'.os=s₁.os/\AllBare s'.gens) s₁:=by
  intro H hO hS hok hA hK
  have base_of:∀ {b:Addr} {o:Obj},s₁.heap.get? b=some o->H b=none->(zCJ s₁.heap H).get? b=some o:=fun e n=>zH2 e n
  have noA:∀ {b:Addr} {o:Obj} {es:Array DictEntry} {ep:Nat},s₁.heap.get? b=some o->o.data=.dict es ep->H b=none:=fun {b o es ep} e d=>by
   cases q:H b with
   | none=>rfl
   | some u =>
    have e':b=a:=hA b (by rw[q];simp)
    subst e'
    rw[ha] at e;cases e
    have d':Data.seq vs.toArray _=Data.dict es ep:=d
    cases d'
  have nsK:∀ {b:Addr} {m:Str->Option Value},s₁.heap.Ns b m->(zCJ s₁.heap H).Ns b m:=fun {b m} ⟨o,es,ep,e,d,r⟩=>⟨o,es,ep,base_of e (noA e d),d,r⟩
  have hKb:K.In (zCJ s₁.heap H):=fun b o e=>base_of (KX b o e) (by
   cases q:H b with
   | none=>rfl
   | some u =>
    have e':b=a:=hA b (by rw[q];simp)
    subst e'
    rw[hK (by rw[q];simp)] at e;cases e)
  have hM:Mod K mg (zCJ s₁.heap H):=⟨hKb,nsK hns,⟨mb,nsK hb,hbb⟩,let ⟨mc,h1,h2⟩:=hlim;⟨mc,nsK h1,h2⟩⟩
  have e0:Env0 P w K mg (zCJ s₁.heap H) callerA [] s₁ H:=⟨rfl,hM,fun b o e=>zJY e,Nat.le_of_eq (zF4 _ _),trivial,fun b hb=>absurd (show b∈([]:List Addr) from hb) (by simp),hok,.of_eq hg,htk⟩
  refine codeAny_mono ((F _ hKb (nsK hns)).run callerA [] s₁ H ⟨[.ref a],[]⟩ [.ref a] [.ref a] _ _ hr e0 (hbind s₁ (.ref a)) (.cons rfl .nil) (hsp H hO hS)) fun r s' h=>?_
  cases r with
  | error e=>exact (hCX H e s' h).elim
  | ok fl =>
   cases fl with
   | next=>exact False.elim h
   | brk=>exact False.elim h
   | cont=>exact False.elim h
   | ret u =>
    obtain⟨v,H',⟨os,_⟩,bare,un,hok',r',q⟩:=h
    have q':v=.bl true:=q
    subst q'
    obtain rfl:u=Value.bool true:=r'
    refine⟨rfl,OldK.of_keep fun b o e=>?_,os,bare⟩
    cases q:H b with
    | none=>exact un.keep b o e q (by intro z;exact absurd (show b∈([]:List Addr) from z) (by simp)) (by simp)
    | some u =>
     rcases hO b with z | ⟨ob,xs,z⟩
     ·rw[q] at z;cases z
     ·have z2:=un.frzs b ob _ z
      obtain⟨e1,_⟩:=hok b _ z
      obtain⟨e2,_⟩:=hok' b _ z2
      rw[e] at e1;cases e1
      exact e2
 cases hk:K.lookup a with
 | some o =>
  have e:=KX a o hk
  rw[ha] at e
  cases e
  refine core (fun _=>none) (fun _=>.inl rfl) (.inr ⟨_,vs.toArray,_,hk,rfl,rfl,rfl,by rw[List.size_toArray,lenV];exact hl,by simpa using rv⟩) (fun b u z=>by have z':(none:Option HO)=some u:=z;cases z') (fun b z=>absurd rfl z) fun z=>absurd rfl z
 | none =>
  refine core (fun b=>if b=a then some (.frz { cls:=.type "list",data:=.seq vs.toArray } (.lst (ns.map V.int))) else none) (fun b=>?_) (.inl (.inr ⟨{ cls:=.type "list",data:=.seq vs.toArray },if_pos rfl⟩)) (fun b u z=>?_) (fun b z=>?_) fun _=>hk
  ·by_cases hb:b=a
   ·exact .inr ⟨_,_,if_pos hb⟩
   ·exact .inl (if_neg hb)
  ·by_cases hb:b=a
   ·have z':=(if_pos hb).symm.trans z
    cases z'
    subst hb
    exact⟨ha,by rw[List.length_map];exact hl,vs,_,rv,ha⟩
   ·have z':=(if_neg hb).symm.trans z
    cases z'
  ·by_cases hb:b=a
   ·exact hb
   ·exact absurd (if_neg hb) z
end L2
namespace L2
open PySem PySem.Spec PyProof.Rows
end L2
namespace L2
open PySem PySem.Spec PyProof.Rows
def Qs (s:Stmt) (j:Nat):Stmt:=match s with
 | .ClassDef _ _ _ body _ _ _ _ _ _ _=>body.getD j (.Pass ⟨0,0,0,0⟩)
 | _=>.Pass ⟨0,0,0,0⟩
def YA (s:Stmt):Arguments:=match s with
 | .FunctionDef _ a _ _ _ _ _ _ _ _=>a
 | _=>{ posonlyargs:=[],args:=[],vararg:=none,kwonlyargs:=[],kw_defaults:=[],kwarg:=none,defaults:=[] }
def Qr (s:Stmt):List Stmt:=match s with
 | .FunctionDef _ _ b _ _ _ _ _ _ _=>b
 | _=>[]
def QI (s:Stmt):Scope:=match s with
 | .FunctionDef _ _ _ _ _ _ sc _ _ _=>sc
 | _=>{ kind:=.function,names:=[],isGenerator:=false,isCoroutine:=false }
abbrev CX0:CXT:=fun _ _ _ _ _ _=>False
abbrev E0:XK:=fun _ _ _=>False
theorem QP {X:Cx}:ZN CX0 X E0:=fun _ _ _ _ _ _ _ h=>h.elim
structure Fun (K:W.Frag) (x qual:Str) (st:Stmt) (f:Addr) (fd:FuncData):Prop where
 ex:∃ (oc:Value) (od:Option Addr) (kV doc pm:Value) (an:Option Addr) (cdv ct:Value) (osl:Array (Option Value)),
  fd=W.fnOf x qual (YA st) (Qr st) (QI st) .none kV doc pm an cdv ct/\K.lookup f=some ⟨oc,od,.func fd,osl⟩/\W.codeIn K cdv qual=true
 kp:W.keepIn K (.ref f)=true
section
variable {P:Program} {w:World} {K:W.Frag} {mg:Str->Option Value} {base:Heap}
theorem Fun.ok {x qual:Str} {st:Stmt} {f:Addr} {fd:FuncData} {N ps:List Str} {k:Nat} {sp:Sp} (F:Fun K x qual st f fd) (S:FnScope N ps (QI st)) (len:∀ vs H Q E,sp vs H Q E->vs.length=ps.length)
  (hbody:∀ (cdv:Value) (A:Around) (outer:List Env) (s:Shared) (H:Hp) (vs:List V) (Q:VK) (E:XK),Room k (A.deeper (envOfC qual (QI st) s.heap.objs.size f cdv))->sp vs H Q E ->
   ∃ t,PSs (zA4 CX0 P w K mg base N qual (QI st) f cdv A outer s H E).nox (Qr st) t/\t { nx:=fun _ H'=>Q .non H',rt:=Q } (Zq N vs) H):FnOk P w K mg base CX0 (k+1) f fd ps sp:=by
 obtain⟨oc,od,kV,doc,pm,an,cdv,ct,osl,rfl,lk,hcd⟩:=F.ex
 refine zG2 lk hcd S len fun A outer s H vs Q E hr hsp=>?_
 obtain⟨t,h,q⟩:=hbody cdv A outer s H vs Q E hr hsp
 exact⟨t,h.nox,q⟩
theorem Fun.binds {x qual:Str} {st:Stmt} {f:Addr} {fd:FuncData} {ps:List Str} (F:Fun K x qual st f fd)
  (h:∀ (kV doc pm:Value) (an:Option Addr) (cdv ct:Value) (us:List Value),us.length=ps.length->bindArgs (W.fnOf x qual (YA st) (Qr st) (QI st) .none kV doc pm an cdv ct) ⟨us,[]⟩=pure (ps.zip us)):Binds K fd ps []:=by
 obtain⟨oc,od,kV,doc,pm,an,cdv,ct,osl,rfl,lk,hcd⟩:=F.ex
 exact .all (h kV doc pm an cdv ct)
theorem zKk {x qual:Str} {st:Stmt} {f:Addr} {oc:Value} {od an:Option Addr} {osl:Array (Option Value)} {kV doc pm cdv ct:Value} (l:K.lookup f=some ⟨oc,od,.func (W.fnOf x qual (YA st) (Qr st) (QI st) .none kV doc pm an cdv ct),osl⟩)
  (c:W.codeIn K cdv qual=true) (k:W.keepIn K (.ref f)=true):Fun K x qual st f (W.fnOf x qual (YA st) (Qr st) (QI st) .none kV doc pm an cdv ct):=⟨⟨oc,od,kV,doc,pm,an,cdv,ct,osl,rfl,l,c⟩,k⟩
end
theorem Qh {n:Nat} (h:n<=1000):n < sizeLine:=Nat.lt_of_le_of_lt h (by decide)
section
variable {X:Cx}
theorem pv (i:Nat) {x:Str} {pos:Pos} (hN:X.N[i]? = some x:=by rfl) (hv:Vis X.env.scope x:=by first | exact Or.inl rfl | exact Or.inr (Or.inl rfl) | exact Or.inr (Or.inr rfl)) (hd:(x == ("__debug__" : Str))=false:=by decide)
  (hcd:(x == ("__classdict__" : Str))=false:=by decide):PE X (.Name x pos) (zAr i):=zLM hN hv hd hcd
end
theorem zI9 {A B:Prop} (h:B):if false=true then A else B:=by
 rw[if_neg Bool.false_ne_true]
 exact h
theorem zMF {A B:Prop} (h:A):if true=true then A else B:=by
 rw[if_pos rfl]
 exact h
theorem Yc {c A B:Prop} [Decidable c] (h1:c->A) (h2:¬ c->B):if c then A else B:=by
 by_cases h:c
 ·rw[if_pos h]
  exact h1 h
 ·rw[if_neg h]
  exact h2 h
def Same (H H':Hp):Prop:=∀ b o,H b=some o->H' b=some o
theorem Same.refl (H:Hp):Same H H:=fun _ _ h=>h
theorem Same.trans {H H1 H2:Hp} (a:Same H H1) (b:Same H1 H2):Same H H2:=fun c o h=>b c o (a c o h)
theorem Same.free {H H':Hp} (e:Same H H') {l:Addr} (h:H' l=Option.none):H l=Option.none:=by
 cases q:H l with
 | none=>rfl
 | some o =>
  rw[e l o q] at h
  cases h
theorem Same.seq {K:W.Frag} {H H':Hp} {a:Addr} {xs:List V} (e:Same H H') (h:SqL K H a xs):SqL K H' a xs:=by
 rcases h with (h | ⟨o,h⟩) | h
 ·exact .inl (.inl (e _ _ h))
 ·exact .inl (.inr ⟨o,e _ _ h⟩)
 ·exact .inr h
end L2
namespace L2
open PySem PySem.Spec PyProof.Rows
open Builtin.Int (intBits)
end L2
namespace L2
open PySem PySem.Spec PyProof.Rows PySem.W
open Builtin.Int (intBits)
theorem JQ:∀ (ns:List Int) (b:Nat),WData.weightAll (ns.map WData.int)<=b->∀ n∈ns,intBits n<=b
 | [],_,_,_,h=>by cases h
 | i::ns,b,h,n,hn=>by
  have h':WData.weight (WData.int i)+1+WData.weightAll (ns.map WData.int)<=b:=h
  rcases List.mem_cons.mp hn with z | z
  ·subst z
   have e:WData.weight (WData.int n)=intBits n:=rfl
   omega
  ·exact JQ ns b (by omega) n z
theorem zIS {ns:List Int} (h:WData.layableAll [WData.list (ns.map WData.int)]=true):∀ n∈ns,intBits n<=2 ^ 20:=by
 obtain⟨h1,h2,h3⟩:=layableW_iff.mp (layW_cons h).1
 exact JQ ns _ h3
end L2
namespace AttT
open PySem PySem.W PySem.W.X PySem.Calls PyProof.Rows Att
theorem zFC {R:WRecords} {cl:Str->Option Addr} {P:Params} {ord:List DictEntry->List DictEntry}:∀ (ns:List Int) (s:Shared) (r:List Value × Shared),layAllW R cl P ord (ns.map WData.int) s=some r->1<=s.toks->(∀ v∈r.1,∀ i,v ≠ Value.int i 0)/\s.toks<=r.2.toks
 | [],s,r,e,_=>by
  have:layAllW R cl P ord (List.map WData.int []) s=some ([],s):=by simp[layAllW]
  rw[this] at e
  cases e
  exact⟨fun v hv=>(by cases hv),Nat.le_refl _⟩
 | n::ns,s,r,e,h=>by
  simp only[List.map_cons,layAllW,layW] at e
  cases q:layAllW R cl P ord (List.map WData.int ns) { s with toks:=s.toks+1 } with
  | none=>rw[q] at e;cases e
  | some r' =>
   rw[q] at e
   cases e
   obtain⟨z1,z2⟩:=zFC ns { s with toks:=s.toks+1 } r' q (Nat.le_add_left _ _)
   refine⟨fun v hv i=>?_,Nat.le_trans (Nat.le_succ _) z2⟩
   rcases List.mem_cons.mp hv with z | z
   ·rw[z]
    intro z3
    injection z3 with _ z3
    have h':1<=s.toks:=h
    have z4:s.toks=0:=z3
    omega
   ·exact z1 v z i
theorem zEq {R:WRecords} {w:World} {s₀ s₁:Shared} {ns:List Int} {a:Addr} {vs:List Value} {as:List Addr} (L:Laid R w s₀ s₁ [WData.list (ns.map WData.int)] [.ref a] as) (h:s₁.heap.get? a=some { cls:=.type "list",data:=.seq vs.toArray }) (ht:1<=s₀.toks) :
  1<=s₁.toks/\∀ v∈vs,∀ i,v ≠ Value.int i 0:=by
 obtain⟨ord,_,e⟩:=L.laid
 simp only[layAllW,layW] at e
 cases q:layAllW R (classAt s₀.heap) w.params ord (List.map WData.int ns) s₀ with
 | none=>rw[q] at e;cases e
 | some r =>
  rw[q] at e
  obtain⟨z1,z2⟩:=zFC ns s₀ r q ht
  simp only[Option.some.injEq,Prod.mk.injEq,List.cons.injEq,Value.ref.injEq] at e
  obtain⟨⟨rfl,_⟩,rfl⟩:=e
  rw[Heap.get?_push_size _ rfl] at h
  have hv:r.1=vs:=by
   have h2:=Option.some.inj h
   injection h2 with _ _ h3
   injection h3 with h4
   exact List.toArray_inj h4
  rw[← hv]
  exact⟨Nat.le_trans ht z2,z1⟩
theorem attach_callT {l:OpenLaw} {n m t:Nat} {q:Program} {loose:List Str} {XP:(Str->Option Value)->Heap->Prop} {as₀:List Addr} {K:Params->Frag} {d:DefRec}
  (hn:l.most=some n) (hdf:d.params.defaults=[]) (eK:∀ P,as₀=(K P).map (·.1)) (ht:1<=t)
  (call:∀ (w:World) (s₀ s₁:Shared) (mg mb:Str->Option Value) (fa:Addr) (o:Obj) (pm cd doc:Value) (a:Addr) (vs:List Value) (ns:List Int),
   Ground q loose [] XP w s₀ mg mb s₁.heap->(K w.params).In s₁.heap ->
   s₁.heap.get? fa=some o->o.data=.func (docDef d.name d.params d.body d.scope pm cd doc)->s₁.heap.CodeRec cd d.name->mg d.name=some (.ref fa) ->
   s₁.heap.get? a=some { cls:=.type "list",data:=.seq vs.toArray }->IntsAre vs ns->ns.length<=n->s₁.gens = #[]->(∀ x∈ns,Builtin.Int.intBits x<=2 ^ 20)->1<=s₁.toks->(∀ v∈vs,∀ i,v ≠ Value.int i 0) ->
   codeAny (model l.prog w) callerA (.call (.ref fa) ⟨[.ref a],[]⟩) (fun r s'=>r=.ok (.ret (.bool true))/\OldK s₁.heap s'.heap/\s'.os=s₁.os/\AllBare s'.gens) s₁) :
  WalkX q loose XP (obsZ as₀) (valZ K m t) l.row.toRowW d [] (fun f vs=>PySem.call f vs):=by
 intro w s₀ s₁ mg mb G Y fa o pm cd doc dV kV ho hd hcd hD hmg hg args vals as L hpre hlay hrd hwl hlo
 obtain rfl:dV=.none:=Dflts.none hD hdf
 obtain rfl:kV=.none:=Dflts.noKw hD
 obtain⟨a,vs,ns,rfl,rfl,hobj,hints,hlen⟩:=zGh hn hpre hwl
 obtain⟨_,ZI,_,ZT⟩:=z_facts eK Y
 obtain⟨tk,tl⟩:=zEq L hobj (by rw[ZT];exact ht)
 refine enter_call (codeAny_mono (call w s₀ s₁ mg mb fa o pm cd doc a vs ns G (InK.keeps w s₀.heap s₁.heap ZI L.keeps) ho (fd_plain hd) hcd hmg hobj hints hlen hg (L2.zIS hlay) tk tl) fun r s' hq=>?_)
 obtain⟨rfl,h2,h3,h4⟩:=hq
 exact⟨.inl ⟨.bool true,.bool true,[],rfl,fun _=>rfl,.bool true,zF3 l _,fun _=>⟨List.Pairwise.nil,fun _ hm=>(nomatch hm)⟩⟩,h2,h3,h4⟩
end AttT
namespace L2
open PySem PySem.Spec PyProof.Rows PySem.W PySem.W.X
theorem zH9 {l:PySem.W.OpenLaw} {n m t k:Nat} {q:Program} {loose:List Str} {XP:(Str->Option Value)->Heap->Prop} {as₀:List Addr} {d:DefRec} {K:Params->W.Frag} {CX:World->CXT} {sp:World->Sp} {x:Str}
  (hn:l.most=some n) (hn2:n<=sizeLine) (hdf:d.params.defaults=[]) (hr:Room k callerA) (eK:∀ P,as₀=(K P).map (·.1)) (ht:1<=t)
  (F:∀ (w:World) (mg:Str->Option Value) (fa:Addr) (h:Heap),(K w.params).In h->h.Ns mainGlobals mg->mg d.name=some (.ref fa) ->
   ∃ fd:FuncData,(∀ (s:Shared) (u:Value),BindsTo s fd ⟨[u],[]⟩ [(x,u)]) /\
    ∀ base:Heap,(K w.params).In base->base.Ns mainGlobals mg->FnOk l.prog w (K w.params) mg base (CX w) k fa fd [x] (sp w))
  (hsp:∀ (w:World) (H:Hp) (a:Addr) (ns:List Int),ns.length<=n->(∀ x∈ns,Builtin.Int.intBits x<=2 ^ 20)->zKe H->SqL (K w.params) H a (ns.map V.int)->sp w [.ref a] H (fun v _=>v=.bl true) fun _ _ _=>False)
  (hCX:∀ (w:World) (H:Hp) (s:Shared) (e:Value) (s':Shared),CX w [] H s (fun _ _ _=>False) e s'->False) :
  WalkX q loose XP (obsZ as₀) (valZ K m t) l.row.toRowW d [] (fun f vs=>PySem.call f vs):=by
 refine AttT.attach_callT hn hdf eK ht fun w s₀ s₁ mg mb fa o pm cd doc a vs ns G KX ho hd hcd hmg hobj hints hlen hg hbits tk tl=>?_
 obtain⟨fd,hb,hF⟩:=F w mg fa _ KX G.T.g hmg
 exact zG5 KX G.T.g G.T.b G.T.builtins G.T.nolimit hg hobj hints (Nat.le_trans hlen hn2) hr tk tl hF hb (fun H hO hS=>hsp w H a ns hlen hbits hO hS) fun H e s'=>hCX w H s₁ e s'
end L2
namespace L2
open PySem PySem.Spec PyProof.Rows
section
variable {X:Cx}
def Q7 (K:W.Frag):List V->Hp->VK->Prop:=fun xs H Q=>∃ x T t b,xs=[x,.ty T]/\TyOf K H x (.type t)/\W.kitOne K (.type t) (.type T)=some b/\Q (.bl b) H
theorem QU:Yf X (.builtin "isinstance") (Q7 X.K):=by
 intro pins s σ H xs us Q I r h
 obtain⟨x,T,t,b,rfl,ty,e,q⟩:=h
 obtain⟨u,w',rfl,r1,r2⟩:=zLW r
 cases (show w'=Value.type T from r2)
 exact zDF (zF2 I r1 ty e fun tk hk=>⟨.bl b,H,I.tok _ (Nat.le_trans I.tk hk),rfl,q⟩)
end
section
variable {K:W.Frag} {H:Hp} {Q:VK} {T t:String}
theorem Qb {x:V} {b:Bool} (ty:TyOf K H x (.type t)) (one:∀ t',TyOf K H x (.type t')->t'=t) (e:W.kitOne K (.type t) (.type T)=some b):Q7 K [x,.ty T] H Q=Q (.bl b) H:=by
 refine propext ⟨fun h=>?_,fun q=>⟨x,T,t,b,rfl,ty,e,q⟩⟩
 obtain⟨y,T',t',b',e1,ty',e',q⟩:=h
 obtain⟨rfl,e2⟩:=List.cons.inj e1
 obtain⟨e3,_⟩:=List.cons.inj e2
 cases e3
 rw[one t' ty',e] at e'
 cases e'
 exact q
theorem Jp {i:Int}:∀ t',TyOf K H (.int i) (.type t')->t' = "int" := fun _ h=>by cases h;rfl
theorem zB4 {i:Bool}:∀ t',TyOf K H (.bl i) (.type t')->t' = "bool" := fun _ h=>by cases h;rfl
theorem Jr {i:Str}:∀ t',TyOf K H (.str i) (.type t')->t' = "str" := fun _ h=>by cases h;rfl
theorem Jm:∀ t',TyOf K H .non (.type t')->t' = "NoneType" := fun _ h=>by cases h;rfl
theorem Wg {a:Addr} {xs:List V} (e:H a=some (.tup xs)):∀ t',TyOf K H (.ref a) (.type t')->t' = "tuple" := fun _ h=>by
 cases h with
 | lst q=>rw[e] at q;cases q
 | frz q=>rw[e] at q;cases q
 | tup q=>rfl
 | dK q=>rw[e] at q;cases q
 | dT q=>rw[e] at q;cases q
theorem Wh {a:Addr} {xs:List V} (e:H a=some (.lst xs)):∀ t',TyOf K H (.ref a) (.type t')->t' = "list" := fun _ h=>by
 cases h with
 | lst q=>rfl
 | frz q=>rfl
 | tup q=>rw[e] at q;cases q
 | dK q=>rw[e] at q;cases q
 | dT q=>rw[e] at q;cases q
theorem zBz {a:Addr} {xs:List (Key × V)} (e:H a=some (.dK xs)):∀ t',TyOf K H (.ref a) (.type t')->t' = "dict" := fun _ h=>by
 cases h with
 | lst q=>rw[e] at q;cases q
 | frz q=>rw[e] at q;cases q
 | tup q=>rw[e] at q;cases q
 | dK q=>rfl
 | dT q=>rfl
theorem zDM {i:Int}:Q7 K [.int i,.ty "str"] H Q=Q (.bl false) H:=Qb (.int i) Jp rfl
theorem zA5 {i:Int}:Q7 K [.int i,.ty "tuple"] H Q=Q (.bl false) H:=Qb (.int i) Jp rfl
theorem zDd {i:Int}:Q7 K [.int i,.ty "int"] H Q=Q (.bl true) H:=Qb (.int i) Jp rfl
theorem zCN {i:Int}:Q7 K [.int i,.ty "bool"] H Q=Q (.bl false) H:=Qb (.int i) Jp rfl
theorem zEg {i:Bool}:Q7 K [.bl i,.ty "str"] H Q=Q (.bl false) H:=Qb (.bl i) zB4 rfl
theorem zCc {i:Bool}:Q7 K [.bl i,.ty "tuple"] H Q=Q (.bl false) H:=Qb (.bl i) zB4 rfl
theorem zEs {i:Bool}:Q7 K [.bl i,.ty "int"] H Q=Q (.bl true) H:=Qb (.bl i) zB4 rfl
theorem zC1 {i:Bool}:Q7 K [.bl i,.ty "bool"] H Q=Q (.bl true) H:=Qb (.bl i) zB4 rfl
theorem zDi {i:Str}:Q7 K [.str i,.ty "str"] H Q=Q (.bl true) H:=Qb (.str i) Jr rfl
theorem zAw {i:Str}:Q7 K [.str i,.ty "tuple"] H Q=Q (.bl false) H:=Qb (.str i) Jr rfl
theorem zDA {i:Str}:Q7 K [.str i,.ty "int"] H Q=Q (.bl false) H:=Qb (.str i) Jr rfl
theorem zBy {i:Str}:Q7 K [.str i,.ty "bool"] H Q=Q (.bl false) H:=Qb (.str i) Jr rfl
theorem zCu:Q7 K [.non,.ty "str"] H Q=Q (.bl false) H:=Qb .non Jm rfl
theorem zBC:Q7 K [.non,.ty "tuple"] H Q=Q (.bl false) H:=Qb .non Jm rfl
theorem zDY:Q7 K [.non,.ty "int"] H Q=Q (.bl false) H:=Qb .non Jm rfl
theorem zCe:Q7 K [.non,.ty "bool"] H Q=Q (.bl false) H:=Qb .non Jm rfl
theorem Q6 {a:Addr} {xs:List V} (e:H a=some (.tup xs)):Q7 K [.ref a,.ty "str"] H Q=Q (.bl false) H:=Qb (.tup e) (Wg e) rfl
theorem Qz {a:Addr} {xs:List V} (e:H a=some (.tup xs)):Q7 K [.ref a,.ty "tuple"] H Q=Q (.bl true) H:=Qb (.tup e) (Wg e) rfl
theorem Yt {a:Addr} {xs:List V} (e:H a=some (.tup xs)):Q7 K [.ref a,.ty "int"] H Q=Q (.bl false) H:=Qb (.tup e) (Wg e) rfl
theorem zCK {a:Addr} {xs:List V} (e:H a=some (.tup xs)):Q7 K [.ref a,.ty "bool"] H Q=Q (.bl false) H:=Qb (.tup e) (Wg e) rfl
theorem Zo {a:Addr} {xs:List V} (e:H a=some (.lst xs)):Q7 K [.ref a,.ty "str"] H Q=Q (.bl false) H:=Qb (.lst e) (Wh e) rfl
theorem Yu {a:Addr} {xs:List V} (e:H a=some (.lst xs)):Q7 K [.ref a,.ty "tuple"] H Q=Q (.bl false) H:=Qb (.lst e) (Wh e) rfl
theorem Zs {a:Addr} {xs:List V} (e:H a=some (.lst xs)):Q7 K [.ref a,.ty "int"] H Q=Q (.bl false) H:=Qb (.lst e) (Wh e) rfl
theorem zCh {a:Addr} {xs:List V} (e:H a=some (.lst xs)):Q7 K [.ref a,.ty "bool"] H Q=Q (.bl false) H:=Qb (.lst e) (Wh e) rfl
theorem WZ {a:Addr} {xs:List (Key × V)} (e:H a=some (.dK xs)):Q7 K [.ref a,.ty "str"] H Q=Q (.bl false) H:=Qb (.dK e) (zBz e) rfl
theorem ZX {a:Addr} {xs:List (Key × V)} (e:H a=some (.dK xs)):Q7 K [.ref a,.ty "tuple"] H Q=Q (.bl false) H:=Qb (.dK e) (zBz e) rfl
theorem WU {a:Addr} {xs:List (Key × V)} (e:H a=some (.dK xs)):Q7 K [.ref a,.ty "int"] H Q=Q (.bl false) H:=Qb (.dK e) (zBz e) rfl
theorem zC4 {a:Addr} {xs:List (Key × V)} (e:H a=some (.dK xs)):Q7 K [.ref a,.ty "bool"] H Q=Q (.bl false) H:=Qb (.dK e) (zBz e) rfl
theorem Jg {i j:Int}:rEq (.int i) (.int j) H Q=Q (.bl (decide (i=j))) H:=by
 unfold rEq;rw[show zDQ (.int i) (.int j)=true from rfl];simp
theorem zJh {i j:Int}:rNe (.int i) (.int j) H Q=Q (.bl (!decide (i=j))) H:=by
 unfold rNe;rw[show zDQ (.int i) (.int j)=true from rfl];simp
theorem zKx {i j:Bool}:rEq (.bl i) (.bl j) H Q=Q (.bl (decide (i=j))) H:=by
 unfold rEq;rw[show zDQ (.bl i) (.bl j)=true from rfl];simp
theorem zLG {i j:Bool}:rNe (.bl i) (.bl j) H Q=Q (.bl (!decide (i=j))) H:=by
 unfold rNe;rw[show zDQ (.bl i) (.bl j)=true from rfl];simp
theorem zJi {i j:Str}:rEq (.str i) (.str j) H Q=Q (.bl (decide (i=j))) H:=by
 unfold rEq;rw[show zDQ (.str i) (.str j)=true from rfl];simp
theorem zJO {i j:Str}:rNe (.str i) (.str j) H Q=Q (.bl (!decide (i=j))) H:=by
 unfold rNe;rw[show zDQ (.str i) (.str j)=true from rfl];simp
theorem zJL {j:Int}:zJg 10 j=(0<=j/\j<=1000000):=propext ⟨fun h=>⟨h.1,h.2.1⟩,fun h=>⟨h.1,h.2,by decide⟩⟩
theorem zKX {j:Int}:zJg 2 j=(0<=j/\j<=1000000):=propext ⟨fun h=>⟨h.1,h.2.1⟩,fun h=>⟨h.1,h.2,by decide⟩⟩
theorem zKy {CX:CXT} {P:Program} {w:World} {K:W.Frag} {mg:Str->Option Value} {base:Heap} {N:List Str} {qual:Str} {scope:Scope} {f:Addr} {cd:Value} {A:Around} {outer:List Env} {s:Shared} {H:Hp} {E:XK}:(zA4 CX P w K mg base N qual scope f cd A outer s H E).K=K:=rfl
def zEd (J:It) (g:TG) (tb:TS) (D:Ends) (σ:St) (H1:Hp):Prop:=∃ W:Nat->Nat->St->Hp->Prop,(∃ m,W 0 m σ H1)/\∀ i m σ H,W i m σ H ->
 (J.stop i H/\D.nx σ H)\/(J.go i H/\∃ N:St->Hp->Prop,(∀ σ' H',N σ' H'->∃ m',m' < m/\W (i+1) m' σ' H')/\∀ x H',J.yld i H x H'->g x σ H' fun σ2 H2=>tb { D with nx:=N,ct:=N,bk:=D.nx } σ2 H2)
theorem zIq {wi:TI} {g:TG} {tb:TS} {D:Ends} {σ:St} {H:Hp}:zLd wi g tb D σ H=wi σ H fun J H1=>zEd J g tb D σ H1:=rfl
theorem Zz {K:W.Frag} {a:Addr} {xs:List V} {g:TG} {tb:TS} {D:Ends} {σ:St} {H:Hp} (Pv:Nat->St->Hp->Prop) (h0:Pv 0 σ H) (hl:∀ i σ H,i<=xs.length->Pv i σ H->SqL K H a xs)
  (hs:∀ i x σ H,xs[i]? = some x->Pv i σ H->g x σ H fun σ2 H2=>tb { D with nx:=Pv (i+1),ct:=Pv (i+1),bk:=D.nx } σ2 H2) (hd:∀ σ H,Pv xs.length σ H->D.nx σ H):zEd (Itl K a) g tb D σ H:=zHa Pv h0 hl hs hd
theorem zC3 {K:W.Frag} {a:Addr} {xs:List V} {g:TG} {tb:TS} {D:Ends} {σ:St} {H:Hp} (Pv:Nat->St->Hp->Prop) (h0:Pv 0 σ H) (hl:∀ i σ H,i<=xs.length->Pv i σ H->SqT K H a xs)
  (hs:∀ i x σ H,xs[i]? = some x->Pv i σ H->g x σ H fun σ2 H2=>tb { D with nx:=Pv (i+1),ct:=Pv (i+1),bk:=D.nx } σ2 H2) (hd:∀ σ H,Pv xs.length σ H->D.nx σ H):zEd (Itt K a) g tb D σ H:=zIn Pv h0 hl hs hd
theorem ZO {lo:Int} {n:Nat} {g:TG} {tb:TS} {D:Ends} {σ:St} {H:Hp} (Pv:Nat->St->Hp->Prop) (h0:Pv 0 σ H)
  (hs:∀ i σ H,i < n->Pv i σ H->g (.int (lo+i)) σ H fun σ2 H2=>tb { D with nx:=Pv (i+1),ct:=Pv (i+1),bk:=D.nx } σ2 H2) (hd:∀ σ H,Pv n σ H->D.nx σ H):zEd (Itr lo n) g tb D σ H:=zFy Pv h0 hs hd
end
end L2
namespace L2
open PySem PySem.Spec PyProof.Rows
def cxC (X:Cx) (scope:Scope) (cl:List (Str × Addr)) (x:Str) (cs:List Str) (C:Addr) (s₀:Shared) (H₀:Hp) (fp:List Addr):Cx where
 prog:=X.prog
 w:=X.w
 K:=X.K
 mg:=X.mg
 base:=X.base
 A:=X.A
 N:=x::cs
 s₀:=s₀
 H₀:=H₀
 env:=compEnvC scope cl C X.env
 outer:=X.stack
 stack:=X.stack
 ex:=fp
 fn:=fun y=>y == x
 calm:=X.calm
 pn:=[]
 xe:=fun _ _=>False
def Yq (σ:St) (js:List Nat):St:=js.map fun j=>(σ[j]?).getD none
structure CScope (X:Cx) (scope:Scope) (cl:List (Str × Addr)) (x:Str) (cs:List Str) (js:List Nat):Prop where
 clos:closureFor scope X.env=pure cl
 kind:scope.kind=.function
 nocell:∀ y∈scope.names,y.2 ≠ .cell
 names:∀ y∈scope.names,y.2=.local->scope.names.lookup y.1=some .local
 lx:scope.names.lookup x=some .local
 sub:∀ y c,cl.lookup y=some c->X.env.cells.lookup y=some c
 has:∀ y,((relabel scope X.env).names.lookup y=some .cell\/(relabel scope X.env).names.lookup y=some .free)->∃ c,cl.lookup y=some c
 nox:cl.lookup x=none
 nd:(x::cs).Nodup
 cap:Paired (fun y j=>X.N[j]? = some y) cs js
 capk:∀ y∈cs,(X.env.kindOf y=some .cell\/X.env.kindOf y=some .free)/\((relabel scope X.env).names.lookup y=some .cell\/(relabel scope X.env).names.lookup y=some .free)
def J9 (J:It) (tc:TT) (te:TE) (τ:St) (fin:List V->Hp->Prop) (H1:Hp):Prop:=∃ W:Nat->Nat->List V->Hp->Prop,(∃ m,W 0 m [] H1)/\∀ i m ys H,W i m ys H ->
 (J.stop i H/\fin ys H)\/(J.go i H/\ys.length < sizeLine/\∃ N:List V->Hp->Prop,(∀ ys' H',N ys' H'->∃ m',m' < m/\W (i+1) m' ys' H')/\∀ v H',J.yld i H v H'->tc (some v::τ) H' fun b H2=>if b=true then te (some v::τ) H2 (fun y H3=>N (ys++[y]) H3) else N ys H2)
def J4 (wi:TI) (js:List Nat) (tc:TT) (te:TE):TE:=fun σ H Q=>wi σ H fun J H1=>J9 J tc te (Yq σ js) (fun ys H2=>∀ p,H2 p=none->Q (.ref p) (upd H2 p (.lst ys))) H1
def zIu:TT:=fun _ H Q=>Q true H
def zCX (X:Cx) (ifs:List Expr) (t:TT):Prop :=
 ∀ (pins:List (Addr × Obj)) (s:Shared) (σ:St) (H:Hp) (Q:Bool->Hp->Prop),Inv X pins σ H s->t σ H Q ->
  wpAny (model X.prog X.w) X.A (forIn ifs true fun c r=>if r=true then do let ok ← isTrue c X.env (eval c X.env);pure (ForInStep.yield ok) else pure (ForInStep.yield r)) (TP X pins σ Q) X.xe s
theorem zC0 {X:Cx}:zCX X [] zIu:=fun _ _ _ H _ I h=>wpAny_tests_nil ⟨H,I,h⟩
theorem zAK {X:Cx} {c:Expr} {t:TT} (h:PT X c t):zCX X [c] t:=fun pins s σ H Q I q=>wpAny_tests_one (h pins s σ H Q I q)
theorem HOk.track {P:Program} {w:World} {H:Hp} {h:Heap} {a:Addr} {o:HO} (x:HOk P w H h) (hn:H a=none) (new:ObjOk P w (upd H a o) h a o):HOk P w (upd H a o) h:=fun b u e=>by
 by_cases hb:b=a
 ·subst hb;rw[QF] at e;cases e;exact new
 ·rw[QH hb] at e
  exact (x b u e).stay (fun c v _ q=>q) (fun c q=>by rw[QH (QJ q hn)];exact q) fun c xs q=>by rw[QH (QJ q hn)];exact q
section
variable {X:Cx} {scope:Scope} {cl:List (Str × Addr)} {x:Str} {cs:List Str} {js:List Nat} {pins:List (Addr × Obj)} {σ:St} {H:Hp} {s:Shared}
theorem zKj {C:Addr} {fp:List Addr} (S:CScope X scope cl x cs js) (I:Inv X pins σ H s) (hC:s.heap.objs.size<=C) (hf:∀ b∈fp,Zd X pins H b) (hlt:∀ b∈fp,b < s.heap.objs.size) :
  (cxC X scope cl x cs C s H fp).Ok where
 mod:=I.ok.mod
 kind:=S.kind
 glob:=I.ok.glob
 blt:=I.ok.blt
 above:=hC
 inj:=fun y z c h1 h2=>I.ok.inj y z c (S.sub y c h1) (S.sub z c h2)
 has:=fun y h=>S.has y h
 cab:=fun y c h1 h2=>by
  have e:y=x:=eq_of_beq h1
  subst e
  have h2':cl.lookup y=some c:=h2
  rw[S.nox] at h2'
  cases h2'
 hd:=I.ok.hd
 frames:=I.ok.frames
 stk:=.inl rfl
 exf:=fun b hb=>⟨fun e=>absurd (hlt b hb) (Nat.not_lt.mpr (by rw[show b=C from e];exact hC)),fun y c h=>(hf b hb).2.2.2.2.1 y c (S.sub y c h)⟩
 bs:=fun b o e=>⟨(I.bs b o e).1,(I.bs b o e).2⟩
 bsz:=Nat.le_trans I.ok.bsz I.sz
 noex:=fun b o e hb=>by
  rcases (hf b hb).2.2.2.1 with z | z
  ·exact I.ok.noex b o e z
  ·exact absurd (Nat.lt_of_lt_of_le (Heap.lt_size e) (Nat.le_trans I.ok.bsz z)) (Nat.lt_irrefl _)
 exfs:=fun b hb z=>by
  rcases List.mem_cons.mp (I.stkSub b z) with e | e
  ·exact (hf b hb).2.1 e
  ·exact (hf b hb).2.2.1 e
 funs:=I.stack
 frf:=fun b hb=>I.stkFree b hb
theorem Yo {α β:Type} {F:α->β->Prop}:∀ {l:List α} {l':List β} {k:Nat} {a:α},Paired F l l'->l[k]? = some a->∃ b,l'[k]? = some b/\F a b
 | _,_,_,_,.nil,e=>by simp at e
 | _,_,0,_,.cons r _,e=>by simp at e;subst e;exact⟨_,rfl,r⟩
 | _,_,k+1,a,.cons _ t,e=>by
  obtain⟨b,h1,h2⟩:=Yo (k:=k) (a:=a) t (by simpa using e)
  exact⟨b,by simpa using h1,h2⟩
theorem zC7 {σ:St} {js:List Nat}:(Yq σ js).length=js.length:=by unfold Yq;rw[List.length_map]
theorem Inv.newfs (I:Inv X pins σ H s) {a:Addr} (h:s.heap.objs.size<=a):a ∉ frs X.stack:=fun hb=>by
 rcases List.mem_cons.mp (I.stkSub a hb) with e | e
 ·exact absurd I.lt (Nat.not_lt.mpr (by rw[← e];exact h))
 ·exact I.nofs h e
theorem zD9 {C D:Addr} {fp:List Addr} {h₁:Heap} {tk:Nat} {oD:Obj} (S:CScope X scope cl x cs js) (I:Inv X pins σ H s) (hf:∀ b∈fp,Zd X pins H b) (hlt:∀ b∈fp,b < s.heap.objs.size)
  (hD:s.heap.objs.size<=D) (hC:s.heap.objs.size<=C) (hDC:D ≠ C) (hns:h₁.Ns C (fun _=>none)) (keep:∀ b o,s.heap.get? b=some o->h₁.get? b=some o) (eD:h₁.get? D=some oD) (hoD:∀ v,oD.data ≠ .cell v) (htk:1<=tk:=by first | assumption | exact Nat.le_trans (Inv.tk (by assumption)) (Nat.le_add_right _ _) | omega) :
  Inv (cxC X scope cl x cs C s H fp) [(D,oD)] (none::Yq σ js) H { s with heap:=h₁,toks:=tk }:=by
 refine⟨zKj S I hC hf hlt,rfl,I.bare,Un.kept keep,⟨_,hns,fun i y v h1 h2 h3=>?_⟩,fun y c e=>?_,I.hok.fresh hC,fun y c e=>I.freeC y c (S.sub y c e),fun p hp=>?_,I.hok.kept keep,?_,htk⟩
 ·cases i with
  | zero=>simp at h2
  | succ k =>
   have h1':cs[k]? = some y:=by
    have z:(x::cs)[k+1]? = some y:=h1
    simpa using z
   have h2':(Yq σ js)[k]? = some (some v):=by simpa using h2
   obtain⟨j,ej,ey⟩:=Yo S.cap h1'
   have e2:σ[j]? = some (some v):=by
    unfold Yq at h2'
    rw[List.getElem?_map,ej] at h2'
    have h3':(σ[j]?).getD none=some v:=by simpa using h2'
    cases q:σ[j]? with
    | none=>rw[q] at h3';cases h3'
    | some w'=>rw[q] at h3';exact congrArg some h3'
   obtain⟨k1,k2⟩:=S.capk y (List.mem_of_getElem? h1')
   obtain⟨m,hn,hl⟩:=I.loc
   obtain⟨u,r,l⟩:=hl j y v ey e2 (by
    rcases k1 with z | z
    ·exact .inr (.inl z)
    ·exact .inr (.inr z))
   refine⟨u,r,.inr ⟨k2,?_⟩⟩
   obtain⟨c',e'⟩:=S.has y k2
   rcases l with ⟨z,_⟩ | ⟨_,c,ec,z⟩
   ·rcases k1 with k1 | k1 <;> (rw[k1] at z;cases z)
   ·have e3:=S.sub y c' e'
    rw[ec] at e3
    cases e3
    obtain⟨o,eo,d⟩:=z
    exact⟨_,e',o,keep _ _ eo,d⟩
 ·obtain⟨v,o,eo,d⟩:=I.cell y c (S.sub y c e)
  exact⟨v,o,keep _ _ eo,d⟩
 ·have e:p=(D,oD):=by
   rcases List.mem_append.mp hp with z | z
   ·exact absurd z (by show p ∉ ([]:List (Addr × Obj));simp)
   ·simpa using z
  subst e
  exact⟨eD,I.hok.fresh hD,hDC,I.newfs hD,hoD⟩
 ·show (none::Yq σ js).length=(x::cs).length
  rw[List.length_cons,List.length_cons,zC7,Paired.length S.cap]
abbrev Q9 (us:List Value) (n:Nat):Obj:={ cls:=.type "list",data:=.seq us.toArray n }
theorem zGD {elt iter:Expr} {px pos:Pos} {ifs:List Expr} {tc:TT} {te:TE} {C D it:Addr} {fp:List Addr} {tn:Nat->Heap->Prop} {J:It} {s₂:Shared} {H₂:Hp} {R:Result->Shared->Prop} {fin:List V->Hp->Prop} {s₃:Shared} {o₀:Option V}
  (hc:X.calm=true) (S:CScope X scope cl x cs js) (hC:s₂.heap.objs.size<=C) (hD:s₂.heap.objs.size<=D) (hDC:D ≠ C) (hlt:∀ b∈fp,b < s₂.heap.objs.size)
  (T:Turn X.prog X.w X.K (.Name x px) J fp it tn)
  (hcells:∀ y c,cl.lookup y=some c->c < s₂.heap.objs.size)
  (hfs:∀ b∈fp,b ∉ frs X.stack) (hDfs:D ∉ frs X.stack)
  (hcf:∀ b∈fp,∀ y c,cl.lookup y=some c->c ≠ b)
  (ht:zCX (cxC X scope cl x cs C s₂ H₂ fp) ifs tc) (he:PE (cxC X scope cl x cs C s₂ H₂ fp) elt te)
  (I₃:Inv (cxC X scope cl x cs C s₂ H₂ fp) [] (o₀::Yq σ js) H₂ s₃) (st:tn 0 s₃.heap) (hn:∀ b∈fp,H₂ b=none) (eD:s₃.heap.get? D=some (Q9 [] 0)) (hDn:H₂ D=none)
  (hW:J9 J tc te (Yq σ js) fin H₂)
  (hR:∀ s' σ' H' ys us n,Inv (cxC X scope cl x cs C s₂ H₂ fp) [] σ' H' s'->Vals ys us->ys.length<=sizeLine->s'.heap.get? D=some (Q9 us n)->H' D=none->fin ys H'->R (.ok .next) s') :
  codeAny (model X.prog X.w) X.A (.compLoop (.ListComp elt [⟨.Name x px,iter,ifs,0⟩] scope pos) 0 (.ref it) (.ref D) (compEnvC scope cl C X.env)) R s₃:=by
 obtain⟨W,⟨m0,w0⟩,turn⟩:=hW
 have bC:∀ b∈fp,b ≠ C:=fun b hb e=>absurd (hlt b hb) (Nat.not_lt.mpr (by rw[e];exact hC))
 have bD:∀ b∈fp,b ≠ D:=fun b hb e=>absurd (hlt b hb) (Nat.not_lt.mpr (by rw[e];exact hD))
 have cD:∀ y c,cl.lookup y=some c->c ≠ D:=fun y c h e=>absurd (hcells y c h) (Nat.not_lt.mpr (by rw[e];exact hD))
 have pinD:∀ {τ:St} {H':Hp} {s':Shared} {us:List Value} {k:Nat},Inv (cxC X scope cl x cs C s₂ H₂ fp) [] τ H' s'->s'.heap.get? D=some (Q9 us k)->H' D=none->Inv (cxC X scope cl x cs C s₂ H₂ fp) [(D,Q9 us k)] τ H' s' :=
  fun {τ H' s' us k} I e hn=>I.pins_of fun p hp=>by
   have ep:p=(D,Q9 us k):=by simpa using hp
   subst ep
   exact⟨e,hn,hDC,hDfs,fun v z=>by
    have z':Data.seq us.toArray k=Data.cell v:=z
    cases z'⟩
 have fpk:∀ {H':Hp} {us:List Value} {k:Nat},(∀ b∈fp,H' b=none)->∀ b∈fp,Zd (cxC X scope cl x cs C s₂ H₂ fp) [(D,Q9 us k)] H' b:=fun {H' us k} hn b hb =>
  ⟨hn b hb,bC b hb,hfs b hb,.inl hb,fun y c e=>hcf b hb y c e,fun p hp=>by
   have ep:p=(D,Q9 us k):=by
    rcases List.mem_append.mp hp with z | z
    ·exact absurd (show p∈([]:List (Addr × Obj)) from z) (by simp)
    ·simpa using z
   subst ep
   exact Ne.symm (bD b hb)⟩
 refine codeAny_compLoop_tests (env:=compEnvC scope cl C X.env) (fun n s'=>∃ i o H' ys us k,Inv (cxC X scope cl x cs C s₂ H₂ fp) [] (o::Yq σ js) H' s'/\tn i s'.heap/\(∀ b∈fp,H' b=none)/\Vals ys us/\ys.length<=sizeLine/\s'.heap.get? D=some (Q9 us k)/\H' D=none/\W i n ys H') ?_ m0
  ⟨0,o₀,H₂,[],[],0,I₃,st,hn,.nil,Nat.zero_le _,eD,hDn,w0⟩
 rintro n s4 ⟨i,o,H4,ys,us,k,I4,st4,fr4,rv,hz,eD4,hD4,w4⟩
 have I4':=pinD I4 eD4 hD4
 rcases turn i n ys H4 w4 with ⟨stop,f⟩ | ⟨go,hlen,N,hN,step⟩
 ·refine wpAny_mono (T.done (cxC X scope cl x cs C s₂ H₂ fp) rfl rfl rfl hc i [(D,Q9 us k)] s4 _ H4 (fun _ _=>False) I4' (fpk fr4) st4 stop) (fun r s5 ⟨hr,I5⟩=>?_) (fun _ _ z=>z.elim)
  subst hr
  show R (.ok .next) s5
  exact hR s5 _ H4 ys us k (I5.pins_of fun p hp=>absurd hp (by simp)) rv hz (I5.pin (D,Q9 us k) (List.mem_append_right _ (by simp))).1 hD4 f
 ·refine wpAny_mono (T.item (cxC X scope cl x cs C s₂ H₂ fp) rfl rfl rfl hc i [(D,Q9 us k)] s4 _ H4 (fun _ _=>False) I4' (fpk fr4) st4 go) (fun r s5 ⟨u,hr,h5⟩=>?_) (fun _ _ z=>z.elim)
  subst hr
  show wpAny _ _ (letOwnedTupleGo (.Name x px) (.ref it) u >>= fun _=>assign (.Name x px) (compEnvC scope cl C X.env) u) _ _ s5
  refine wpAny_bind (wpAny_mono h5 (fun _ s6 ⟨v,H6,I6,r6,y6,st6,fr6⟩=>?_) (fun _ _ z=>z.elim))
  have I6':=I6.pinned (fpk fr6) (T.obj _ _ st6)
  refine wpAny_assign_Name (zAD (X:=cxC X scope cl x cs C s₂ H₂ fp) (i:=0) I6' S.nd rfl (.inl (lookup_relabel_local S.lx)) r6 (fun s7 I7=>?_) (.inl (beq_self_eq_true x)))
  have st7:∀ {τ:St} {H':Hp} {s':Shared},Inv (cxC X scope cl x cs C s₂ H₂ fp) ([(D,Q9 us k)]++Zx fp s6.heap) τ H' s'->tn (i+1) s'.heap/\∀ b∈fp,H' b=none:=fun {τ H' s'} I=>by
   refine⟨T.keep _ _ _ st6 fun b hb o e=>(I.pin (b,o) (List.mem_append_right _ (List.mem_append_right _ (YX hb e)))).1,fun b hb=>?_⟩
   obtain⟨o,e,d⟩:=T.obj _ _ st6 b hb
   exact (I.pin (b,o) (List.mem_append_right _ (List.mem_append_right _ (YX hb e)))).2.1
  have dD:∀ {τ:St} {H':Hp} {s':Shared},Inv (cxC X scope cl x cs C s₂ H₂ fp) ([(D,Q9 us k)]++Zx fp s6.heap) τ H' s'->s'.heap.get? D=some (Q9 us k)/\H' D=none:=fun {τ H' s'} I=>by
   have q:=I.pin (D,Q9 us k) (List.mem_append_right _ (List.mem_append_left _ (by simp)))
   exact⟨q.1,q.2.1⟩
  refine wpAny_mono (ht _ s7 _ H6 _ I7 (step v H6 y6)) (fun ok s8 ⟨H8,I8,q8⟩=>?_) (fun _ _ z=>False.elim z)
  cases ok with
  | false =>
   obtain⟨m',hm,w8⟩:=hN _ _ q8
   exact⟨m',hm,i+1,some v,H8,ys,us,k,I8.pins_of fun p hp=>absurd hp (by simp),(st7 I8).1,(st7 I8).2,rv,hz,(dD I8).1,(dD I8).2,w8⟩
  | true =>
   rw[if_pos rfl]
   refine wpAny_mono (he _ s8 _ H8 _ I8 q8) (fun xv s9 ⟨y,H9,I9,r9,n9⟩=>?_) (fun _ _ z=>False.elim z)
   obtain⟨m',hm,w9⟩:=hN _ _ n9
   obtain⟨eD9,hD9⟩:=dD I9
   have hl:=rv.length
   refine call_meets F.slot_list_append ⟨_,eD9,rfl⟩ F.entry_list_append (F.args_list_append_2 _ _) (PySem.list_append D us.toArray k xv (by rw[List.size_toArray];omega)) ⟨eD9,?_⟩
   have I9':Inv (cxC X scope cl x cs C s₂ H₂ fp) [] (some v::Yq σ js) H9 s9:=I9.pins_of fun p hp=>absurd hp (by simp)
   have q:=PySem.IsL.update eD9 (·.push xv)
   have e1:us.toArray.push xv=(us++[xv]).toArray:=by simp
   rw[e1] at q
   have I10:=I9'.turned (h':=s9.heap.update D (Obj.mapSeq (·.push xv))) (t':=s9.toks) (it:=D) (fun b o hb e=>(Heap.get?_update_other s9.heap _ (Ne.symm hb)).trans e) hD9 hDC (.inr hD) (fun y c e=>cD y c e) (fun p hp=>absurd (show p∈([]:List (Addr × Obj)) from hp) (by simp))
   refine⟨m',hm,i+1,some v,H9,ys++[y],us++[xv],_,I10,?_,(st7 I9).2,rv.append (.cons r9 .nil),?_,q,hD9,w9⟩
   ·exact T.keep _ _ _ (st7 I9).1 fun b hb o e=>(Heap.get?_update_other s9.heap _ (Ne.symm (bD b hb))).trans e
   ·rw[List.length_append,List.length_singleton]
    omega
structure Off (X:Cx) (pins:List (Addr × Obj)) (H:Hp) (C:Addr):Prop where
 n:H C=none
 l:C ≠ X.env.locals
 y:X.s₀.heap.objs.size<=C
 c:∀ x c,X.env.cells.lookup x=some c->c ≠ C
 p:∀ p∈X.pn++pins,p.1 ≠ C
theorem Inv.off {h':Heap} {t':Nat} {C:Addr} (I:Inv X pins σ H s) (O:Off X pins H C) (k:Heap.SameBut C s.heap h') (ht:1<=t':=by first | exact Nat.le_add_left _ _ | exact Inv.tk (by assumption) | assumption | omega):Inv X pins σ H { s with heap:=h',toks:=t' } :=
 I.turned (fun b o hb e=>(k.2 b hb).trans e) O.n O.l (.inr O.y) O.c O.p ht
theorem zAk {elt iter:Expr} {px pos:Pos} {ifs:List Expr} {tc:TT} {te:TE} {it:Addr} {fp:List Addr} {tn:Nat->Heap->Prop} {J:It} {E:Value->Shared->Prop} {fin:List V->Hp->Prop} {RR:Value->Addr->Result->Shared->Prop}
  (hc:X.calm=true) (S:CScope X scope cl x cs js) (I:Inv X pins σ H s) (T:Turn X.prog X.w X.K (.Name x px) J fp it tn) (st:tn 0 s.heap) (hf:∀ b∈fp,Zd X pins H b)
  (ht:∀ C s₁ H₁,zCX (cxC X scope cl x cs C s₁ H₁ fp) ifs tc) (he:∀ C s₁ H₁,PE (cxC X scope cl x cs C s₁ H₁ fp) elt te) (hW:J9 J tc te (Yq σ js) fin H)
  (hRR:∀ D C s' ys H' m,Inv X pins σ (upd H' D (.lst ys)) s'->s'.heap.Ns C m->Off X pins (upd H' D (.lst ys)) C->H' D=none->fin ys H'->RR (.ref D) C (.ok .next) s') :
  wpAny (model X.prog X.w) X.A (newList []) (fun acc s₃=>wpAny (model X.prog X.w) X.A (newFunctionEnv scope X.env.globals cl [] X.env.qual none .none (some X.env)) (fun cenv s₄ =>
   codeAny (model X.prog X.w) X.A (.compStart (.ListComp elt [⟨.Name x px,iter,ifs,0⟩] scope pos) 0 (.ref it) acc { cenv with scope:=relabel scope X.env }) (RR acc cenv.locals) s₄) E s₃) E s:=by
 have hlt:∀ b∈fp,b < s.heap.objs.size:=fun b hb=>by
  obtain⟨o,e,_⟩:=T.obj _ _ st b hb
  exact Heap.lt_size e
 refine wpAny_newObj_type (wpAny_newFunctionEnv S.nocell (by intro y hy;simp at hy) (fun h₁ hns₁ hsb₁=>?_) S.kind)
 dsimp only at hns₁ hsb₁ ⊢
 generalize hH2:s.heap.push { cls:=.type "list",dict:=none,data:=.seq ([]:List Value).toArray }=H2 at hns₁ hsb₁ ⊢
 have hC:H2.objs.size=s.heap.objs.size+1:=by rw[← hH2,Heap.size_push]
 have hDC:s.heap.objs.size ≠ H2.objs.size:=by rw[hC];exact Nat.ne_of_lt (Nat.lt_succ_self _)
 have hCle:s.heap.objs.size<=H2.objs.size:=by rw[hC];exact Nat.le_succ _
 have below:∀ b,b < s.heap.objs.size->b ≠ H2.objs.size/\b ≠ s.heap.objs.size:=fun b hb=>⟨by rw[hC];exact Nat.ne_of_lt (Nat.lt_succ_of_lt hb),Nat.ne_of_lt hb⟩
 have old:∀ b o,s.heap.get? b=some o->h₁.get? b=some o:=fun b o e=>hsb₁.extBut b o (below b (Heap.lt_size e)).1 (Heap.get?_push_of_some _ (hH2 ▸ Heap.get?_push_of_some _ e))
 have hacc:h₁.get? s.heap.objs.size=some (Q9 [] 0):=hsb₁.extBut _ _ hDC (Heap.get?_push_of_some _ (hH2 ▸ Heap.get?_push_size _ rfl))
 have hDn:H s.heap.objs.size=none:=I.hok.fresh (Nat.le_refl _)
 have I₁:=zD9 (C:=H2.objs.size) (D:=s.heap.objs.size) (tk:=s.toks+([]:List (Str × Value)).length) (oD:=Q9 [] 0) S I hf hlt (Nat.le_refl _) hCle hDC hns₁ old hacc (fun v z=>by
  have z':Data.seq ([]:List Value).toArray 0=Data.cell v:=z
  cases z')
 have I₁':=I₁.pins_of (pins':=[]) fun p hp=>absurd hp (by simp)
 have stk:tn 0 h₁:=T.keep _ _ _ st fun b _ o e=>old b o e
 have zGm:codeAny (model X.prog X.w) X.A (.compLoop (.ListComp elt [⟨.Name x px,iter,ifs,0⟩] scope pos) 0 (.ref it) (.ref s.heap.objs.size) (compEnvC scope cl H2.objs.size X.env)) (RR (.ref s.heap.objs.size) H2.objs.size)
   { s with heap:=h₁,toks:=s.toks+([]:List (Str × Value)).length }:=by
  refine zGD (s₂:=s) (H₂:=H) (fp:=fp) (fin:=fin) hc S hCle (Nat.le_refl _) hDC hlt T (fun y c e=>?_) (fun b hb z=>?_) (I.newfs (Nat.le_refl _)) (fun b hb y c e=>(hf b hb).2.2.2.2.1 y c (S.sub y c e)) (ht _ _ _) (he _ _ _) I₁' stk (fun b hb=>(hf b hb).1) hacc hDn hW ?_
  ·obtain⟨v,q⟩:=I.cell y c (S.sub y c e)
   exact q.lt
  ·rcases List.mem_cons.mp (I.stkSub b z) with e | e
   ·exact (hf b hb).2.1 e
   ·exact (hf b hb).2.2.1 e
  ·intro s' σ' H' ys us n I' rv hz eD hDn' hfin
   have u':Un (frs X.stack) fp H H' s.heap s'.heap:=I'.base
   have u:Un (frs X.stack) fp H (upd H' s.heap.objs.size (.lst ys)) s.heap s'.heap:=⟨u'.keep,u'.slot,fun b o e n hx=>by rw[QH (below b (Heap.lt_size e)).2];exact u'.free b o e n hx,u'.there,
    fun b xs e=>by rw[QH (QJ e hDn)];exact u'.tups b xs e,fun b o w' e=>by rw[QH (QJ e hDn)];exact u'.frzs b o w' e,fun b ps e=>by
     obtain⟨more,q⟩:=u'.tbls b ps e
     exact⟨more,by rw[QH (QJ e hDn)];exact q⟩⟩
   have hok:HOk X.prog X.w (upd H' s.heap.objs.size (.lst ys)) s'.heap:=HOk.track I'.hok hDn' ⟨hz,us,n,rv,eD⟩
   have I2:Inv X pins σ (upd H' s.heap.objs.size (.lst ys)) s':=I.call' (ch:=fp) I'.os u hok I'.bare I'.tk fun b hb=>⟨(hf b hb).2.2.2.1,(hf b hb).2.1,(hf b hb).2.2.2.2.1,(hf b hb).2.2.2.2.2⟩
   obtain⟨m,hm,_⟩:=I'.loc
   refine hRR _ _ s' ys H' m I2 hm ⟨?_,Ne.symm (below _ I.lt).1,Nat.le_trans I.sz hCle,fun y c e=>?_,fun p hp=>?_⟩ hDn' hfin
   ·rw[QH (Ne.symm hDC)];exact I'.free
   ·obtain⟨v,q⟩:=I.cell y c e
    exact (below _ q.lt).1
   ·exact (below _ (Heap.lt_size (I.pin p hp).1)).1
 exact codeAny_compStart_list zGm (T.self X.A 0 _ _ _ stk zGm)
theorem zC8 {elt iter:Expr} {px pos:Pos} {ifs:List Expr} {wi:TI} {tc:TT} {te:TE} (hc:X.calm=true) (S:CScope X scope cl x cs js) (hi:PI X (.Name x px) iter wi)
  (ht:∀ C s₁ H₁ fp,zCX (cxC X scope cl x cs C s₁ H₁ fp) ifs tc) (he:∀ C s₁ H₁ fp,PE (cxC X scope cl x cs C s₁ H₁ fp) elt te)
  (hs:∀ x,foldedSetIterable iter X.env x=pure x:=by intro _;rfl):PE X (.ListComp elt [⟨.Name x px,iter,ifs,0⟩] scope pos) (J4 wi js tc te):=by
 intro pins s σ H Q I h
 rw[eval_ListComp]
 refine wpAny_comprehension_free (use:=none) rfl hs S.clos S.kind S.names (thn (hi pins s σ H _ I h) fun v s1 h1=>thn h1 fun itv s2 h2=>?_)
 obtain⟨it,fp,tn,J,H2,e,I2,T,st2,f2,hW⟩:=h2
 subst e
 refine zAk (RR:=fun acc C=>compPost (model X.prog X.w) X.A X.xe none (EP X pins σ Q) acc C) hc S I2 T st2 f2 (fun C s₁ H₁=>ht C s₁ H₁ fp) (fun C s₁ H₁=>he C s₁ H₁ fp) hW ?_
 intro D C s' ys H' m I' hm O hD hfin
 exact⟨m,hm,fun h' k=>⟨.ref D,_,I'.off (t':=s'.toks) O k,rfl,hfin D hD⟩⟩
theorem zCr {i:Nat} {y:Str} {py spos:Pos} {elt iter:Expr} {px pos:Pos} {ifs:List Expr} {wi:TI} {tc:TT} {te:TE} (hN:X.N.Nodup) (hi':X.N[i]? = some y) (hy:Loc X.env.scope y) (hc:X.calm=true) (S:CScope X scope cl x cs js) (hi:PI X (.Name x px) iter wi)
  (ht:∀ C s₁ H₁ fp,zCX (cxC X scope cl x cs C s₁ H₁ fp) ifs tc) (he:∀ C s₁ H₁ fp,PE (cxC X scope cl x cs C s₁ H₁ fp) elt te)
  (hsw:swapsWith (.ListComp elt [⟨.Name x px,iter,ifs,0⟩] scope pos) (some (.Name y py)) spos.line X.env=pure true:=by rfl)
  (hf:X.fn y=true\/X.env.scope.names.lookup y=some .local:=by first | exact .inl rfl | exact .inr rfl | assumption)
  (hs:∀ x,foldedSetIterable iter X.env x=pure x:=by intro _;rfl):PS X (.Assign [.Name y py] (.ListComp elt [⟨.Name x px,iter,ifs,0⟩] scope pos) spos) (zF9 (J4 wi js tc te) (Wz i)):=by
 intro pins s σ H D I h
 rw[exec_Assign_Name_used _ _ _ _ hsw]
 refine wpAny_bind (wpAny_standAt (wpAny_bind ?_))
 show wpAny _ X.A (do let _ ← comprehension (.ListComp elt [⟨.Name x px,iter,ifs,0⟩] scope pos) scope X.env _ (newList []) false (eval iter X.env) (some (assign (.Name y py) X.env))) _ _ s
 refine wpAny_bind (wpAny_mono (wpAny_comprehension_free (use:=some (assign (.Name y py) X.env)) (Q:=fun _ s'=>SP X pins D .next s') rfl hs S.clos S.kind S.names
  (thn (hi pins s σ H _ I h) fun v s1 h1=>thn h1 fun itv s2 h2=>?_)) (fun _ s' hq=>wpAny_pure (wpAny_pure hq)) fun _ _ e=>e)
 obtain⟨it,fp,tn,J,H2,e,I2,T,st2,f2,hW⟩:=h2
 subst e
 refine zAk (RR:=fun acc C=>compPost (model X.prog X.w) X.A X.xe (some (assign (.Name y py) X.env)) (fun _ s'=>SP X pins D .next s') acc C) hc S I2 T st2 f2 (fun C s₁ H₁=>ht C s₁ H₁ fp) (fun C s₁ H₁=>he C s₁ H₁ fp) hW ?_
 intro D' C s' ys H' m I' hm O hD hfin
 show wpAny _ X.A (assign (.Name y py) X.env (.ref D')) _ _ s'
 refine wpAny_assign_Name (zBS I' hN hi' hy (v:=.ref D') rfl (fun s'' I'' sb=>?_) hf)
 obtain⟨a,sb,ha⟩:=sb
 have hCa:C ≠ a:=by
  rcases ha with e | e
  ·rw[e];exact O.l
  ·exact fun z=>O.c y a e z.symm
 exact⟨m,hm.sameBut sb hCa,fun h' k=>⟨_,_,I''.off (t':=s''.toks) O k,hfin D' hD⟩⟩
end
def YQ (env:Env):List (Str × NameKind)->List (Str × Addr)->List (Str × Addr)
 | [],acc=>acc
 | (n,k)::r,acc=>if k=.free then YQ env r ((n,(env.cells.lookup n).getD 0)::acc) else YQ env r acc
theorem WG {scope:Scope} {env:Env} (h:∀ y∈scope.names,y.2=.free->(env.cells.lookup y.1).isSome=true):closureFor scope env=pure (YQ env scope.names []):=by
 simp only[closureFor]
 generalize scope.names=l at h
 have key:∀ (l:List (Str × NameKind)) (acc:List (Str × Addr)),(∀ y∈l,y.2=.free->(env.cells.lookup y.1).isSome=true)->(do
   let r ← forIn l acc fun x r =>
    if (x.snd == NameKind.free)=true then do
     let c ← cellOf env x.fst
     pure (ForInStep.yield ((x.fst,c)::r))
    else pure (ForInStep.yield r)
   pure r)=(pure (YQ env l acc):Sem (List (Str × Addr))):=by
  intro l
  induction l with
  | nil=>intro acc _;rfl
  | cons p r ih =>
   obtain⟨n,k⟩:=p
   intro acc h
   rw[List.forIn_cons]
   by_cases hk:k=.free
   ·have e:=h (n,k) List.mem_cons_self hk
    obtain⟨c,ec⟩:=Option.isSome_iff_exists.mp e
    have ec':env.cells.lookup n=some c:=ec
    have e1:cellOf env n=pure c:=by unfold cellOf;rw[ec']
    subst hk
    have e2:YQ env ((n,NameKind.free)::r) acc=YQ env r ((n,c)::acc):=by
     show (if NameKind.free=NameKind.free then YQ env r ((n,(env.cells.lookup n).getD 0)::acc) else YQ env r acc)=_
     rw[if_pos rfl,ec'];rfl
    rw[e2]
    rw[← ih ((n,c)::acc) fun y hy=>h y (List.mem_cons_of_mem _ hy)]
    simp only[beq_self_eq_true,if_true,e1]
    rfl
   ·have e2:YQ env ((n,k)::r) acc=YQ env r acc:=by
     show (if k=NameKind.free then YQ env r ((n,(env.cells.lookup n).getD 0)::acc) else YQ env r acc)=_
     rw[if_neg hk]
    rw[e2,← ih acc fun y hy=>h y (List.mem_cons_of_mem _ hy)]
    have hk':(k == NameKind.free)=false:=by simpa using hk
    simp only[hk',Bool.false_eq_true,if_false]
    rfl
 show (forIn l [] _ >>= fun s=>pure s)=_
 rw[key l [] h]
 rfl
theorem Zy {env:Env} {y:Str} {c:Addr}:∀ (names:List (Str × NameKind)) (acc:List (Str × Addr)),(∀ z∈names,z.2=.free->(env.cells.lookup z.1).isSome=true)->(∀ z d,acc.lookup z=some d->env.cells.lookup z=some d) ->
  (YQ env names acc).lookup y=some c->env.cells.lookup y=some c
 | [],acc,_,ha,h=>ha y c h
 | (n,k)::r,acc,hn,ha,h=>by
  unfold YQ at h
  by_cases hk:k=.free
  ·rw[if_pos hk] at h
   refine Zy r _ (fun z hz=>hn z (List.mem_cons_of_mem _ hz)) (fun z d hd=>?_) h
   obtain⟨c',ec⟩:=Option.isSome_iff_exists.mp (hn (n,k) List.mem_cons_self hk)
   have ec':env.cells.lookup n=some c':=ec
   rw[List.lookup_cons] at hd
   cases e:z == n with
   | true =>
    rw[e] at hd
    have e':z=n:=eq_of_beq e
    rw[e',ec']
    rw[ec'] at hd
    simpa using hd
   | false=>rw[e] at hd;exact ha z d hd
  ·rw[if_neg hk] at h
   exact Zy r acc (fun z hz=>hn z (List.mem_cons_of_mem _ hz)) ha h
theorem Wi {env:Env} {y:Str}:∀ (names:List (Str × NameKind)) (acc:List (Str × Addr)),((∃ z∈names,z=(y,.free))\/(acc.lookup y).isSome=true)->((YQ env names acc).lookup y).isSome=true
 | [],acc,h=>by
  rcases h with ⟨z,hz,_⟩ | h
  ·cases hz
  ·exact h
 | (n,k)::r,acc,h=>by
  unfold YQ
  by_cases hk:k=.free
  ·rw[if_pos hk]
   refine Wi r _ ?_
   rcases h with ⟨z,hz,e⟩ | h
   ·rcases List.mem_cons.mp hz with q | q
    ·right
     have e1:n=y:=by
      have:(n,k)=(y,NameKind.free):=q.symm.trans e
      exact (Prod.mk.inj this).1
     subst e1
     rw[List.lookup_cons,beq_self_eq_true];rfl
    ·exact .inl ⟨z,q,e⟩
   ·right
    rw[List.lookup_cons]
    cases e:y == n with
    | true=>rfl
    | false=>exact h
  ·rw[if_neg hk]
   refine Wi r _ ?_
   rcases h with ⟨z,hz,e⟩ | h
   ·rcases List.mem_cons.mp hz with q | q
    ·exact absurd (by
      have:(n,k)=(y,NameKind.free):=q.symm.trans e
      exact (Prod.mk.inj this).2) hk
    ·exact .inl ⟨z,q,e⟩
   ·exact .inr h
theorem Z8 {env:Env} {y:Str}:∀ (names:List (Str × NameKind)) (acc:List (Str × Addr)),(∀ z∈names,z.2=.free->z.1 ≠ y)->acc.lookup y=none->(YQ env names acc).lookup y=none
 | [],acc,_,h=>h
 | (n,k)::r,acc,hn,h=>by
  unfold YQ
  by_cases hk:k=.free
  ·rw[if_pos hk]
   refine Z8 r _ (fun z hz=>hn z (List.mem_cons_of_mem _ hz)) ?_
   rw[List.lookup_cons]
   have:n ≠ y:=hn (n,k) List.mem_cons_self hk
   have e:(y == n)=false:=by simpa using Ne.symm this
   rw[e];exact h
  ·rw[if_neg hk]
   exact Z8 r acc (fun z hz=>hn z (List.mem_cons_of_mem _ hz)) h
structure CompOk (sc scope:Scope) (N:List Str) (x:Str) (cs:List Str) (js:List Nat):Prop where
 k1:scope.kind=.function
 k2:sc.kind=.function
 nocell:∀ y∈scope.names,y.2 ≠ .cell
 names:∀ y∈scope.names,y.2=.local->scope.names.lookup y.1=some .local
 lx:scope.names.lookup x=some .local
 fr:∀ y∈scope.names,y.2=.free->sc.names.lookup y.1=some .cell/\y.1 ≠ x
 nd:(x::cs).Nodup
 cap:js.map (fun j=>N[j]?)=cs.map some
 capk:∀ y∈cs,sc.names.lookup y=some .cell/\scope.names.lookup y=some .free
theorem W8 {N:List Str}:∀ {js:List Nat} {cs:List Str},js.map (fun j=>N[j]?)=cs.map some->Paired (fun y j=>N[j]? = some y) cs js
 | [],[],_=>.nil
 | [],_::_,h=>by simp at h
 | _::_,[],h=>by simp at h
 | j::js,c::cs,h=>by
  rw[List.map_cons,List.map_cons] at h
  obtain⟨h1,h2⟩:=List.cons.inj h
  exact .cons h1 (W8 h2)
theorem ZP {env:Env} {y:Str} (hk:env.scope.kind=.function) (he:env.kindOf y=some .cell):∀ {l:List (Str × NameKind)},l.lookup y=some .free ->
  (l.map fun (n,k)=>if (k == NameKind.free && env.scope.kind == .function && env.kindOf n == some .cell) then (n,NameKind.cell) else (n,k)).lookup y=some .cell
 | [],h=>by cases h
 | (n,k)::r,h=>by
  have ih:=@ZP env y hk he r
  rw[List.lookup_cons] at h
  show List.lookup y ((if (k == NameKind.free && env.scope.kind == .function && env.kindOf n == some .cell)=true then (n,NameKind.cell) else (n,k))::_)=_
  cases e:y == n with
  | true =>
   rw[e] at h
   have e':y=n:=eq_of_beq e
   have e2:k=.free:=by simpa using h
   subst e2 e'
   rw[hk,he]
   simp[List.lookup_cons]
  | false =>
   rw[e] at h
   by_cases hc:(k == NameKind.free && env.scope.kind == .function && env.kindOf n == some .cell)=true
   ·rw[if_pos hc];simp only[List.lookup_cons,e];exact ih h
   ·rw[if_neg hc];simp only[List.lookup_cons,e];exact ih h
theorem ZF {env:Env} {y:Str}:∀ {l:List (Str × NameKind)},(∀ z∈l,z.2 ≠ NameKind.cell) ->
  ((l.map fun (n,k)=>if (k == NameKind.free && env.scope.kind == .function && env.kindOf n == some .cell) then (n,NameKind.cell) else (n,k)).lookup y=some .cell \/
   (l.map fun (n,k)=>if (k == NameKind.free && env.scope.kind == .function && env.kindOf n == some .cell) then (n,NameKind.cell) else (n,k)).lookup y=some .free)->∃ z∈l,z=(y,NameKind.free)
 | [],_,h=>by rcases h with h | h <;> cases h
 | (n,k)::r,hn,h=>by
  have ih:=@ZF env y r fun z hz=>hn z (List.mem_cons_of_mem _ hz)
  have h':List.lookup y ((if (k == NameKind.free && env.scope.kind == .function && env.kindOf n == some .cell)=true then (n,NameKind.cell) else (n,k))::r.map fun (n,k)=>if (k == NameKind.free && env.scope.kind == .function && env.kindOf n == some .cell) then (n,NameKind.cell) else (n,k))=some .cell \/
    List.lookup y ((if (k == NameKind.free && env.scope.kind == .function && env.kindOf n == some .cell)=true then (n,NameKind.cell) else (n,k))::r.map fun (n,k)=>if (k == NameKind.free && env.scope.kind == .function && env.kindOf n == some .cell) then (n,NameKind.cell) else (n,k))=some .free:=h
  by_cases hc:(k == NameKind.free && env.scope.kind == .function && env.kindOf n == some .cell)=true
  ·rw[if_pos hc] at h'
   simp only[List.lookup_cons] at h'
   cases e:y == n with
   | true =>
    have e':y=n:=eq_of_beq e
    have ek:k=.free:=by
     rw[Bool.and_eq_true,Bool.and_eq_true] at hc
     simpa using hc.1.1
    exact⟨(n,k),List.mem_cons_self,by rw[e',ek]⟩
   | false =>
    rw[e] at h'
    obtain⟨z,hz,ez⟩:=ih h'
    exact⟨z,List.mem_cons_of_mem _ hz,ez⟩
  ·rw[if_neg hc] at h'
   simp only[List.lookup_cons] at h'
   cases e:y == n with
   | true =>
    rw[e] at h'
    have e':y=n:=eq_of_beq e
    have hkc:k ≠ .cell:=hn (n,k) List.mem_cons_self
    have ek:k=.free:=by
     rcases h' with q | q
     ·exact absurd (by simpa using q) hkc
     ·simpa using q
    exact⟨(n,k),List.mem_cons_self,by rw[e',ek]⟩
   | false =>
    rw[e] at h'
    obtain⟨z,hz,ez⟩:=ih h'
    exact⟨z,List.mem_cons_of_mem _ hz,ez⟩
theorem Zb {X:Cx} {sc scope:Scope} {x:Str} {cs:List Str} {js:List Nat} {qual:Str} {L f:Addr} {cd:Value} (hE:X.env=envOfC qual sc L f cd) (c:CompOk sc scope X.N x cs js):CScope X scope (YQ X.env scope.names []) x cs js:=by
 have hcs:∀ y,sc.names.lookup y=some .cell->(X.env.cells.lookup y).isSome=true:=fun y h=>by
  rw[hE]
  exact PySem.W.cellsFrom_some _ _ _ (.inl h)
 have hn:∀ y∈scope.names,y.2=.free->(X.env.cells.lookup y.1).isSome=true:=fun y hy h=>hcs _ (c.fr y hy h).1
 have hk:X.env.scope.kind=.function:=by rw[hE];exact c.k2
 have kd:∀ y,X.env.kindOf y=sc.names.lookup y:=fun y=>by rw[hE];rfl
 refine⟨WG hn,c.k1,c.nocell,c.names,c.lx,fun y d h=>Zy _ _ hn (fun z d h=>by cases h) h,fun y h=>?_,Z8 _ _ (fun z hz h=>(c.fr z hz h).2) rfl,c.nd,W8 c.cap,fun y hy=>?_⟩
 ·exact Option.isSome_iff_exists.mp (Wi _ _ (.inl (ZF c.nocell h)))
 ·have q:=c.capk y hy
  have q1:X.env.kindOf y=some .cell:=(kd y).trans q.1
  exact⟨.inl q1,.inl (ZP hk q1 q.2)⟩
end L2
namespace L2
open PySem PySem.Spec PyProof.Rows
section
variable {X:Cx}
theorem Jt (x:Str) (cs:List Str) (js:List Nat) {sc scope:Scope} {qual:Str} {L f:Addr} {cd:Value} {elt iter:Expr} {px pos:Pos} {wi:TI} {te:TE} (hE:X.env=envOfC qual sc L f cd) (c:CompOk sc scope X.N x cs js) (hc:X.calm=true) (hi:PI X (.Name x px) iter wi)
  (he:∀ C s₁ H₁ fp,PE (cxC X scope (YQ X.env scope.names []) x cs C s₁ H₁ fp) elt te)
  (hs:∀ x,foldedSetIterable iter X.env x=pure x:=by intro _;rfl):PE X (.ListComp elt [⟨.Name x px,iter,[],0⟩] scope pos) (J4 wi js zIu te) :=
 zC8 hc (Zb hE c) hi (fun _ _ _ _=>zC0) he hs
theorem zHu (x:Str) (cs:List Str) (js:List Nat) {sc scope:Scope} {qual:Str} {L f:Addr} {cd:Value} {elt iter t:Expr} {px pos:Pos} {wi:TI} {tc:TT} {te:TE} (hE:X.env=envOfC qual sc L f cd) (c:CompOk sc scope X.N x cs js) (hc:X.calm=true) (hi:PI X (.Name x px) iter wi)
  (ht:∀ C s₁ H₁ fp,PT (cxC X scope (YQ X.env scope.names []) x cs C s₁ H₁ fp) t tc) (he:∀ C s₁ H₁ fp,PE (cxC X scope (YQ X.env scope.names []) x cs C s₁ H₁ fp) elt te)
  (hs:∀ x,foldedSetIterable iter X.env x=pure x:=by intro _;rfl):PE X (.ListComp elt [⟨.Name x px,iter,[t],0⟩] scope pos) (J4 wi js tc te) :=
 zC8 hc (Zb hE c) hi (fun _ _ _ _=>zAK (ht _ _ _ _)) he hs
theorem zFV {i:Nat} {y:Str} {py spos:Pos} (hN:X.N.Nodup) (hi':X.N[i]? = some y) (hy:Loc X.env.scope y) (x:Str) (cs:List Str) (js:List Nat) {sc scope:Scope} {qual:Str} {L f:Addr} {cd:Value} {elt iter:Expr} {px pos:Pos} {wi:TI} {te:TE} (hE:X.env=envOfC qual sc L f cd) (c:CompOk sc scope X.N x cs js) (hc:X.calm=true) (hi:PI X (.Name x px) iter wi)
  (he:∀ C s₁ H₁ fp,PE (cxC X scope (YQ X.env scope.names []) x cs C s₁ H₁ fp) elt te)
  (hsw:swapsWith (.ListComp elt [⟨.Name x px,iter,[],0⟩] scope pos) (some (.Name y py)) spos.line X.env=pure true:=by rfl)
  (hf:X.fn y=true\/X.env.scope.names.lookup y=some .local:=by first | exact .inl rfl | exact .inr rfl | assumption)
  (hs:∀ x,foldedSetIterable iter X.env x=pure x:=by intro _;rfl):PS X (.Assign [.Name y py] (.ListComp elt [⟨.Name x px,iter,[],0⟩] scope pos) spos) (zF9 (J4 wi js zIu te) (Wz i)) :=
 zCr hN hi' hy hc (Zb hE c) hi (fun _ _ _ _=>zC0) he hsw hf hs
end
def one (c:Nat):V:=.str ⟨#[c]⟩
def Its (x:Str):It:=⟨fun i _=>i < x.cps.size,fun i H v H'=>H'=H/\∃ c,x.cps[i]? = some c/\v=one c,fun i _=>x.cps.size<=i⟩
theorem zH6 {P:Program} {w:World} {K:W.Frag} {tg:Expr} (x:Str) (t:Tok) (it:Addr) (ty:String) (hty:ty = "str_ascii_iterator" \/ ty = "str_iterator") :
  Turn P w K tg (Its x) [it] it (fun i h=>h.IsStrIter it ty x t i/\i<=x.cps.size) where
 mem:=by simp
 obj:=fun i h st b hb=>by
  have e:b=it:=by simpa using hb
  subst e
  obtain⟨⟨o,e,c,d⟩,_⟩:=st
  exact⟨o,e,fun v z=>by rw[d] at z;cases z⟩
 keep:=fun i h h' st k=>by
  obtain⟨⟨o,e,r⟩,hi⟩:=st
  exact⟨⟨o,k it (by simp) o e,r⟩,hi⟩
 item:=by
  intro X hP hw hK hc i pins s σ H E I hf st hg
  subst hP hw hK
  obtain⟨f0,f1,f2,f3,f4,f5⟩:=hf it (by simp)
  have hg':i < x.cps.size:=hg
  rcases hty with e | e <;> subst e
  ·refine wpAny_pyNext_ascii_item st.1 (c:=x.cps[i]) (by simp[hg']) fun h' st' hs'=>?_
   have I1:Inv X pins σ H { s with heap:=h',toks:=s.toks+1 }:=I.turned (fun b o hb e=>(hs'.2 b hb).trans e) f0 f1 f3 f4 f5
   obtain⟨o,e,oc,od⟩:=id st'
   exact⟨_,rfl,zDa (s:={ s with heap:=h',toks:=s.toks+1 }) (n := "str_ascii_iterator") e oc od (by decide) ⟨one x.cps[i],H,I1,I.rS,⟨rfl,_,by simp[hg'],rfl⟩,⟨st',by omega⟩,fun b hb=>(hf b hb).1⟩⟩
  ·refine wpAny_pyNext_wide_item st.1 (c:=x.cps[i]) (by simp[hg']) fun h' st' hs'=>?_
   have I1:Inv X pins σ H { s with heap:=h',toks:=s.toks+1 }:=I.turned (fun b o hb e=>(hs'.2 b hb).trans e) f0 f1 f3 f4 f5
   obtain⟨o,e,oc,od⟩:=id st'
   exact⟨_,rfl,zDa (s:={ s with heap:=h',toks:=s.toks+1 }) (n := "str_iterator") e oc od (by decide) ⟨one x.cps[i],H,I1,I.rS,⟨rfl,_,by simp[hg'],rfl⟩,⟨st',by omega⟩,fun b hb=>(hf b hb).1⟩⟩
 done:=by
  intro X hP hw hK hc i pins s σ H E I hf st hg
  subst hP hw hK
  obtain⟨f0,f1,f2,f3,f4,f5⟩:=hf it (by simp)
  have W:Walks X.prog X.w X.A it [it] [it] x.cps.size (SignAt x) (fun i h=>h.IsStrIter it ty x t i):=by
   rcases hty with e | e
   ·subst e;exact Walks.strAscii (I.ok.hd hc) it x t
   ·subst e;exact Walks.strWide (I.ok.hd hc) it x t
  have hg':x.cps.size<=i:=hg
  have ei:i=x.cps.size:=Nat.le_antisymm st.2 hg'
  exact zDF (W.done s _ _ (ei ▸ st.1) fun h' tk kk hk=>⟨rfl,I.turned (fun b o hb e=>kk b o (by simpa using hb) e) f0 f1 f3 f4 f5 (Nat.le_trans I.tk hk)⟩)
 self:=fun A i s Q E st h=>by
  rcases hty with e | e
  ·subst e;exact wpAny_pyIter_striter_ascii st.1 h
  ·subst e;exact wpAny_pyIter_striter_wide st.1 h
section
variable {X:Cx} {tg:Expr}
def zLw (tl:TE):TI:=fun σ H R=>tl σ H fun x H1=>∃ z,x=.str z/\R (Its z) H1
theorem zIb {l:Expr} {tl:TE} (hl:PE X l tl):PI X tg l (zLw tl):=by
 intro pins s σ H R I h
 refine thn (hl pins s σ H _ I h) fun v s1 ⟨x,H1,I1,r1,q1⟩=>?_
 obtain⟨z,e,q⟩:=q1
 subst e
 obtain⟨t,rfl⟩:=r1
 have fin:∀ (ty:String),(ty = "str_ascii_iterator" \/ ty = "str_iterator")->PIE X pins σ tg R (.ref s1.heap.objs.size) { s1 with heap:=s1.heap.push { cls:=.type ty,data:=.fields #[.str z (t+1),.int 0 0] } }:=fun ty hty=>by
  refine⟨s1.heap.objs.size,[s1.heap.objs.size],_,_,H1,rfl,I1.kept (t':=s1.toks) fun b o e=>Heap.get?_push_of_some _ e,zH6 z (t+1) _ ty hty,⟨⟨_,Heap.get?_push_size _ rfl,rfl,rfl⟩,Nat.zero_le _⟩,fun b hb=>?_,q⟩
  have e:b=s1.heap.objs.size:=by simpa using hb
  subst e
  exact I1.fpOk (Nat.le_refl _) (I1.hok.fresh (Nat.le_refl _))
 cases ha:z.cps.all (· < 128)
 ·exact wpAny_pyIter_wide ha (fin _ (.inr rfl))
 ·exact wpAny_pyIter_ascii ha (fin _ (.inl rfl))
theorem zDg {z:Str} {g:TG} {tb:TS} {D:Ends} {σ:St} {H:Hp} (Pv:Nat->St->Hp->Prop) (h0:Pv 0 σ H)
  (hs:∀ (i:Nat) (c:Nat) σ H,z.cps.toList[i]? = some c->Pv i σ H->g (one c) σ H fun σ2 H2=>tb { D with nx:=Pv (i+1),ct:=Pv (i+1),bk:=D.nx } σ2 H2) (hd:∀ σ H,Pv z.cps.size σ H->D.nx σ H):zEd (Its z) g tb D σ H:=by
 refine⟨fun i m σ H=>m=z.cps.size - i/\i<=z.cps.size/\Pv i σ H,⟨z.cps.size,by simp,Nat.zero_le _,h0⟩,?_⟩
 rintro i m σ H ⟨rfl,hi,p⟩
 by_cases hlt:i < z.cps.size
 ·refine .inr ⟨hlt,Pv (i+1),fun σ' H' p'=>⟨z.cps.size - (i+1),by omega,rfl,hlt,p'⟩,fun x H' y=>?_⟩
  obtain⟨e,c,hc,rfl⟩:=y
  subst e
  exact hs i c σ _ (by simpa using hc) p
 ·have e:i=z.cps.size:=by omega
  subst e
  exact .inl ⟨Nat.le_refl _,hd σ H p⟩
theorem zDb {lo:Int} {n:Nat} {tc:TT} {te:TE} {τ:St} {fin:List V->Hp->Prop} {H:Hp} (Pv:Nat->List V->Hp->Prop) (h0:Pv 0 [] H) (hz:∀ i ys H,i < n->Pv i ys H->ys.length < sizeLine)
  (hs:∀ i ys H,i < n->Pv i ys H->tc (some (.int (lo+i))::τ) H fun b H2=>if b=true then te (some (.int (lo+i))::τ) H2 (fun y H3=>Pv (i+1) (ys++[y]) H3) else Pv (i+1) ys H2) (hd:∀ ys H,Pv n ys H->fin ys H):J9 (Itr lo n) tc te τ fin H:=by
 refine⟨fun i m ys H=>m=n - i/\i<=n/\Pv i ys H,⟨n,by simp,Nat.zero_le _,h0⟩,?_⟩
 rintro i m ys H ⟨rfl,hi,p⟩
 by_cases hlt:i < n
 ·refine .inr ⟨hlt,hz i ys H hlt p,Pv (i+1),fun ys' H' p'=>⟨n - (i+1),by omega,rfl,hlt,p'⟩,fun x H' y=>?_⟩
  obtain⟨e,y⟩:=y
  subst e y
  exact hs i ys _ hlt p
 ·have e:i=n:=by omega
  subst e
  exact .inl ⟨Nat.le_refl _,hd ys H p⟩
theorem YH {K:W.Frag} {a:Addr} {xs:List V} {tc:TT} {te:TE} {τ:St} {fin:List V->Hp->Prop} {H:Hp} (Pv:Nat->List V->Hp->Prop) (h0:Pv 0 [] H) (hl:∀ i ys H,i<=xs.length->Pv i ys H->SqL K H a xs) (hz:∀ i ys H,i < xs.length->Pv i ys H->ys.length < sizeLine)
  (hs:∀ (i:Nat) x ys H,xs[i]? = some x->Pv i ys H->tc (some x::τ) H fun b H2=>if b=true then te (some x::τ) H2 (fun y H3=>Pv (i+1) (ys++[y]) H3) else Pv (i+1) ys H2) (hd:∀ ys H,Pv xs.length ys H->fin ys H):J9 (Itl K a) tc te τ fin H:=by
 refine⟨fun i m ys H=>m=xs.length - i/\i<=xs.length/\Pv i ys H,⟨xs.length,by simp,Nat.zero_le _,h0⟩,?_⟩
 rintro i m ys H ⟨rfl,hi,p⟩
 have q:=hl i ys H hi p
 by_cases hlt:i < xs.length
 ·refine .inr ⟨⟨xs,xs[i],q,by simp[hlt]⟩,hz i ys H hlt p,Pv (i+1),fun ys' H' p'=>⟨xs.length - (i+1),by omega,rfl,hlt,p'⟩,fun x H' y=>?_⟩
  obtain⟨e,y⟩:=y
  subst e
  exact hs i x ys _ (y xs q) p
 ·have e:i=xs.length:=by omega
  subst e
  exact .inl ⟨⟨xs,q,Nat.le_refl _⟩,hd ys H p⟩
theorem zF6 {K:W.Frag} {a:Addr} {xs:List V} {tc:TT} {te:TE} {τ:St} {fin:List V->Hp->Prop} {H:Hp} (Pv:Nat->List V->Hp->Prop) (h0:Pv 0 [] H) (hl:∀ i ys H,i<=xs.length->Pv i ys H->SqT K H a xs) (hz:∀ i ys H,i < xs.length->Pv i ys H->ys.length < sizeLine)
  (hs:∀ (i:Nat) x ys H,xs[i]? = some x->Pv i ys H->tc (some x::τ) H fun b H2=>if b=true then te (some x::τ) H2 (fun y H3=>Pv (i+1) (ys++[y]) H3) else Pv (i+1) ys H2) (hd:∀ ys H,Pv xs.length ys H->fin ys H):J9 (Itt K a) tc te τ fin H:=by
 refine⟨fun i m ys H=>m=xs.length - i/\i<=xs.length/\Pv i ys H,⟨xs.length,by simp,Nat.zero_le _,h0⟩,?_⟩
 rintro i m ys H ⟨rfl,hi,p⟩
 have q:=hl i ys H hi p
 by_cases hlt:i < xs.length
 ·refine .inr ⟨⟨xs,xs[i],q,by simp[hlt]⟩,hz i ys H hlt p,Pv (i+1),fun ys' H' p'=>⟨xs.length - (i+1),by omega,rfl,hlt,p'⟩,fun x H' y=>?_⟩
  obtain⟨e,y⟩:=y
  subst e
  exact hs i x ys _ (y xs q) p
 ·have e:i=xs.length:=by omega
  subst e
  exact .inl ⟨⟨xs,q,Nat.le_refl _⟩,hd ys H p⟩
def zMQ:V->Option Int->Option Int->Hp->VK->Prop:=fun x lo hi H Q=>∃ z,x=.str z/\z.length<=sizeLine/\Q (.str (Txt.slice z lo hi)) H
theorem zJj {s:Shared} {c:Prop} [Decidable c] {y z:Str} {t:Nat} {Q:Value->Shared->Prop} (ht:1<=s.toks) (h:(if c then y else z).length<=sizeLine/\∀ t' k,s.toks<=k->Q (.str (if c then y else z) (t'+1)) { s with toks:=k }) :
  (if c then Made.val (.str y (t+1)) else Made.str z).post Q s:=by
 by_cases hc:c
 ·rw[if_pos hc];have h':=h.2 t s.toks (Nat.le_refl _);rw[if_pos hc] at h';exact h'
 ·rw[if_neg hc];have h':=h.2 (s.toks - 1) (s.toks+1) (Nat.le_succ _);have h1:=h.1;rw[if_neg hc,Nat.sub_add_cancel ht] at h';rw[if_neg hc] at h1;exact⟨h1,h'⟩
theorem zG6:SlR X zMQ:=by
 intro pins s σ H x v vl vu lo hi sl Q I rx hs pl pu h
 obtain⟨z,rfl,hz,q⟩:=h
 obtain⟨t,rfl⟩:=rx
 have fin:(if ((1:Int) == 1 && (Builtin.Str.strSliceIndices lo hi 1 z.length).length == z.length)=true then Made.val (.str z (t+1)) else Made.str ⟨((Builtin.Str.strSliceIndices lo hi 1 z.length).filterMap (z.cps[·]?)).toArray⟩).post (EP X pins σ Q) s :=
  zJj I.tk ⟨Nat.le_trans (Txt.slice_le z lo hi) hz,fun t' k hk=>⟨.str (Txt.slice z lo hi),H,I.tok _ (Nat.le_trans I.tk hk),⟨t',rfl⟩,q⟩⟩
 refine⟨"str",_,PySem.F.slot_str_getitem.lookup,typeIs_str _ _ _,?_⟩
 cases pl with
 | none =>
  cases pu with
  | none=>exact wpAny_getItem_str_slice (l:=none) (u:=none) (st:=none) hs rfl fin
  | int j tj=>exact wpAny_getItem_str_slice (l:=none) (u:=some (j,tj)) (st:=none) hs rfl fin
 | int i ti =>
  cases pu with
  | none=>exact wpAny_getItem_str_slice (l:=some (i,ti)) (u:=none) (st:=none) hs rfl fin
  | int j tj=>exact wpAny_getItem_str_slice (l:=some (i,ti)) (u:=some (j,tj)) (st:=none) hs rfl fin
end
end L2
namespace L2
open PySem PySem.Spec PyProof.Rows
theorem zJR {c d:Nat}:(one c=one d)=(c=d):=by
 unfold one
 refine propext ⟨fun h=>?_,fun h=>by rw[h]⟩
 injection h with h1
 injection h1 with h2
 simpa using h2
def zLv:List V->Hp->VK->Prop:=fun xs H Q=>∃ c:Nat,xs=[one c]/\Q (.int c) H
theorem zBQ {X:Cx}:Yf X (.builtin "ord") zLv:=by
 intro pins s σ H xs us Q I r h
 obtain⟨c,rfl,q⟩:=h
 exact zHq pins s σ H _ us Q I r ⟨⟨#[c]⟩,rfl,rfl,q⟩
def tst (cs:List Nat):Int:=cs.foldl (fun (h:Int) (c:Nat)=>(31*h+(c:Int)) % 2147483647) 7
theorem zEA (cs:List Nat):∀ h:Int,0<=h->h < 2147483647->0<=cs.foldl (fun (h:Int) (c:Nat)=>(31*h+(c:Int)) % 2147483647) h/\cs.foldl (fun (h:Int) (c:Nat)=>(31*h+(c:Int)) % 2147483647) h < 2147483647:=by
 induction cs with
 | nil=>intro h h0 h1;exact⟨h0,h1⟩
 | cons c r ih =>
  intro h h0 h1
  rw[List.foldl_cons]
  exact ih _ (by omega) (by omega)
theorem zGd (cs:List Nat):0<=tst cs/\tst cs < 2147483647:=zEA cs 7 (by decide) (by decide)
theorem zDU (cs:List Nat) (c:Nat):tst (cs++[c])=(31*tst cs+(c:Int)) % 2147483647:=by unfold tst;rw[List.foldl_append];rfl
theorem YK {α:Type} {l:List α} {i:Nat} {c:α} (h:l[i]? = some c):l.take (i+1)=l.take i++[c]:=by
 rw[List.take_add_one,h];rfl
inductive Kd where
 | num (i:Int)
 | txt (x:Str)
 | tup (ks:List Kd)
mutual
def Kd.st:Kd->Int
 | .num i=>i % 2147483647
 | .txt x=>tst x.cps.toList
 | .tup ks=>Kd.stL 11 ks
def Kd.stL:Int->List Kd->Int
 | h,[]=>h
 | h,k::r=>Kd.stL ((Builtin.bitXor (1000003*h) k.st) % 2147483647) r
end
mutual
def Kd.deep:Kd->Nat
 | .num _=>0
 | .txt _=>0
 | .tup ks=>Kd.deepL ks+1
def Kd.deepL:List Kd->Nat
 | []=>0
 | k::r=>max k.deep (Kd.deepL r)
end
mutual
def IsK (H:Hp):Kd->V->Prop
 | .num i,v=>v=.int i
 | .txt x,v=>v=.str x
 | .tup ks,v=>∃ a vs,v=.ref a/\H a=some (.tup vs)/\vs.length<=1000/\IsKs H ks vs
def IsKs (H:Hp):List Kd->List V->Prop
 | [],vs=>vs=[]
 | k::r,vs=>∃ v vr,vs=v::vr/\IsK H k v/\IsKs H r vr
end
def TupS (H H':Hp):Prop:=∀ b xs,H b=some (.tup xs)->H' b=some (.tup xs)
theorem Same.tups {H H':Hp} (s:Same H H'):TupS H H':=fun b xs h=>s b _ h
theorem TupS.trans {H H1 H2:Hp} (a:TupS H H1) (b:TupS H1 H2):TupS H H2:=fun c xs h=>b c xs (a c xs h)
theorem YF {H:Hp} {a:Addr} {o:HO} {ys:List V} (h:H a=some (.lst ys)):TupS H (upd H a o):=fun b xs e=>by
 rw[QH (zL2 e h (by intro z;cases z))];exact e
theorem QE {H:Hp} {a:Addr} {o:HO} (h:H a=none):Same H (upd H a o):=fun b u e=>by rw[QH (QJ e h)];exact e
theorem Same.upd {H0 H:Hp} {a:Addr} {o:HO} (s:Same H0 H) (h:H0 a=none):Same H0 (upd H a o):=fun b u e=>by rw[QH (QJ e h)];exact s b u e
mutual
theorem IsK.same {H H':Hp} (s:TupS H H'):∀ {k:Kd} {v:V},IsK H k v->IsK H' k v
 | .num _,_,h=>by unfold IsK at h ⊢;exact h
 | .txt _,_,h=>by unfold IsK at h ⊢;exact h
 | .tup ks,_,h=>by
  unfold IsK at h ⊢
  obtain⟨a,vs,e,ha,hz,hk⟩:=h
  exact⟨a,vs,e,s _ _ ha,hz,IsKs.same s hk⟩
theorem IsKs.same {H H':Hp} (s:TupS H H'):∀ {ks:List Kd} {vs:List V},IsKs H ks vs->IsKs H' ks vs
 | [],_,h=>by unfold IsKs at h ⊢;exact h
 | k::r,_,h=>by
  unfold IsKs at h ⊢
  obtain⟨v,vr,e,h1,h2⟩:=h
  exact⟨v,vr,e,IsK.same s h1,IsKs.same s h2⟩
end
theorem IsKs.length {H:Hp}:∀ {ks:List Kd} {vs:List V},IsKs H ks vs->vs.length=ks.length
 | [],_,h=>by unfold IsKs at h;rw[h];rfl
 | k::r,_,h=>by
  unfold IsKs at h
  obtain⟨v,vr,rfl,_,h2⟩:=h
  rw[List.length_cons,List.length_cons,IsKs.length h2]
theorem IsKs.get {H:Hp}:∀ {ks:List Kd} {vs:List V} {i:Nat} {v:V},IsKs H ks vs->vs[i]? = some v->∃ k,ks[i]? = some k/\IsK H k v
 | [],_,i,v,h,e=>by unfold IsKs at h;rw[h] at e;simp at e
 | k::r,_,0,v,h,e=>by
  unfold IsKs at h
  obtain⟨w,vr,rfl,h1,_⟩:=h
  simp at e;subst e
  exact⟨k,rfl,h1⟩
 | k::r,_,i+1,v,h,e=>by
  unfold IsKs at h
  obtain⟨w,vr,rfl,_,h2⟩:=h
  obtain⟨k',e1,e2⟩:=IsKs.get (i:=i) h2 (by simpa using e)
  exact⟨k',by simpa using e1,e2⟩
theorem IsKs.snoc {H:Hp} {k:Kd} {v:V}:∀ {ks:List Kd} {vs:List V},IsKs H ks vs->IsK H k v->IsKs H (ks++[k]) (vs++[v])
 | [],_,h,q=>by
  unfold IsKs at h;subst h
  show IsKs H [k] [v]
  unfold IsKs
  exact⟨v,[],rfl,q,by unfold IsKs;rfl⟩
 | k'::r,_,h,q=>by
  unfold IsKs at h
  obtain⟨w,vr,rfl,h1,h2⟩:=h
  show IsKs H (k'::(r++[k])) (w::(vr++[v]))
  unfold IsKs
  exact⟨w,vr++[v],rfl,h1,h2.snoc q⟩
theorem IsKs.nil {H:Hp}:IsKs H [] []:=by unfold IsKs;rfl
theorem Kd.deep_le {k:Kd}:∀ {ks:List Kd},k∈ks->k.deep<=Kd.deepL ks
 | [],h=>by cases h
 | k'::r,h=>by
  unfold Kd.deepL
  rcases List.mem_cons.mp h with e | e
  ·subst e;exact Nat.le_max_left _ _
  ·exact Nat.le_trans (Kd.deep_le e) (Nat.le_max_right _ _)
theorem Kd.deepL_le {n:Nat}:∀ {ks:List Kd},(∀ k∈ks,k.deep<=n)->Kd.deepL ks<=n
 | [],_=>by unfold Kd.deepL;exact Nat.zero_le _
 | k::r,h=>by
  unfold Kd.deepL
  exact Nat.max_le.mpr ⟨h k List.mem_cons_self,Kd.deepL_le fun k' hk=>h k' (List.mem_cons_of_mem _ hk)⟩
theorem Kd.stL_snoc (k:Kd):∀ (ks:List Kd) (h:Int),Kd.stL h (ks++[k])=(Builtin.bitXor (1000003*Kd.stL h ks) k.st) % 2147483647
 | [],h=>by rw[List.nil_append];unfold Kd.stL;unfold Kd.stL;rfl
 | k'::r,h=>by
  rw[List.cons_append]
  show Kd.stL _ (r++[k])=_
  rw[Kd.stL_snoc k r]
  rfl
theorem Kd.stL_range:∀ (ks:List Kd) (h:Int),0<=h->h < 2147483647->0<=Kd.stL h ks/\Kd.stL h ks < 2147483647
 | [],h,h0,h1=>by unfold Kd.stL;exact⟨h0,h1⟩
 | k::r,h,h0,h1=>by unfold Kd.stL;exact Kd.stL_range r _ (by omega) (by omega)
theorem Kd.st_range (k:Kd):0<=k.st/\k.st < 2147483647:=by
 cases k with
 | num i=>unfold Kd.st;omega
 | txt x=>unfold Kd.st;exact zGd _
 | tup ks=>unfold Kd.st;exact Kd.stL_range ks 11 (by decide) (by decide)
end L2
namespace L2
open PySem PySem.Spec PyProof.Rows
def mx:Option Int->List Int->Option Int
 | o,[]=>o
 | none,x::r=>mx (some x) r
 | some b,x::r=>mx (some (if x > b then x else b)) r
section
variable {X:Cx}
def WB (n:Nat) (lo hi:Option Int):Prop:=HT.sIx n 0 lo=0/\HT.sIx n n hi=n
instance {n:Nat} {lo hi:Option Int}:Decidable (WB n lo hi):=by unfold WB;exact inferInstance
end
end L2
namespace L2
open PySem PySem.Spec PyProof.Rows
def RowAt (H:Hp) (r:Addr) (ks:List Kd):Prop:=∃ vs,H r=some (.lst vs)/\IsKs H ks vs
structure Stk (H0 H:Hp) (R:Addr) (rs:List Addr) (kss:List (List Kd)):Prop where
 hR:H R=some (.lst (rs.map V.ref))
 R0:H0 R=none
 rs0:∀ r∈rs,H0 r=none
 nR:R ∉ rs
 nd:rs.Nodup
 rows:Paired (RowAt H) rs kss
 same:Same H0 H
theorem YV {α β:Type} {F G:α->β->Prop}:∀ {l:List α} {l':List β},Paired F l l'->(∀ a∈l,∀ b,F a b->G a b)->Paired G l l'
 | _,_,.nil,_=>.nil
 | _,_,.cons r t,h=>.cons (h _ List.mem_cons_self _ r) (YV t fun a ha b=>h a (List.mem_cons_of_mem _ ha) b)
theorem Ys {α β:Type} {F:α->β->Prop} {a:α} {b:β}:∀ {l:List α} {l':List β},Paired F l l'->F a b->Paired F (l++[a]) (l'++[b])
 | _,_,.nil,h=>.cons h .nil
 | _,_,.cons r t,h=>.cons r (Ys t h)
section
variable {H0 H H':Hp} {R r:Addr} {rs:List Addr} {kss:List (List Kd)} {ks:List Kd} {k:Kd} {v:V} {vs:List V}
theorem RowAt.ts (h:RowAt H r ks) (e:∀ vs,H r=some (.lst vs)->H' r=some (.lst vs)) (t:TupS H H'):RowAt H' r ks:=by
 obtain⟨vs,h1,h2⟩:=h
 exact⟨vs,e vs h1,h2.same t⟩
end
structure Shape (kss:List (List Kd)):Prop where
 lo:1<=kss.length
 hi:kss.length<=3
 deep:∀ (j:Nat) ks,kss[j]? = some ks->∀ k∈ks,k.deep+j<=2
 len:∀ (j:Nat) ks,kss[j]? = some ks->ks.length<=6
 room:∀ (j:Nat) ks,kss[j]? = some ks->j+1 < kss.length->ks.length<=5
end L2
namespace L2
open PySem PySem.Spec PyProof.Rows
theorem zKz {α:Type} {l:List α} {i:Int} (h0:0<=i) (h1:i < l.length):∃ c,atI l i=some c:=by
 have hk:i.toNat < l.length:=by omega
 refine⟨l[i.toNat],?_⟩
 have e:i=((i.toNat:Nat):Int):=by omega
 have q:atI l ((i.toNat:Nat):Int)=some l[i.toNat]:=YM (by simp[hk])
 rw[← e] at q
 exact q
end L2
namespace L2
open PySem PySem.Spec PyProof.Rows
def zAa:List V->Hp->VK->Prop
 | [.ref p],H,Q=>match H p with
  | some (.lst xs)=>Q (.int xs.length) H
  | some (.tup xs)=>Q (.int xs.length) H
  | _=>False
 | [.str z],H,Q=>z.length<=sizeLine/\Q (.int z.length) H
 | _,_,_=>False
def ixC:R2
 | .ref p,.int i,H,Q=>match H p with
  | some (.lst xs)=>(match atI xs i with | some v=>Q v H | none=>False)
  | some (.tup xs)=>(match atI xs i with | some v=>Q v H | none=>False)
  | _=>False
 | _,_,_,_=>False
def zK2:V->List V->Hp->VK->Prop
 | .ref l,[y],H,Q=>match H l with
  | some (.lst xs)=>xs.length < sizeLine/\Q .non (upd H l (.lst (xs++[y])))
  | _=>False
 | _,_,_,_=>False
def zJv:List V->Hp->VK->Prop
 | [.ref p],H,Q=>match H p with
  | some (.lst ys)=>∀ t,H t=none->Q (.ref t) (upd H t (.tup ys))
  | some (.tup _)=>Q (.ref p) H
  | _=>False
 | _,_,_=>False
section
variable {X:Cx}
theorem QW:Yf X (.builtin "len") zAa:=by
 intro pins s σ H xs us Q I r h
 match xs,h with
 | [.ref p],h =>
  have h':(match H p with | some (.lst xs)=>Q (.int xs.length) H | some (.tup xs)=>Q (.int xs.length) H | _=>False):=h
  cases e:H p with
  | none=>rw[e] at h';exact h'.elim
  | some o =>
   rw[e] at h'
   cases o with
   | lst ys=>exact ZY pins s σ H _ us Q I r ⟨p,ys,rfl,.inl (SqL.of e),h'⟩
   | tup ys=>exact ZY pins s σ H _ us Q I r ⟨p,ys,rfl,.inr (SqT.of e),h'⟩
   | _=>exact h'.elim
 | [.str z],h =>
  have h':z.length<=sizeLine/\Q (.int z.length) H:=h
  exact zCY pins s σ H _ us Q I r ⟨z,rfl,h'.1,h'.2⟩
theorem YL:IxR X ixC:=by
 intro value slice pins s σ H x y v u Q I rx ry h hs
 match x,y,h with
 | .ref p,.int i,h =>
  have h':(match H p with | some (.lst xs)=>(match atI xs i with | some v=>Q v H | none=>False) | some (.tup xs)=>(match atI xs i with | some v=>Q v H | none=>False) | _=>False):=h
  cases e:H p with
  | none=>rw[e] at h';exact h'.elim
  | some o =>
   rw[e] at h'
   cases o with
   | lst ys =>
    have h2:(match atI ys i with | some v=>Q v H | none=>False):=h'
    cases e2:atI ys i with
    | none=>rw[e2] at h2;exact h2.elim
    | some z=>rw[e2] at h2;exact zFi value slice pins s σ H _ _ v u Q I rx ry ⟨p,ys,i,z,rfl,rfl,SqL.of e,e2,h2⟩ hs
   | tup ys =>
    have h2:(match atI ys i with | some v=>Q v H | none=>False):=h'
    cases e2:atI ys i with
    | none=>rw[e2] at h2;exact h2.elim
    | some z=>rw[e2] at h2;exact zKm value slice pins s σ H _ _ v u Q I rx ry ⟨p,ys,i,z,rfl,rfl,SqT.of e,e2,h2⟩ hs
   | _=>exact h'.elim
theorem ZH:MtR X "list.append" zK2:=by
 intro pins s σ H x xs v us Q I rx rv h
 match x,xs,h with
 | .ref l,[y],h =>
  have h':(match H l with | some (.lst xs)=>xs.length < sizeLine/\Q .non (upd H l (.lst (xs++[y]))) | _=>False):=h
  cases e:H l with
  | none=>rw[e] at h';exact h'.elim
  | some o =>
   rw[e] at h'
   cases o with
   | lst ys=>exact zF0 pins s σ H _ _ v us Q I rx rv ⟨l,ys,y,rfl,rfl,e,h'.1,h'.2⟩
   | _=>exact h'.elim
theorem zBc:Yf X (.type "tuple") zJv:=by
 intro pins s σ H xs us Q I r h
 match xs,h with
 | [.ref p],h =>
  have h':(match H p with | some (.lst ys)=>∀ t,H t=none->Q (.ref t) (upd H t (.tup ys)) | some (.tup _)=>Q (.ref p) H | _=>False):=h
  cases e:H p with
  | none=>rw[e] at h';exact h'.elim
  | some o =>
   rw[e] at h'
   cases o with
   | lst ys=>exact WH pins s σ H _ us Q I r ⟨p,ys,rfl,.inl ⟨SqL.of e,h'⟩⟩
   | tup ys=>exact WH pins s σ H _ us Q I r ⟨p,ys,rfl,.inr ⟨SqT.of e,h'⟩⟩
   | _=>exact h'.elim
end
section
variable {H:Hp} {Q:VK} {p:Addr} {xs:List V} {i:Int} {v y:V} {K:W.Frag}
theorem Qe (h:H p=some (.lst xs)):zAa [.ref p] H Q=Q (.int xs.length) H:=by
 show (match H p with | some (.lst xs)=>Q (.int xs.length) H | some (.tup xs)=>Q (.int xs.length) H | _=>False)=_
 rw[h]
theorem zCt (h:H p=some (.tup xs)):zAa [.ref p] H Q=Q (.int xs.length) H:=by
 show (match H p with | some (.lst xs)=>Q (.int xs.length) H | some (.tup xs)=>Q (.int xs.length) H | _=>False)=_
 rw[h]
theorem Q4 (h:H p=some (.lst xs)) (e:atI xs i=some v):ixC (.ref p) (.int i) H Q=Q v H:=by
 show (match H p with | some (.lst xs)=>(match atI xs i with | some v=>Q v H | none=>False) | some (.tup xs)=>(match atI xs i with | some v=>Q v H | none=>False) | _=>False)=_
 rw[h];dsimp only;rw[e]
theorem Q2 (h:H p=some (.tup xs)) (e:atI xs i=some v):ixC (.ref p) (.int i) H Q=Q v H:=by
 show (match H p with | some (.lst xs)=>(match atI xs i with | some v=>Q v H | none=>False) | some (.tup xs)=>(match atI xs i with | some v=>Q v H | none=>False) | _=>False)=_
 rw[h];dsimp only;rw[e]
theorem Ym (h:H p=some (.lst xs)):zK2 (.ref p) [y] H Q=(xs.length < sizeLine/\Q .non (upd H p (.lst (xs++[y])))):=by
 show (match H p with | some (.lst xs)=>xs.length < sizeLine/\Q .non (upd H p (.lst (xs++[y]))) | _=>False)=_
 rw[h]
theorem zAm (h:H p=some (.lst xs)):zJv [.ref p] H Q=∀ t,H t=none->Q (.ref t) (upd H t (.tup xs)):=by
 show (match H p with | some (.lst ys)=>∀ t,H t=none->Q (.ref t) (upd H t (.tup ys)) | some (.tup _)=>Q (.ref p) H | _=>False)=_
 rw[h]
theorem zCl (h:H p=some (.lst xs)):tyV K "list" (.ref p) H=True:=eq_true (.inl ⟨rfl,xs,SqL.of h⟩)
theorem zJe {z:Str}:tyV K "str" (.str z) H=True:=eq_true rfl
end
end L2
namespace L2
open PySem PySem.Spec PyProof.Rows
theorem zFq (bs:List Bool):(List.range bs.length).all (fun i=>bs.getD i true)=bs.all id:=by
 rw[Bool.eq_iff_iff,List.all_eq_true,List.all_eq_true]
 constructor
 ·intro h b hb
  obtain⟨i,hi,e⟩:=List.mem_iff_getElem.mp hb
  have:=h i (List.mem_range.mpr hi)
  rw[List.getD_eq_getElem?_getD,List.getElem?_eq_getElem hi] at this
  rw[← e];exact this
 ·intro h i hi
  have hi':=List.mem_range.mp hi
  rw[List.getD_eq_getElem?_getD,List.getElem?_eq_getElem hi']
  exact h _ (List.getElem_mem hi')
section
variable {X:Cx}
def zMO (K:W.Frag):List V->Hp->VK->Prop:=fun xs H Q=>∃ (l:Addr) (bs:List Bool),xs=[.ref l]/\SqL K H l (bs.map V.bl)/\Q (.bl (bs.all id)) H
theorem zAZ (hc:X.calm=true):Yf X (.builtin "all") (zMO X.K):=by
 intro pins s σ H xs us Q I r h
 obtain⟨l,bs,rfl,hq,q⟩:=h
 obtain⟨u,rfl,rx⟩:=Ww r
 cases rx
 obtain⟨its,r',pl,hz⟩:=I.list hq
 have hl:s.heap.IsList l its.toArray:=pl.isList
 have hlt:l < s.heap.objs.size:=by obtain⟨_,e,_⟩:=hl;exact Heap.lt_size e
 have hlen:=r'.length
 rw[List.length_map] at hlen
 refine zDF (call_all_walk (wpAny_pyIter_list hl ?_))
 refine⟨s.heap.objs.size,_,_,_,_,_,fun i=>bs.getD i true,rfl,Walks.list (A:=X.A.in1) (I.ok.hd hc) s.heap.objs.size l (Nat.ne_of_lt hlt) its.toArray,⟨⟨_,Heap.get?_push_size _ rfl,rfl,rfl⟩,?_⟩,?_,?_⟩
 ·obtain⟨o,e,r⟩:=hl
  exact⟨o,Heap.get?_push_of_some _ e,r⟩
 ·intro i v s' Q' E' hv hQ
  have hv':its[i]? = some v:=by simpa using hv
  have hi:i < its.length:=(List.getElem?_eq_some_iff.mp hv').1
  obtain⟨u,e1,e2⟩:=r'.get (i:=i) (x:=V.bl (bs.getD i true)) (by
   rw[List.getElem?_map,List.getElem?_eq_getElem (by omega),List.getD_eq_getElem?_getD,List.getElem?_eq_getElem (by omega)];rfl)
  rw[e1] at hv'
  cases hv'
  cases e2
  exact wpAny_truthy_bool hQ
 ·intro h' tk hk hh
  have e:its.toArray.size=bs.length:=by simp[hlen]
  rw[e,zFq]
  refine⟨.bl (bs.all id),H,I.kept (t':=tk) (fun b o e=>hk b o ?_ (Heap.get?_push_of_some _ e)) (Nat.le_trans I.tk hh),rfl,q⟩
  intro hb
  rw[List.mem_singleton.mp hb] at e
  exact Nat.lt_irrefl _ (Heap.lt_size e)
def zLy:R2:=fun x y H Q=>∃ b c,x=.bl b/\y=.bl c/\Q (.bl (b != c)) H
theorem zGM:OpR X (compareOp .IsNot) zLy:=by
 intro pins s σ H x y v u Q I rx ry h
 obtain⟨b,c,rfl,rfl,q⟩:=h
 cases rx
 cases ry
 exact isnot_bool ⟨.bl (b != c),H,I,rfl,q⟩
end
mutual
def Kd.eqb:Kd->Kd->Bool
 | .num i,.num j=>i == j
 | .txt x,.txt y=>x == y
 | .tup ks,.tup ls=>Kd.eqbL ks ls
 | .num _,.txt _=>false
 | .num _,.tup _=>false
 | .txt _,.num _=>false
 | .txt _,.tup _=>false
 | .tup _,.num _=>false
 | .tup _,.txt _=>false
def Kd.eqbL:List Kd->List Kd->Bool
 | [],[]=>true
 | k::r,l::q=>k.eqb l && Kd.eqbL r q
 | [],_::_=>false
 | _::_,[]=>false
end
mutual
theorem Kd.eqb_eq:∀ {k l:Kd},k.eqb l=true->k=l
 | .num i,.num j,h=>by unfold Kd.eqb at h;rw[eq_of_beq h]
 | .txt i,.txt j,h=>by unfold Kd.eqb at h;rw[eq_of_beq h]
 | .tup ks,.tup ls,h=>by unfold Kd.eqb at h;rw[Kd.eqbL_eq h]
 | .num _,.txt _,h=>by unfold Kd.eqb at h;cases h
 | .num _,.tup _,h=>by unfold Kd.eqb at h;cases h
 | .txt _,.num _,h=>by unfold Kd.eqb at h;cases h
 | .txt _,.tup _,h=>by unfold Kd.eqb at h;cases h
 | .tup _,.num _,h=>by unfold Kd.eqb at h;cases h
 | .tup _,.txt _,h=>by unfold Kd.eqb at h;cases h
theorem Kd.eqbL_eq:∀ {k l:List Kd},Kd.eqbL k l=true->k=l
 | [],[],_=>rfl
 | k::r,l::q,h=>by
  unfold Kd.eqbL at h
  rw[Bool.and_eq_true] at h
  rw[Kd.eqb_eq h.1,Kd.eqbL_eq h.2]
 | [],_::_,h=>by unfold Kd.eqbL at h;cases h
 | _::_,[],h=>by unfold Kd.eqbL at h;cases h
end
mutual
theorem IsK.inj {H:Hp}:∀ {k l:Kd} {v:V},IsK H k v->IsK H l v->k.eqb l=true
 | .num i,.num j,v,h,h'=>by unfold IsK at h h';subst h;cases h';unfold Kd.eqb;exact beq_self_eq_true _
 | .txt i,.txt j,v,h,h'=>by unfold IsK at h h';subst h;cases h';unfold Kd.eqb;exact beq_self_eq_true _
 | .tup ks,.tup ls,v,h,h'=>by
  unfold IsK at h h'
  obtain⟨a,vs,rfl,e,_,q⟩:=h
  obtain⟨a',vs',e1,e',_,q'⟩:=h'
  cases e1
  rw[e] at e'
  cases e'
  unfold Kd.eqb
  exact IsKs.inj q q'
 | .num _,.txt _,v,h,h'=>by unfold IsK at h h';subst h;cases h'
 | .num _,.tup _,v,h,h'=>by unfold IsK at h h';subst h;obtain⟨_,_,e,_⟩:=h';cases e
 | .txt _,.num _,v,h,h'=>by unfold IsK at h h';subst h;cases h'
 | .txt _,.tup _,v,h,h'=>by unfold IsK at h h';subst h;obtain⟨_,_,e,_⟩:=h';cases e
 | .tup _,.num _,v,h,h'=>by unfold IsK at h h';subst h';obtain⟨_,_,e,_⟩:=h;cases e
 | .tup _,.txt _,v,h,h'=>by unfold IsK at h h';subst h';obtain⟨_,_,e,_⟩:=h;cases e
theorem IsKs.inj {H:Hp}:∀ {k l:List Kd} {v:List V},IsKs H k v->IsKs H l v->Kd.eqbL k l=true
 | [],[],_,_,_=>by unfold Kd.eqbL;rfl
 | k::r,l::q,v,h,h'=>by
  unfold IsKs at h h'
  obtain⟨a,vr,rfl,h1,h2⟩:=h
  obtain⟨a',vr',e,h1',h2'⟩:=h'
  obtain⟨rfl,rfl⟩:=List.cons.inj e
  unfold Kd.eqbL
  rw[IsK.inj h1 h1',IsKs.inj h2 h2'];rfl
 | [],_::_,v,h,h'=>by unfold IsKs at h h';subst h;obtain⟨_,_,e,_⟩:=h';cases e
 | _::_,[],v,h,h'=>by unfold IsKs at h h';subst h';obtain⟨_,_,e,_⟩:=h;cases e
end
def J8 (ks ls:List Kd) (j:Nat):Bool:=match ks[j]?,ls[j]? with
 | some k,some l=>k.eqb l
 | _,_=>true
theorem zBM:∀ (ks ls:List Kd),((List.range (min ks.length ls.length)).all (J8 ks ls) && ks.length == ls.length)=Kd.eqbL ks ls
 | [],[]=>by unfold Kd.eqbL;rfl
 | [],l::q=>by unfold Kd.eqbL;simp
 | k::r,[]=>by unfold Kd.eqbL;simp
 | k::r,l::q=>by
  unfold Kd.eqbL
  rw[← zBM r q]
  have e:min (k::r).length (l::q).length=min r.length q.length+1:=by simp only[List.length_cons];omega
  rw[e,List.range_succ_eq_map,List.all_cons,List.all_map]
  have e1:J8 (k::r) (l::q) 0=k.eqb l:=rfl
  have e2:(J8 (k::r) (l::q) ∘ Nat.succ)=J8 r q:=by funext j;rfl
  have e3:((k::r).length == (l::q).length)=(r.length == q.length):=by
   rw[Bool.eq_iff_iff,beq_iff_eq,beq_iff_eq];simp
  rw[e1,e2,e3,Bool.and_assoc]
section
variable {X:Cx} {pins:List (Addr × Obj)} {σ:St} {H:Hp} {s:Shared}
theorem zBf (I:Inv X pins σ H s) {A:Around} {a b:Addr} {ks ls:List Kd} {vs ws:List V} (ha:H a=some (.tup vs)) (hb:H b=some (.tup ws)) (hk:IsKs H ks vs) (hl:IsKs H ls ws) (hu:A.units < cLine)
  (ih:∀ {k k':Kd} {x y:V} {u v:Value},k∈ks->IsK H k x->IsK H k' y->RelV x u->RelV y v->SeqAt.EqAt A.in1 s u v (k.eqb k')):SeqAt.RcAt A s (.ref a) (.ref b) (Kd.eqbL ks ls):=by
 obtain⟨its,r1,p1,_⟩:=I.tuple (SqT.of ha)
 obtain⟨its',r2,p2,_⟩:=I.tuple (SqT.of hb)
 have n1:=r1.length
 have n2:=r2.length
 have m1:=hk.length
 have m2:=hl.length
 have z:=SeqAt.RcAt.tuples (A:=A) (s:=s) (l:=a) (b:=b) (e:=J8 ks ls) p1 p2 hu (fun j h1 h2=>?_)
 ·have e1:its.toArray.size=ks.length:=by rw[List.size_toArray];omega
  have e2:its'.toArray.size=ls.length:=by rw[List.size_toArray];omega
  rw[e1,e2,zBM] at z
  exact z
 ·rw[List.size_toArray] at h1 h2
  have g1:vs[j]? = some vs[j]:=List.getElem?_eq_getElem (by omega)
  have g2:ws[j]? = some ws[j]:=List.getElem?_eq_getElem (by omega)
  obtain⟨u,eu,ru⟩:=r1.get g1
  obtain⟨v,ev,rv⟩:=r2.get g2
  obtain⟨k,ek,ik⟩:=hk.get g1
  obtain⟨l,el,il⟩:=hl.get g2
  have q:=ih (List.mem_of_getElem? ek) ik il ru rv
  have f1:its.toArray[j]=u:=by
   have:=(List.getElem?_eq_some_iff.mp eu).2
   simpa using this
  have f2:its'.toArray[j]=v:=by
   have:=(List.getElem?_eq_some_iff.mp ev).2
   simpa using this
  have f3:J8 ks ls j=k.eqb l:=by unfold J8;rw[ek,el]
  rw[f1,f2,f3]
  exact q
theorem zD6 (I:Inv X pins σ H s):∀ (n:Nat) {k k':Kd} {x y:V} {u v:Value} {A:Around},k.deep<=n->IsK H k x->IsK H k' y->RelV x u->RelV y v->A.units+n < cLine->SeqAt.EqAt A s u v (k.eqb k'):=by
 intro n
 induction n with
 | zero =>
  intro k k' x y u v A hd hk hk' rx ry hu
  cases k with
  | num i =>
   unfold IsK at hk;subst hk;obtain⟨t,rfl⟩:=rx
   cases k' with
   | num j=>unfold IsK at hk';subst hk';obtain⟨t',rfl⟩:=ry;unfold Kd.eqb;exact SeqAt.EqAt.int_int _ _ _ _
   | txt j=>unfold IsK at hk';subst hk';obtain⟨t',rfl⟩:=ry;unfold Kd.eqb;exact SeqAt.EqAt.int_str _ _ _ _
   | tup ls =>
    unfold IsK at hk';obtain⟨b,ws,rfl,hb,_,_⟩:=hk';cases ry
    obtain⟨its',r2,p2,_⟩:=I.tuple (SqT.of hb)
    unfold Kd.eqb;exact SeqAt.EqAt.int_tuple _ _ p2 (by omega)
  | txt i =>
   unfold IsK at hk;subst hk;obtain⟨t,rfl⟩:=rx
   cases k' with
   | num j=>unfold IsK at hk';subst hk';obtain⟨t',rfl⟩:=ry;unfold Kd.eqb;exact SeqAt.EqAt.str_int _ _ _ _
   | txt j=>unfold IsK at hk';subst hk';obtain⟨t',rfl⟩:=ry;unfold Kd.eqb;exact SeqAt.EqAt.str_str _ _ _ _
   | tup ls =>
    unfold IsK at hk';obtain⟨b,ws,rfl,hb,_,_⟩:=hk';cases ry
    obtain⟨its',r2,p2,_⟩:=I.tuple (SqT.of hb)
    unfold Kd.eqb;exact SeqAt.EqAt.str_tuple _ _ p2 (by omega)
  | tup ks=>unfold Kd.deep at hd;omega
 | succ n ih =>
  intro k k' x y u v A hd hk hk' rx ry hu
  cases k with
  | num i=>exact ih (by unfold Kd.deep;omega) hk hk' rx ry (by omega)
  | txt i=>exact ih (by unfold Kd.deep;omega) hk hk' rx ry (by omega)
  | tup ks =>
   have hk0:=hk
   unfold IsK at hk;obtain⟨a,vs,rfl,ha,_,hks⟩:=hk;cases rx
   obtain⟨its,r1,p1,_⟩:=I.tuple (SqT.of ha)
   cases k' with
   | num j=>unfold IsK at hk';subst hk';obtain⟨t',rfl⟩:=ry;unfold Kd.eqb;exact SeqAt.EqAt.tuple_int _ _ p1 (by omega)
   | txt j=>unfold IsK at hk';subst hk';obtain⟨t',rfl⟩:=ry;unfold Kd.eqb;exact SeqAt.EqAt.tuple_str _ _ p1 (by omega)
   | tup ls =>
    have hk1:=hk'
    unfold IsK at hk';obtain⟨b,ws,rfl,hb,_,hls⟩:=hk';cases ry
    by_cases e:a=b
    ·subst e
     rw[hk0.inj hk1]
     exact SeqAt.EqAt.same _
    ·unfold Kd.eqb
     unfold Kd.deep at hd
     exact SeqAt.EqAt.of_refs e (zBf I ha hb hks hls (by omega) fun hm i1 i2 q1 q2=>ih (Nat.le_trans (Kd.deep_le hm) (by omega)) i1 i2 q1 q2 (by show A.units+1+n < cLine;omega))
theorem zId (I:Inv X pins σ H s) {n:Nat} {k k':Kd} {x y:V} {u v:Value} {A:Around} (hd:k.deep<=n) (hk:IsK H k x) (hk':IsK H k' y) (rx:RelV x u) (ry:RelV y v) (hu:A.units+n < cLine):SeqAt.RcAt A s u v (k.eqb k'):=by
 cases k with
 | num i =>
  unfold IsK at hk;subst hk;obtain⟨t,rfl⟩:=rx
  cases k' with
  | num j=>unfold IsK at hk';subst hk';obtain⟨t',rfl⟩:=ry;unfold Kd.eqb;exact SeqAt.RcAt.int_int _ _ _ _
  | txt j=>unfold IsK at hk';subst hk';obtain⟨t',rfl⟩:=ry;unfold Kd.eqb;exact SeqAt.RcAt.int_str _ _ _ _
  | tup ls =>
   unfold IsK at hk';obtain⟨b,ws,rfl,hb,_,_⟩:=hk';cases ry
   obtain⟨its',r2,p2,_⟩:=I.tuple (SqT.of hb)
   unfold Kd.eqb;exact SeqAt.RcAt.int_tuple _ _ p2 (by omega)
 | txt i =>
  unfold IsK at hk;subst hk;obtain⟨t,rfl⟩:=rx
  cases k' with
  | num j=>unfold IsK at hk';subst hk';obtain⟨t',rfl⟩:=ry;unfold Kd.eqb;exact SeqAt.RcAt.str_int _ _ _ _
  | txt j=>unfold IsK at hk';subst hk';obtain⟨t',rfl⟩:=ry;unfold Kd.eqb;exact SeqAt.RcAt.str_str _ _ _ _
  | tup ls =>
   unfold IsK at hk';obtain⟨b,ws,rfl,hb,_,_⟩:=hk';cases ry
   obtain⟨its',r2,p2,_⟩:=I.tuple (SqT.of hb)
   unfold Kd.eqb;exact SeqAt.RcAt.str_tuple _ _ p2 (by omega)
 | tup ks =>
  unfold IsK at hk;obtain⟨a,vs,rfl,ha,_,hks⟩:=hk;cases rx
  obtain⟨its,r1,p1,_⟩:=I.tuple (SqT.of ha)
  cases k' with
  | num j=>unfold IsK at hk';subst hk';obtain⟨t',rfl⟩:=ry;unfold Kd.eqb;exact SeqAt.RcAt.tuple_int _ _ p1 (by omega)
  | txt j=>unfold IsK at hk';subst hk';obtain⟨t',rfl⟩:=ry;unfold Kd.eqb;exact SeqAt.RcAt.tuple_str _ _ p1 (by omega)
  | tup ls =>
   unfold IsK at hk';obtain⟨b,ws,rfl,hb,_,hls⟩:=hk';cases ry
   unfold Kd.eqb
   unfold Kd.deep at hd
   exact zBf I ha hb hks hls (by omega) fun hm i1 i2 q1 q2=>zD6 I (n - 1) (Nat.le_trans (Kd.deep_le hm) (by omega)) i1 i2 q1 q2 (by show A.units+1+(n - 1) < cLine;omega)
end
def zML:R2:=fun x y H Q=>∃ k k',IsK H k x/\IsK H k' y/\k.deep<=20/\Q (.bl (k.eqb k')) H
theorem zKY {X:Cx} (hu:X.A.units+64 < cLine):OpR X (compareOp .Eq) zML:=by
 intro pins s σ H x y v u Q I rx ry h
 obtain⟨k,k',hk,hk',hd,q⟩:=h
 exact zId I hd hk hk' rx ry (by omega) X.prog X.w _ _ ⟨.bl (k.eqb k'),H,I,rfl,q⟩
theorem zFA {xs:List V} {n:Nat}:zDZ xs (some (n:Int)) none=xs.drop n:=by
 unfold zDZ
 have e1:HT.sIx xs.length xs.length none=xs.length:=rfl
 have e2:HT.sIx xs.length 0 (some (n:Int))=min n xs.length:=by
  show (if (n:Int) < 0 then ((n:Int)+(xs.length:Int)).toNat else min (n:Int).toNat xs.length)=_
  rw[if_neg (by omega)];simp
 rw[e1,e2]
 by_cases h:n<=xs.length
 ·rw[Nat.min_eq_left h,List.take_of_length_le (by rw[List.length_drop];exact Nat.le_refl _)]
 ·rw[Nat.min_eq_right (by omega),List.drop_of_length_le (Nat.le_refl _),List.drop_of_length_le (by omega),List.take_nil]
def tNo:TE:=fun _ _ _=>False
theorem zHy {X:Cx} {e:Expr}:PE X e tNo:=fun _ _ _ _ _ _ h=>h.elim
end L2
namespace L2
open PySem PySem.Spec PyProof.Rows
mutual
theorem Kd.eqb_refl:∀ k:Kd,k.eqb k=true
 | .num i=>by unfold Kd.eqb;exact beq_self_eq_true _
 | .txt x=>by unfold Kd.eqb;exact beq_self_eq_true _
 | .tup ks=>by unfold Kd.eqb;exact Kd.eqbL_refl ks
theorem Kd.eqbL_refl:∀ ks:List Kd,Kd.eqbL ks ks=true
 | []=>by unfold Kd.eqbL;rfl
 | k::r=>by unfold Kd.eqbL;rw[Kd.eqb_refl k,Kd.eqbL_refl r];rfl
end
instance instDecKd:DecidableEq Kd:=fun k l=>if h:k.eqb l=true then .isTrue (Kd.eqb_eq h) else .isFalse fun e=>h (e ▸ Kd.eqb_refl k)
theorem Kd.eqb_dec (k l:Kd):k.eqb l=decide (k=l):=by
 by_cases h:k=l
 ·subst h;rw[Kd.eqb_refl,decide_eq_true rfl]
 ·rw[decide_eq_false h]
  cases e:k.eqb l with
  | false=>rfl
  | true=>exact absurd (Kd.eqb_eq e) h
def IsKo (H:Hp):Option Kd->V->Prop
 | none,v=>v=.non
 | some k,v=>IsK H k v
def Yn (n:Nat):Option Kd->Prop
 | none=>True
 | some k=>k.deep<=n
theorem IsKo.same {H H':Hp} (s:TupS H H') {o:Option Kd} {v:V} (h:IsKo H o v):IsKo H' o v:=by
 cases o with
 | none=>exact h
 | some k=>exact IsK.same s h
theorem IsK.num_eq {H:Hp} {i:Int} {v:V} (h:IsK H (.num i) v):v=.int i:=by unfold IsK at h;exact h
theorem IsKo.inj {H:Hp} {o o':Option Kd} {v:V} (h:IsKo H o v) (h':IsKo H o' v):o=o':=by
 cases o with
 | none =>
  cases o' with
  | none=>rfl
  | some k =>
   cases (show v=.non from h)
   cases k with
   | num i=>have z:IsK H (.num i) .non:=h';unfold IsK at z;cases z
   | txt i=>have z:IsK H (.txt i) .non:=h';unfold IsK at z;cases z
   | tup i=>have z:IsK H (.tup i) .non:=h';unfold IsK at z;obtain⟨_,_,e,_⟩:=z;cases e
 | some k =>
  cases o' with
  | none =>
   cases (show v=.non from h')
   cases k with
   | num i=>have z:IsK H (.num i) .non:=h;unfold IsK at z;cases z
   | txt i=>have z:IsK H (.txt i) .non:=h;unfold IsK at z;cases z
   | tup i=>have z:IsK H (.tup i) .non:=h;unfold IsK at z;obtain⟨_,_,e,_⟩:=z;cases e
  | some l=>rw[Kd.eqb_eq (IsK.inj (show IsK H k v from h) (show IsK H l v from h'))]
def IsKos (H:Hp) (os:List (Option Kd)) (xs:List V):Prop:=xs.length=os.length/\∀ (i:Nat) o x,os[i]? = some o->xs[i]? = some x->IsKo H o x
theorem IsKos.nil {H:Hp}:IsKos H [] []:=⟨rfl,fun i o x h=>by simp at h⟩
theorem IsKos.len {H:Hp} {os:List (Option Kd)} {xs:List V} (h:IsKos H os xs):xs.length=os.length:=h.1
theorem IsKos.get {H:Hp} {os:List (Option Kd)} {xs:List V} (h:IsKos H os xs) {i:Nat} {x:V} (e:xs[i]? = some x):∃ o,os[i]? = some o/\IsKo H o x:=by
 have hi:i < os.length:=by rw[← h.1];exact (List.getElem?_eq_some_iff.mp e).1
 exact⟨os[i],List.getElem?_eq_getElem hi,h.2 i _ _ (List.getElem?_eq_getElem hi) e⟩
theorem IsKos.get' {H:Hp} {os:List (Option Kd)} {xs:List V} (h:IsKos H os xs) {i:Nat} {o:Option Kd} (e:os[i]? = some o):∃ x,xs[i]? = some x/\IsKo H o x:=by
 have hi:i < xs.length:=by rw[h.1];exact (List.getElem?_eq_some_iff.mp e).1
 exact⟨xs[i],List.getElem?_eq_getElem hi,h.2 i _ _ e (List.getElem?_eq_getElem hi)⟩
theorem IsKos.same {H H':Hp} (s:TupS H H') {os:List (Option Kd)} {xs:List V} (h:IsKos H os xs):IsKos H' os xs:=⟨h.1,fun i o x e1 e2=>(h.2 i o x e1 e2).same s⟩
theorem IsKos.app {H:Hp} {os os':List (Option Kd)} {xs xs':List V} (h:IsKos H os xs) (h':IsKos H os' xs'):IsKos H (os++os') (xs++xs'):=by
 refine⟨by rw[List.length_append,List.length_append,h.1,h'.1],fun i o x e1 e2=>?_⟩
 by_cases c:i < os.length
 ·rw[List.getElem?_append_left c] at e1
  rw[List.getElem?_append_left (by rw[h.1];exact c)] at e2
  exact h.2 i o x e1 e2
 ·rw[List.getElem?_append_right (by omega)] at e1
  rw[List.getElem?_append_right (by rw[h.1];omega),h.1] at e2
  exact h'.2 _ o x e1 e2
theorem IsKos.one {H:Hp} {o:Option Kd} {x:V} (h:IsKo H o x):IsKos H [o] [x]:=⟨rfl,fun i o' x' e1 e2=>by
 cases i with
 | zero=>cases e1;cases e2;exact h
 | succ i=>simp at e1⟩
theorem IsKos.snoc {H:Hp} {os:List (Option Kd)} {xs:List V} {o:Option Kd} {x:V} (h:IsKos H os xs) (h':IsKo H o x):IsKos H (os++[o]) (xs++[x]):=h.app (.one h')
theorem IsKos.set {H:Hp} {os:List (Option Kd)} {xs:List V} {o:Option Kd} {x:V} (h:IsKos H os xs) (h':IsKo H o x) (i:Nat):IsKos H (os.set i o) (xs.set i x):=by
 refine⟨by rw[List.length_set,List.length_set];exact h.1,fun j o' x' e1 e2=>?_⟩
 by_cases c:i=j
 ·subst c
  rw[List.getElem?_set_self'] at e1 e2
  cases e:os[i]? with
  | none=>rw[e] at e1;cases e1
  | some z =>
   cases e':xs[i]? with
   | none=>rw[e'] at e2;cases e2
   | some z'=>rw[e] at e1;rw[e'] at e2;cases e1;cases e2;exact h'
 ·rw[List.getElem?_set_ne c] at e1 e2
  exact h.2 j o' x' e1 e2
theorem IsKos.drop {H:Hp} {os:List (Option Kd)} {xs:List V} (h:IsKos H os xs) (n:Nat):IsKos H (os.drop n) (xs.drop n):=by
 refine⟨by rw[List.length_drop,List.length_drop,h.1],fun j o x e1 e2=>?_⟩
 rw[List.getElem?_drop] at e1 e2
 exact h.2 _ o x e1 e2
def cz (ns:List Int):List (Option Kd):=ns.map fun i=>some (.num i)
theorem Y5 {H:Hp} (ns:List Int):IsKos H (cz ns) (ns.map V.int):=by
 refine⟨by unfold cz;rw[List.length_map,List.length_map],fun i o x e1 e2=>?_⟩
 unfold cz at e1
 rw[List.getElem?_map] at e1 e2
 cases e:ns[i]? with
 | none=>rw[e] at e1;cases e1
 | some n=>rw[e] at e1 e2;cases e1;cases e2;show IsK H (.num n) _;unfold IsK;rfl
section
variable {X:Cx} {pins:List (Addr × Obj)} {σ:St} {H:Hp} {s:Shared}
theorem zIN (I:Inv X pins σ H s) {n:Nat} {o o':Option Kd} {x y:V} {u v:Value} {A:Around} (hd:Yn n o) (hk:IsKo H o x) (hk':IsKo H o' y) (rx:RelV x u) (ry:RelV y v) (hu:A.units+n < cLine):SeqAt.EqAt A s u v (decide (o=o')):=by
 cases o with
 | none =>
  cases (show x=.non from hk)
  cases rx
  cases o' with
  | none=>cases (show y=.non from hk');cases ry;exact SeqAt.EqAt.same _
  | some k =>
   rw[decide_eq_false (by intro z;cases z)]
   cases k with
   | num j=>have z:IsK H (.num j) y:=hk';unfold IsK at z;subst z;obtain⟨t',rfl⟩:=ry;exact SeqAt.EqAt.none_int _ _
   | txt j=>have z:IsK H (.txt j) y:=hk';unfold IsK at z;subst z;obtain⟨t',rfl⟩:=ry;exact SeqAt.EqAt.none_str _ _
   | tup ls =>
    have z:IsK H (.tup ls) y:=hk'
    unfold IsK at z;obtain⟨b,ws,rfl,hb,_,_⟩:=z;cases ry
    obtain⟨its',r2,p2,_⟩:=I.tuple (SqT.of hb)
    exact SeqAt.EqAt.none_tuple p2 (by omega)
 | some k =>
  cases o' with
  | none =>
   cases (show y=.non from hk')
   cases ry
   rw[decide_eq_false (by intro z;cases z)]
   cases k with
   | num j=>have z:IsK H (.num j) x:=hk;unfold IsK at z;subst z;obtain⟨t',rfl⟩:=rx;exact SeqAt.EqAt.int_none _ _
   | txt j=>have z:IsK H (.txt j) x:=hk;unfold IsK at z;subst z;obtain⟨t',rfl⟩:=rx;exact SeqAt.EqAt.str_none _ _
   | tup ls =>
    have z:IsK H (.tup ls) x:=hk
    unfold IsK at z;obtain⟨b,ws,rfl,hb,_,_⟩:=z;cases rx
    obtain⟨its',r2,p2,_⟩:=I.tuple (SqT.of hb)
    exact SeqAt.EqAt.tuple_none p2 (by omega)
  | some l =>
   have h:=zD6 I n hd hk hk' rx ry hu
   rw[Kd.eqb_dec] at h
   have e:decide (some k=some l)=decide (k=l):=decide_eq_decide.mpr ⟨fun z=>by cases z;rfl,fun z=>by rw[z]⟩
   rw[e]
   exact h
noncomputable def eO (H:Hp) (o:Option Kd) (u:Value):Bool:=@decide (∃ x,RelV x u/\IsKo H o x) (Classical.propDecidable _)
theorem zKD {o o':Option Kd} {x:V} {u:Value} (r:RelV x u) (h:IsKo H o' x):eO H o u=decide (o'=o):=by
 unfold eO
 rw[Bool.eq_iff_iff,@decide_eq_true_iff _ (Classical.propDecidable _),decide_eq_true_iff]
 refine⟨fun ⟨y,ry,hy⟩=>?_,fun e=>⟨x,r,e ▸ h⟩⟩
 cases RelV.inj ry r
 exact h.inj hy
theorem zHL {o:Option Kd} {os:List (Option Kd)} {xs:List V} {its:List Value} (r:Vals xs its) (h:IsKos H os xs):its.map (eO H o)=os.map (fun o'=>decide (o'=o)):=by
 refine List.ext_getElem? fun i=>?_
 rw[List.getElem?_map,List.getElem?_map]
 have hl:=r.length
 have hl2:=h.1
 by_cases c:i < xs.length
 ·have e1:xs[i]? = some xs[i]:=List.getElem?_eq_getElem c
  obtain⟨u,e2,ru⟩:=r.get e1
  obtain⟨o',e3,ho⟩:=h.get e1
  rw[e2,e3]
  show some (eO H o u)=some _
  rw[zKD ru ho]
 ·rw[List.getElem?_eq_none (by omega),List.getElem?_eq_none (by omega)];rfl
theorem zIO {o:Option Kd} {os:List (Option Kd)} {xs:List V} {its:List Value} (r:Vals xs its) (h:IsKos H os xs):its.any (eO H o)=decide (o∈os):=by
 have e:its.any (eO H o)=(its.map (eO H o)).any id:=by rw[List.any_map];rfl
 rw[e,zHL r h,List.any_map,Bool.eq_iff_iff,List.any_eq_true,decide_eq_true_iff]
 constructor
 ·rintro ⟨z,hz,e⟩
  have e':z=o:=by simpa using e
  exact e' ▸ hz
 ·intro hz
  exact⟨o,hz,by simp⟩
theorem zIY {o:Option Kd} {os:List (Option Kd)} {xs:List V} {its:List Value} (r:Vals xs its) (h:IsKos H os xs):its.countP (eO H o)=os.count o:=by
 have e:its.countP (eO H o)=(its.map (eO H o)).countP id:=by rw[List.countP_map];rfl
 rw[e,zHL r h,List.countP_map,List.count]
 congr 1
 funext x
 show decide (x=o)=(x == o)
 rw[Bool.eq_iff_iff,decide_eq_true_iff,beq_iff_eq]
theorem JA (I:Inv X pins σ H s) {n:Nat} {A:Around} {o:Option Kd} {os:List (Option Kd)} {xs:List V} {its:List Value} {x:V} {v:Value} (r:Vals xs its) (h:IsKos H os xs) (hd:∀ o∈os,Yn n o) (ho:IsKo H o x) (rx:RelV x v) (hu:A.units+n < cLine) :
  ∀ u∈its,SeqAt.EqAt A s u v (eO H o u):=by
 intro u hm
 obtain⟨i,hi,e⟩:=List.mem_iff_getElem.mp hm
 have hl:=r.length
 have e1:xs[i]? = some xs[i]:=List.getElem?_eq_getElem (by omega)
 obtain⟨u',e2,ru⟩:=r.get e1
 obtain⟨o',e3,ho'⟩:=h.get e1
 rw[List.getElem?_eq_getElem hi,e] at e2
 cases e2
 rw[zKD ru ho']
 exact zIN I (hd _ (List.mem_of_getElem? e3)) ho' ho ru rx hu
end
section
variable {X:Cx}
def zKa (K:W.Frag) (neg:Bool):R2:=fun x y H Q=>∃ p xs os o,y=.ref p/\SqL K H p xs/\IsKos H os xs/\IsKo H o x/\(∀ o∈os,Yn 20 o)/\Q (.bl (if neg then !decide (o∈os) else decide (o∈os))) H
theorem zK3 (hu:X.A.units+64 < cLine):OpR X (compareOp .In) (zKa X.K false):=by
 intro pins s σ H x y v u Q I rx ry h
 obtain⟨p,xs,os,o,rfl,hq,hs,ho,hd,q⟩:=h
 cases ry
 obtain⟨its,r,pl,hz⟩:=I.list hq
 refine SeqAt.in_listAt (eO H o) pl.isList (fun w hw=>JA I (n:=20) r hs hd ho rx (by show X.A.units+1+20 < cLine;omega) w (by simpa using hw)) ⟨.bl _,H,I,rfl,?_⟩
 rw[show its.toArray.any (eO H o)=its.any (eO H o) by simp,zIO r hs]
 exact q
theorem zBO (hu:X.A.units+64 < cLine):OpR X (compareOp .NotIn) (zKa X.K true):=by
 intro pins s σ H x y v u Q I rx ry h
 obtain⟨p,xs,os,o,rfl,hq,hs,ho,hd,q⟩:=h
 cases ry
 obtain⟨its,r,pl,hz⟩:=I.list hq
 refine SeqAt.notIn_listAt (eO H o) pl.isList (fun w hw=>JA I (n:=20) r hs hd ho rx (by show X.A.units+1+20 < cLine;omega) w (by simpa using hw)) ⟨.bl _,H,I,rfl,?_⟩
 rw[show its.toArray.any (eO H o)=its.any (eO H o) by simp,zIO r hs]
 exact q
def zI5:V->List V->Hp->VK->Prop:=fun l vs H Q=>∃ p xs os o x,l=.ref p/\vs=[x]/\H p=some (.lst xs)/\IsKos H os xs/\IsKo H o x/\(∀ o∈os,Yn 20 o)/\Q (.int (os.count o:Nat)) H
theorem zBT (hu:X.A.units+64 < cLine):MtR X "list.count" zI5:=by
 intro pins s σ H x vs v us Q I rx rv h
 obtain⟨p,xs,os,o,y,rfl,rfl,hH,hs,ho,hd,q⟩:=h
 cases rx
 obtain⟨u,rfl,ru⟩:=rv.one
 obtain⟨z,its,n,r,hl,e⟩:=I.lstM hH
 refine call_meets F.slot_list_count ⟨_,e,rfl⟩ F.entry_list_count (F.args_list_count_2 _ _) (SeqAt.list_countAt p its.toArray n none #[] u (eO H o)) ⟨e,fun w hw=>JA I (n:=20) r hs hd ho ru (by show X.A.units+1+20 < cLine;omega) w (by simpa using hw),?_⟩
 rw[show its.toArray.toList.countP (eO H o)=os.count o by simp only[zIY r hs]]
 exact⟨.int _,H,I.tok _,I.rI,q⟩
theorem zK1 {os ps:List (Option Kd)} (h:os.length=ps.length):(List.range os.length).all (fun j=>decide (os[j]? = ps[j]?))=decide (os=ps):=by
 rw[Bool.eq_iff_iff,List.all_eq_true,decide_eq_true_iff]
 constructor
 ·intro a
  refine List.ext_getElem? fun i=>?_
  by_cases c:i < os.length
  ·simpa using a i (List.mem_range.mpr c)
  ·rw[List.getElem?_eq_none (by omega),List.getElem?_eq_none (by omega)]
 ·rintro rfl j _
  simp
theorem zLH {pins:List (Addr × Obj)} {σ:St} {H:Hp} {s:Shared} (I:Inv X pins σ H s) {A:Around} {os ps:List (Option Kd)} {xs ys:List V} {its its2:List Value} (r:Vals xs its) (r2:Vals ys its2) (h:IsKos H os xs) (h2:IsKos H ps ys) (hd:∀ o∈os,Yn 20 o) (hu:A.units+21 < cLine) :
  ∀ j (h1:j < its.toArray.size) (h2:j < its2.toArray.size),SeqAt.EqAt A.in1 s its.toArray[j] its2.toArray[j] (decide (os[j]? = ps[j]?)):=by
 intro j j1 j2
 rw[List.size_toArray] at j1 j2
 have l1:=r.length
 have l2:=r2.length
 have e1:xs[j]? = some xs[j]:=List.getElem?_eq_getElem (by omega)
 have e2:ys[j]? = some ys[j]:=List.getElem?_eq_getElem (by omega)
 obtain⟨u1,g1,q1⟩:=r.get e1
 obtain⟨u2,g2,q2⟩:=r2.get e2
 obtain⟨o1,f1,k1⟩:=h.get e1
 obtain⟨o2,f2,k2⟩:=h2.get e2
 rw[List.getElem?_eq_getElem j1] at g1
 rw[List.getElem?_eq_getElem j2] at g2
 have w1:its.toArray[j]=u1:=by simpa using g1
 have w2:its2.toArray[j]=u2:=by simpa using g2
 rw[w1,w2,f1,f2]
 have z:=zIN I (n:=20) (A:=A.in1) (hd _ (List.mem_of_getElem? f1)) k1 k2 q1 q2 (by show A.units+1+20 < cLine;omega)
 have e:decide (some o1=some o2)=decide (o1=o2):=decide_eq_decide.mpr ⟨fun z=>by cases z;rfl,fun z=>by rw[z]⟩
 rw[e]
 exact z
theorem zE6 {pins:List (Addr × Obj)} {σ:St} {H:Hp} {s:Shared} (I:Inv X pins σ H s) {A:Around} {a b:Addr} {os ps:List (Option Kd)} {xs ys:List V} (ha:H a=some (.lst xs)) (hb:H b=some (.lst ys)) (h:IsKos H os xs) (h2:IsKos H ps ys) (hd:∀ o∈os,Yn 20 o) (hu:A.units+21 < cLine) :
  SeqAt.RcAt A s (.ref a) (.ref b) (decide (os=ps)):=by
 obtain⟨_,its,n,r,hl,e⟩:=I.lstM ha
 obtain⟨_,its2,n2,r2,hl2,e2⟩:=I.lstM hb
 have L1:s.heap.IsList a its.toArray:=⟨_,e,rfl,n,rfl⟩
 have L2:s.heap.IsList b its2.toArray:=⟨_,e2,rfl,n2,rfl⟩
 have m1:=h.1
 have m2:=h2.1
 by_cases hz:os.length=ps.length
 ·have z:=SeqAt.RcAt.lists (A:=A) L1 L2 (by simp;omega) (by omega) (zLH I r r2 h h2 hd hu)
  rw[show its.toArray.size=os.length by rw[List.size_toArray];omega,zK1 hz] at z
  exact z
 ·rw[decide_eq_false (fun z=>hz (by rw[z]))]
  exact SeqAt.RcAt.lists_lengths L1 L2 (by simp;omega) (by omega)
end
end L2
namespace L2
open PySem PySem.Spec PyProof.Rows
theorem zIa (ns:List Int) (lo hi:Option Int):∃ cells:List Int,zDZ (ns.map V.int) lo hi=cells.map V.int/\cells.length<=ns.length:=by
 unfold zDZ
 rw[← List.map_drop,← List.map_take]
 exact⟨_,rfl,by rw[List.length_take,List.length_drop];omega⟩
theorem Wt {K:W.Frag} {H:Hp} {Q:VK} {a:Addr} {xs:List V} (e:H a=some (.lst xs)):Q7 K [.ref a,.ty "list"] H Q=Q (.bl true) H:=Qb (.lst e) (Wh e) rfl
theorem zDX {K:W.Frag} {H:Hp} {Q:VK} {a:Addr} {xs:List V} (e:H a=some (.tup xs)):Q7 K [.ref a,.ty "tuple"] H Q=Q (.bl true) H:=Qb (.tup e) (Wg e) rfl
theorem zCC {n:Nat} {ns:List Int}:∀ o∈cz ns,Yn n o:=fun o ho=>by
 unfold cz at ho
 obtain⟨i,_,rfl⟩:=List.mem_map.mp ho
 show (Kd.num i).deep<=n
 unfold Kd.deep
 exact Nat.zero_le _
theorem zFL {H:Hp} {i:Int}:IsKo H (some (.num i)) (.int i):=by show IsK H (.num i) _;unfold IsK;rfl
end L2
namespace L2
open PySem PySem.Spec PyProof.Rows
theorem IsKs.set {H:Hp} {k:Kd} {v:V} (h:IsK H k v):∀ {ks:List Kd} {vs:List V} (i:Nat),IsKs H ks vs->IsKs H (ks.set i k) (vs.set i v)
 | [],_,_,h'=>by unfold IsKs at h';subst h';exact IsKs.nil
 | k0::r,_,0,h'=>by
  unfold IsKs at h'
  obtain⟨v0,vr,rfl,h1,h2⟩:=h'
  show IsKs H (k::r) (v::vr)
  unfold IsKs
  exact⟨v,vr,rfl,h,h2⟩
 | k0::r,_,i+1,h'=>by
  unfold IsKs at h'
  obtain⟨v0,vr,rfl,h1,h2⟩:=h'
  show IsKs H (k0::r.set i k) (v0::vr.set i v)
  unfold IsKs
  exact⟨v0,_,rfl,h1,IsKs.set h i h2⟩
theorem IsKs.drop {H:Hp}:∀ {ks:List Kd} {vs:List V} (n:Nat),IsKs H ks vs->IsKs H (ks.drop n) (vs.drop n)
 | _,_,0,h=>h
 | [],_,n+1,h=>by unfold IsKs at h;subst h;exact IsKs.nil
 | k::r,_,n+1,h=>by
  unfold IsKs at h
  obtain⟨v,vr,rfl,h1,h2⟩:=h
  exact IsKs.drop n h2
theorem IsKs.two {H:Hp} {k l:Kd} {v w:V} (h:IsK H k v) (h':IsK H l w):IsKs H [k,l] [v,w]:=by
 unfold IsKs
 refine⟨v,[w],rfl,h,?_⟩
 unfold IsKs
 exact⟨w,[],rfl,h',IsKs.nil⟩
theorem IsKs.one {H:Hp} {k:Kd} {v:V} (h:IsK H k v):IsKs H [k] [v]:=by
 unfold IsKs
 exact⟨v,[],rfl,h,IsKs.nil⟩
theorem zGs {z:Str} {H:Hp} {Q:VK} (h:z.length<=sizeLine):zAa [.str z] H Q=Q (.int z.length) H:=by
 show (z.length<=sizeLine/\Q (.int z.length) H)=_
 exact propext ⟨fun x=>x.2,fun x=>⟨h,x⟩⟩
end L2
namespace L2
open PySem PySem.Spec PyProof.Rows
theorem J1 {α:Type} {ys:List α} {c:Nat} (h:ys.length=c+1):atI ys (-1)=ys[c]? := by
 have e:ys ≠ []:=fun e=>by rw[e] at h;cases h
 have z:=zHc ys.dropLast (ys.getLast e)
 rw[List.dropLast_concat_getLast] at z
 rw[z,List.getLast_eq_getElem,List.getElem?_eq_getElem (by omega)]
 congr 1
 congr 1
 omega
end L2
theorem L2.shal_mono {o:Option L2.Kd} (h:L2.Yn 3 o):L2.Yn 20 o:=by
 cases o with
 | none=>trivial
 | some k=>exact Nat.le_trans (show k.deep<=3 from h) (by decide)
namespace L2
open PySem PySem.Spec PyProof.Rows
theorem IsKo.non {H:Hp} {o:Option Kd} {y:V} (h:IsKo H o y):decide (y=V.non)=o.isNone:=by
 cases o with
 | none=>rw[decide_eq_true (show y=V.non from h)];rfl
 | some k =>
  refine decide_eq_false fun e=>?_
  have h':IsKo H none y:=e
  have:=h.inj h'
  cases this
def plc (os:List (Option Kd)) (i:Nat):List Int:=((List.range i).filter fun j=>(os[j]?.getD none).isSome).map fun j=>((j:Nat):Int)
theorem zFT {os:List (Option Kd)} {i:Nat}:(plc os i).length<=i:=by
 unfold plc
 rw[List.length_map]
 have:=List.length_filter_le (fun j=>(os[j]?.getD none).isSome) (List.range i)
 rwa [List.length_range] at this
theorem zDj {os:List (Option Kd)} {i:Nat} {o:Option Kd} (h:os[i]? = some o):plc os (i+1)=if o.isNone=true then plc os i else plc os i++[((i:Nat):Int)]:=by
 unfold plc
 rw[List.range_succ,List.filter_append,List.map_append]
 cases o with
 | none=>simp[h]
 | some k=>simp[h]
theorem zJU {os:List (Option Kd)} {i:Nat} {v:Int} (h:v∈plc os i):∃ k,0<=v/\v < (i:Int)/\os[v.toNat]? = some (some k):=by
 unfold plc at h
 obtain⟨j,hj,rfl⟩:=List.mem_map.mp h
 obtain⟨h1,h2⟩:=List.mem_filter.mp hj
 have h1:=List.mem_range.mp h1
 cases e:os[j]? with
 | none=>rw[e] at h2;cases h2
 | some o =>
  cases o with
  | none=>rw[e] at h2;cases h2
  | some k=>exact⟨k,by omega,by omega,by rw[Int.toNat_natCast];exact e⟩
end L2
namespace L2
open PySem PySem.Spec PyProof.Rows
end L2
namespace L2
open PySem PySem.Spec PyProof.Rows
section
variable {X:Cx}
def zHE:zJa
 | .ref p,.int k,v,H,Q=>match H p with
  | some (.lst xs)=>match ixN xs.length k with
   | some j=>Q (upd H p (.lst (xs.set j v)))
   | none=>False
  | _=>False
 | _,_,_,_,_=>False
theorem Wp:zKc X zHE:=by
 intro pins s σ H o i v ov iv u Q I ro ri rv h
 match o,i,h with
 | .ref p,.int k,h =>
  have h':(match H p with | some (.lst xs)=>(match ixN xs.length k with | some j=>Q (upd H p (.lst (xs.set j v))) | none=>False) | _=>False):=h
  cases e:H p with
  | none=>rw[e] at h';exact h'.elim
  | some ob =>
   rw[e] at h'
   cases ob with
   | lst xs =>
    have h2:(match ixN xs.length k with | some j=>Q (upd H p (.lst (xs.set j v))) | none=>False):=h'
    cases e2:ixN xs.length k with
    | none=>rw[e2] at h2;exact h2.elim
    | some j=>rw[e2] at h2;exact zHK pins s σ H _ _ v ov iv u Q I ro ri rv ⟨p,xs,k,j,rfl,rfl,e,e2,h2⟩
   | _=>exact h'.elim
theorem zJn {n k:Nat} (h:k < n):ixN n (k:Int)=some k:=by
 unfold ixN
 first
  | (rw[if_pos (by omega)];simp;omega)
  | (simp;omega)
  | (split <;> simp <;> omega)
theorem Yg {H:Hp} {p:Addr} {xs:List V} {k:Int} {j:Nat} {v:V} {Q:Hp->Prop} (h:H p=some (.lst xs)) (e:k=(j:Int)) (hj:j < xs.length):zHE (.ref p) (.int k) v H Q=Q (upd H p (.lst (xs.set j v))):=by
 subst e
 show (match H p with | some (.lst xs)=>(match ixN xs.length (j:Int) with | some j=>Q (upd H p (.lst (xs.set j v))) | none=>False) | _=>False)=_
 rw[h]
 show (match ixN xs.length (j:Int) with | some j=>Q (upd H p (.lst (xs.set j v))) | none=>False)=_
 rw[zJn hj]
end
def Ite (K:W.Frag) (a:Addr):It :=
 ⟨fun i H=>∃ xs x,SqL K H a xs/\xs[i]? = some x,fun i H v H'=>∃ p x,v=.ref p/\H p=none/\H'=upd H p (.tup [.int (i:Nat),x])/\∀ xs,SqL K H a xs->xs[i]? = some x,fun i H=>∃ xs,SqL K H a xs/\xs.length<=i⟩
section
variable {X:Cx} {pins:List (Addr × Obj)} {σ:St} {H:Hp} {s:Shared} {h':Heap}
theorem Inv.turnedT {t':Nat} {e it:Addr} {ys:List V} {its:List Value} (I:Inv X pins σ H s) (k:∀ b o,b ≠ e->b ≠ it->s.heap.get? b=some o->h'.get? b=some o) (fe:Zd X pins H e) (fi:Zd X pins H it)
  (ht:IsTup h' s.heap.objs.size its.toArray) (hv:Vals ys its) (hz:ys.length<=sizeLine) (htk:1<=t':=by first | exact Nat.le_add_left _ _ | exact Inv.tk (by assumption) | assumption | omega):Inv X pins σ (upd H s.heap.objs.size (.tup ys)) { s with heap:=h',toks:=t' }:=by
 have hn:H s.heap.objs.size=none:=I.hok.fresh (Nat.le_refl _)
 obtain⟨f0,f1,f2,f3,f4,f5⟩:=fe
 obtain⟨g0,g1,g2,g3,g4,g5⟩:=fi
 have ne:∀ b u,H b=some u->b ≠ e:=fun b u e z=>by rw[z,f0] at e;cases e
 have nit:∀ b u,H b=some u->b ≠ it:=fun b u e z=>by rw[z,g0] at e;cases e
 refine I.step (g':=s.gens) (d':=s.drawn) (ch:=[e,it]) (fun b hb=>?_) (fun b o _ _ hc q _=>k b o (fun z=>hc (by simp[z])) (fun z=>hc (by simp[z])) q) (fun b o _ _ hc q _=>⟨o.slots,k b o (fun z=>hc (by simp[z])) (fun z=>hc (by simp[z])) q⟩) (fun b o _ q n=>?_)
  (fun b o hc q=>⟨o,k b o (fun z=>hc (by simp[z])) (fun z=>hc (by simp[z])) q⟩) (fun b xs q=>?_) (fun b _ _ q=>?_) (fun b ps q=>⟨#[],?_⟩) (fun m hm=>?_) (fun b u q=>?_) I.bare htk
 ·rcases List.mem_cons.mp hb with z | z
  ·subst z;exact⟨f3,f1,f4,f5⟩
  ·have z:=List.mem_singleton.mp z
   subst z;exact⟨g3,g1,g4,g5⟩
 ·rw[QH (Nat.ne_of_lt (Heap.lt_size q))];exact n
 ·rw[QH (QJ q hn)];exact q
 ·rw[QH (QJ q hn)];exact q
 ·rw[QH (QJ q hn),q];simp
 ·obtain⟨o,es,ep,ho,r⟩:=hm
  exact⟨o,es,ep,k _ o (Ne.symm f1) (Ne.symm g1) ho,r⟩
 ·by_cases hb:b=s.heap.objs.size
  ·subst hb
   rw[QF] at q
   cases q
   exact⟨hz,its,hv,ht⟩
  ·rw[QH hb] at q
   refine (I.hok b u q).stay (fun c v hc q2=>k c v ?_ ?_ q2) (fun c q=>by rw[QH (QJ q hn)];exact q) fun c xs q=>by rw[QH (QJ q hn)];exact q
   ·rcases hc with z | z
    ·rw[z];exact ne b u q
    ·exact ne c _ z
   ·rcases hc with z | z
    ·rw[z];exact nit b u q
    ·exact nit c _ z
end
theorem zGf {P:Program} {w:World} {K:W.Frag} {elts:List Expr} {x1:Nat} {tp:Pos} (a e it:Addr) (hne:e ≠ it):Turn P w K (.Tuple elts x1 tp) (Ite K a) [e,it] e (fun i h=>(∃ old,IsEnum h e it (i:Nat) old)/\h.IsListIter it a i) where
 mem:=by simp
 obj:=fun i h st b hb=>by
  obtain⟨⟨old,he⟩,hi⟩:=st
  rcases List.mem_cons.mp hb with z | z
  ·subst z
   exact⟨_,he,fun v z=>by cases z⟩
  ·have z:=List.mem_singleton.mp z
   subst z
   obtain⟨o,e,c,d⟩:=hi
   exact⟨o,e,fun v z=>by rw[d] at z;cases z⟩
 keep:=fun i h h' st k=>⟨st.1.imp fun old he=>k e (by simp) _ he,st.2.at fun o q=>k it (by simp) o q⟩
 item:=by
  intro X hP hw hK hc i pins s σ H E I hf st hg
  subst hP hw hK
  obtain⟨xs,x,hq,hx⟩:=hg
  obtain⟨its,rv,p,hz⟩:=I.list hq
  obtain⟨u,hu,ru⟩:=rv.get hx
  have fe:=hf e (by simp)
  have fi:=hf it (by simp)
  obtain⟨⟨old,he⟩,hi⟩:=st
  have hel:e < s.heap.objs.size:=Heap.lt_size he
  have hil:it < s.heap.objs.size:=by obtain⟨o,q,_⟩:=hi;exact Heap.lt_size q
  refine wpAny_pyNext_enum_item he hi p.isList (x:=u) (by simpa using hu) hne fun h1 ho hi1 ht hsz hk=>?_
  refine⟨_,rfl,wpAny_letOwnedTupleGo_enum ho fun h2 he2 hs2=>?_⟩
  have hk2:∀ b o,b ≠ e->b ≠ it->s.heap.get? b=some o->h2.get? b=some o:=fun b o b1 b2 q=>(hs2.2 b b1).trans (hk b o b1 b2 q)
  have ht2:h2.get? s.heap.objs.size=some { cls:=.type "tuple",data:=.seq #[.int i s.toks,u] }:=(hs2.2 _ (Nat.ne_of_gt hel)).trans ht
  have hf2:∀ b∈[e,it],upd H s.heap.objs.size (HO.tup [V.int i,x]) b=none:=fun b hb=>by
   have hb2:b < s.heap.objs.size:=by
    rcases List.mem_cons.mp hb with z | z
    ·rw[z];exact hel
    ·rw[List.mem_singleton.mp z];exact hil
   rw[QH (Nat.ne_of_lt hb2)]
   exact (hf b hb).1
  have z1:IsEnum h2 e it ((i+1:Nat):Int) u:=by
   have z:((i+1:Nat):Int)=(i:Int)+1:=by omega
   rw[z];exact he2
  refine⟨.ref s.heap.objs.size,_,Inv.turnedT (s:=s) (t':=s.toks+1) I (its:=[.int i s.toks,u]) (ys:=[.int i,x]) hk2 fe fi ⟨_,ht2,rfl,_,rfl⟩ (.cons I.rI (.cons ru .nil)) (by show 2<=sizeLine;decide),rfl,
   ⟨_,x,rfl,I.hok.fresh (Nat.le_refl _),rfl,fun ys hy=>by rw[I.list_inj hy hq];exact hx⟩,⟨⟨u,z1⟩,hi1.at fun o q=>(hs2.2 it (Ne.symm hne)).trans q⟩,hf2⟩
 done:=by
  intro X hP hw hK hc i pins s σ H E I hf st hg
  subst hP hw hK
  obtain⟨xs,hq,hx⟩:=hg
  obtain⟨its,rv,p,hz⟩:=I.list hq
  obtain⟨⟨old,he⟩,hi⟩:=st
  obtain⟨f0,f1,f2,f3,f4,f5⟩:=hf it (by simp)
  have hl:=rv.length
  exact wpAny_pyNext_enum_end (I.ok.hd hc) he hi p.isList (by simp;omega) fun h' eb=>⟨rfl,I.turned (t':=s.toks) (fun b o hb e=>eb b o hb e) f0 f1 f3 f4 f5⟩
 self:=fun _ _ _ _ _ st h=>by
  obtain⟨⟨old,he⟩,_⟩:=st
  exact wpAny_pyIter_enum he h
section
variable {X:Cx} {elts:List Expr} {x1:Nat} {tp:Pos}
def zJz (K:W.Frag) (tl:TE):TI:=fun σ H R=>tl σ H fun x H1=>∃ a,x=.ref a/\(∃ xs,SqL K H1 a xs)/\R (Ite K a) H1
theorem zFR {l:Expr} {tl:TE} {p pos:Pos} (hc:X.calm=true) (hg:Gl X "enumerate") (hm:X.mg "enumerate" = none) (hl:PE X l tl) (hs:starEach [l] X.env=[(false,eval l X.env)]:=by rfl):PI X (.Tuple elts x1 tp) (.Call (.Name "enumerate" p) [l] [] pos) (zJz X.K tl):=by
 intro pins s σ H R I h
 refine Call_ (Zn I hg hm boot_enumerate (PyProof.Rows.callWith_type1 (thn ((QA hl QC hs) pos pins s σ H (fun vs H1=>match vs with | [x]=>∃ a,x=.ref a/\(∃ xs,SqL X.K H1 a xs)/\R (Ite X.K a) H1 | _=>False) I h) fun us s1 ⟨vs,H1,I1,r1,q1⟩=>?_) hs rfl))
 match vs,r1,q1 with
 | [x],r1,q1 =>
 obtain⟨a,rfl,⟨xs,hq⟩,q⟩:=q1
 obtain⟨u,rfl,ru⟩:=r1.one
 cases ru
 obtain⟨its,rv,p,hz⟩:=I1.list hq
 refine call_enumerate_list p.isList fun h' he hi hsz hk=>?_
 have I2:Inv X pins σ H1 { s1 with heap:=h' }:=I1.kept (t':=s1.toks) hk
 refine wpAny_pyIter_enum he ?_
 refine⟨s1.heap.objs.size+1,[s1.heap.objs.size+1,s1.heap.objs.size],_,_,H1,rfl,I2,zGf a _ _ (Nat.succ_ne_self _),⟨⟨_,he⟩,hi⟩,fun b hb=>?_,q⟩
 have hb2:s1.heap.objs.size<=b:=by
  rcases List.mem_cons.mp hb with z | z
  ·rw[z];exact Nat.le_succ _
  ·rw[List.mem_singleton.mp z];exact Nat.le_refl _
 exact I1.fpOk hb2 (I1.hok.fresh hb2)
theorem zGV {K:W.Frag} {a:Addr} {xs:List V} {g:TG} {tb:TS} {D:Ends} {σ:St} {H:Hp} (Pv:Nat->St->Hp->Prop) (h0:Pv 0 σ H) (hl:∀ i σ H,i<=xs.length->Pv i σ H->SqL K H a xs)
  (hs:∀ (i:Nat) x p σ H,xs[i]? = some x->Pv i σ H->H p=none->g (.ref p) σ (upd H p (.tup [.int (i:Nat),x])) fun σ2 H2=>tb { D with nx:=Pv (i+1),ct:=Pv (i+1),bk:=D.nx } σ2 H2) (hd:∀ σ H,Pv xs.length σ H->D.nx σ H):zEd (Ite K a) g tb D σ H:=by
 refine⟨fun i m σ H=>m=xs.length - i/\i<=xs.length/\Pv i σ H,⟨xs.length,by simp,Nat.zero_le _,h0⟩,?_⟩
 rintro i m σ H ⟨rfl,hi,p⟩
 have q:=hl i σ H hi p
 by_cases hlt:i < xs.length
 ·refine .inr ⟨⟨xs,xs[i],q,by simp[hlt]⟩,Pv (i+1),fun σ' H' p'=>⟨xs.length - (i+1),by omega,rfl,hlt,p'⟩,fun x H' y=>?_⟩
  obtain⟨b,z,rfl,hb,rfl,y⟩:=y
  exact hs i z b σ H (y xs q) p hb
 ·have e:i=xs.length:=by omega
  subst e
  exact .inl ⟨⟨xs,q,Nat.le_refl _⟩,hd σ H p⟩
end
end L2
namespace L2
open PySem PySem.Spec PyProof.Rows
section
variable {X:Cx}
theorem zAu {i:Nat} {y:Str} {py spos:Pos} (hN:X.N.Nodup) (hi':X.N[i]? = some y) (hy:Loc X.env.scope y) (x:Str) (cs:List Str) (js:List Nat) {sc scope:Scope} {qual:Str} {L f:Addr} {cd:Value} {elt iter t:Expr} {px pos:Pos} {wi:TI} {tc:TT} {te:TE} (hE:X.env=envOfC qual sc L f cd) (c:CompOk sc scope X.N x cs js) (hc:X.calm=true) (hi:PI X (.Name x px) iter wi)
  (ht:∀ C s₁ H₁ fp,PT (cxC X scope (YQ X.env scope.names []) x cs C s₁ H₁ fp) t tc) (he:∀ C s₁ H₁ fp,PE (cxC X scope (YQ X.env scope.names []) x cs C s₁ H₁ fp) elt te)
  (hsw:swapsWith (.ListComp elt [⟨.Name x px,iter,[t],0⟩] scope pos) (some (.Name y py)) spos.line X.env=pure true:=by rfl)
  (hf:X.fn y=true\/X.env.scope.names.lookup y=some .local:=by first | exact .inl rfl | exact .inr rfl | assumption)
  (hs:∀ x,foldedSetIterable iter X.env x=pure x:=by intro _;rfl):PS X (.Assign [.Name y py] (.ListComp elt [⟨.Name x px,iter,[t],0⟩] scope pos) spos) (zF9 (J4 wi js tc te) (Wz i)) :=
 zCr hN hi' hy hc (Zb hE c) hi (fun _ _ _ _=>zAK (ht _ _ _ _)) he hsw hf hs
end
end L2
namespace L2
open PySem PySem.Spec PyProof.Rows
section
variable {X:Cx}
def dd (ns:List Int):Nat:=(firstMet (fun i=>ns.getD i 0) ns.length).length
end
end L2
namespace L2
open PySem PySem.Spec PyProof.Rows
section
variable {X:Cx}
def zFd:List V->Hp->VK->Prop
 | [.ref p],H,Q=>match H p with
  | some (.lst ys)=>∀ t,H t=none->Q (.ref t) (upd H t (.lst ys))
  | _=>False
 | _,_,_=>False
theorem YI:Yf X (.type "list") zFd:=by
 intro pins s σ H xs us Q I r h
 match xs,h with
 | [.ref p],h =>
  have h':(match H p with | some (.lst ys)=>∀ t,H t=none->Q (.ref t) (upd H t (.lst ys)) | _=>False):=h
  cases e:H p with
  | none=>rw[e] at h';exact h'.elim
  | some o =>
   rw[e] at h'
   cases o with
   | lst ys=>exact zB5 pins s σ H _ us Q I r ⟨p,ys,rfl,.inl (SqL.of e),h'⟩
   | _=>exact h'.elim
theorem YU {H:Hp} {Q:VK} {p:Addr} {xs:List V} (h:H p=some (.lst xs)):zFd [.ref p] H Q=∀ t,H t=none->Q (.ref t) (upd H t (.lst xs)):=by
 show (match H p with | some (.lst ys)=>∀ t,H t=none->Q (.ref t) (upd H t (.lst ys)) | _=>False)=_
 rw[h]
end
end L2
namespace L2
open PySem PySem.Spec PyProof.Rows
theorem zG3 {H:Hp} {a b:Int} {x:V} (h:IsKo H (some (.tup [.num a,.num b])) x):∃ t,x=.ref t/\H t=some (.tup [.int a,.int b]):=by
 have h:IsK H (.tup [.num a,.num b]) x:=h
 unfold IsK at h
 obtain⟨t,vs,rfl,ht,_,hk⟩:=h
 unfold IsKs at hk
 obtain⟨v,vr,rfl,h1,h2⟩:=hk
 unfold IsKs at h2
 obtain⟨w,wr,rfl,h3,h4⟩:=h2
 unfold IsKs at h4
 subst h4
 rw[IsK.num_eq h1,IsK.num_eq h3] at ht
 exact⟨t,rfl,ht⟩
end L2
namespace L2
open PySem PySem.Spec PyProof.Rows
end L2
namespace PySem
structure KeyAt (prog:Program) (w:World) (A:Around) (s:Shared) (es:Array DictEntry) (key:Value) (hs:Int) (b:Nat->Bool):Prop where
 eq:∀ i e tk,es[i]? = some e->SeqAt.EqAt A { s with toks:=tk } e.key key (b i)
 hash:∀ i e,es[i]? = some e->b i=true->e.hash=hs
 uni:∀ i j,i < es.size->j < es.size->b i=true->b j=true->i=j
 quiet:∀ (E:Value->Shared->Prop) (Q:Bool->Shared->Prop) tk,Q true { s with toks:=tk }->wpAny (model prog w) A (eqIsQuiet 8 key) Q E { s with toks:=tk }
 quiets:∀ e∈es,∀ (E:Value->Shared->Prop) (Q:Bool->Shared->Prop) tk,Q true { s with toks:=tk }->wpAny (model prog w) A (eqIsQuiet 8 e.key) Q E { s with toks:=tk }
 ref:∀ e∈es,e.key=key->carriedByValue key=false->e.hash=hs
 kind:(∃ i t,key=.int i t)\/(∃ x t,key=.str x t/\∀ i e,es[i]? = some e->isExactStrKey e.key=true->e.key.isStr x=b i)\/∃ a,key=.ref a
 py:∀ (E:Value->Shared->Prop) (Q:Int->Shared->Prop) tk,(∀ tk',Q hs { s with toks:=tk' })->wpAny (model prog w) A (pyHash key) Q E { s with toks:=tk }
end PySem
namespace PySem
end PySem
namespace L2
open PySem PySem.Spec PyProof.Rows
mutual
def Kd.hsh (w:World):Kd->Int
 | .num i=>hashInt i
 | .txt x=>hashStr w x
 | .tup ks=>reduceHash (Builtin.Tuple.tupleHashOf (Kd.hshL w ks))
def Kd.hshL (w:World):List Kd->List Int
 | []=>[]
 | k::r=>k.hsh w::Kd.hshL w r
end
theorem Kd.hshL_snoc (w:World) (k:Kd):∀ ks:List Kd,Kd.hshL w (ks++[k])=Kd.hshL w ks++[k.hsh w]
 | []=>by show Kd.hshL w [k]=_;unfold Kd.hshL Kd.hshL;rfl
 | j::r=>by show Kd.hshL w (j::(r++[k]))=_;unfold Kd.hshL;rw[Kd.hshL_snoc w k r];rfl
def TK (H:Hp) (ks:List Kd) (us:List Value):Prop:=∃ vs,IsKs H ks vs/\Vals vs us
theorem TK.cons_inv {H:Hp} {ks:List Kd} {u:Value} {us:List Value} (t:TK H ks (u::us)):∃ k kr x,ks=k::kr/\IsK H k x/\RelV x u/\TK H kr us:=by
 obtain⟨vs,h,r⟩:=t
 cases r with
 | @cons x _ xr _ rx rr =>
  cases ks with
  | nil=>unfold IsKs at h;cases h
  | cons k kr =>
   unfold IsKs at h
   obtain⟨v,vr,e,h1,h2⟩:=h
   obtain⟨rfl,rfl⟩:=List.cons.inj e
   exact⟨k,kr,x,rfl,h1,rx,xr,h2,rr⟩
theorem TK.nil_inv {H:Hp} {ks:List Kd} (t:TK H ks []):ks=[]:=by
 obtain⟨vs,h,r⟩:=t
 cases r
 cases ks with
 | nil=>rfl
 | cons k kr=>unfold IsKs at h;obtain⟨v,vr,e,_⟩:=h;cases e
section
variable {X:Cx} {pins:List (Addr × Obj)} {σ:St} {H:Hp} {s:Shared}
theorem zMI (I:Inv X pins σ H s):∀ (n:Nat) {k:Kd} {x:V} {u:Value} {A:Around},k.deep<=n->IsK H k x->RelV x u->A.units+n < cLine ->
  ∀ (E:Value->Shared->Prop) (Q:Int->Shared->Prop) tk,(∀ tk',Q (k.hsh X.w) { s with toks:=tk' })->wpAny (model X.prog X.w) A (pyHash u) Q E { s with toks:=tk }:=by
 intro n
 induction n with
 | zero =>
  intro k x u A hd hk rx hu E Q tk h
  cases k with
  | num i=>unfold IsK at hk;subst hk;obtain⟨t,rfl⟩:=rx;unfold Kd.hsh at h;exact wpAny_pyHash_int (h _)
  | txt i=>unfold IsK at hk;subst hk;obtain⟨t,rfl⟩:=rx;unfold Kd.hsh at h;exact wpAny_pyHash_str (h _)
  | tup ks=>unfold Kd.deep at hd;omega
 | succ n ih =>
  intro k x u A hd hk rx hu E Q tk h
  cases k with
  | num i=>exact ih (by unfold Kd.deep;omega) hk rx (by omega) E Q tk h
  | txt i=>exact ih (by unfold Kd.deep;omega) hk rx (by omega) E Q tk h
  | tup ks =>
   unfold IsK at hk;obtain⟨a,vs,rfl,ha,_,hks⟩:=hk;cases rx
   obtain⟨its,r1,⟨o,ho,hc,m,hdt⟩,_⟩:=I.tuple (SqT.of ha)
   have hT:({ s with toks:=tk }:Shared).TypeIs (.ref a) "tuple" := ⟨o,ho,hc⟩
   unfold Kd.deep at hd
   have hdk:∀ j∈ks,j.deep<=n:=fun j hj=>Nat.le_trans (Kd.deep_le hj) (by omega)
   unfold pyHash
   first | unfold pyHashByItsType | skip
   first | refine wpAny_bind (wpAny_cRoomFor_or (.inr (by omega)) ?_) | skip
   refine wpAny_bind (wpAny_specialOf hT F.slot_tuple_hash.lookup ?_)
   show wpAny _ _ (if (some (Value.builtin "tuple.__hash__") == some Value.none)=true then _ else _) Q E _
   rw[if_neg (by rw[beq_builtin_none];exact Bool.false_ne_true)]
   refine wpAny_bind (wpAny_specialOf hT F.slot_tuple_hash.lookup ?_)
   show wpAny _ _ (callSpecialIfBoundUnlessNone? (.ref a) "__hash__" _ >>= _) Q E _
   refine wpAny_bind (wpAny_callSpecialIfBoundUnlessNone?_slot hT F.slot_tuple_hash (wpAny_call_entry F.slot_tuple_hash hT F.entry_tuple_hash ?_ (F.args_tuple_hash_1 _)))
   show wpAny _ _ (Builtin.Tuple.tupleItemsOf (.ref a) >>= _) _ _ _
   refine wpAny_bind (wpAny_tupleItemsOf (s:={ s with toks:=tk }) ho hdt ?_)
   refine wpAny_bind ?_
   rw[← Array.forIn_toList]
   refine wpAny_forIn_list _ (fun Q5 (b:Array Int) s'=>∃ dn lf,ks=dn++lf/\TK H lf Q5/\b.toList=Kd.hshL X.w dn/\∃ t,s'={ s with toks:=t }) _ ?_ ?_ _ _ ⟨[],ks,rfl,⟨vs,hks,by simpa using r1⟩,by unfold Kd.hshL;rfl,tk,rfl⟩
   ·rintro y Q5 b s' ⟨dn,lf,e1,t1,hb,t,rfl⟩
    obtain⟨k,kr,x,rfl,hk,rx,t2⟩:=t1.cons_inv
    refine wpAny_bind (ih (hdk k (by rw[e1];simp)) hk rx (by show A.units+1+n < cLine;omega) _ _ t fun t'=>?_)
    first
     | exact wpAny_pure ⟨dn++[k],kr,by rw[e1];simp,t2,by rw[Kd.hshL_snoc];simp[hb],t',rfl⟩
     | exact wpAny_bind (wpAny_pure (wpAny_pure ⟨dn++[k],kr,by rw[e1];simp,t2,by rw[Kd.hshL_snoc];simp[hb],t',rfl⟩))
   ·rintro b s' ⟨dn,lf,e1,t1,hb,t,rfl⟩
    have e2:=t1.nil_inv
    subst e2
    rw[List.append_nil] at e1
    subst e1
    show wpAny _ _ (retInt (Builtin.Tuple.tupleHashOf b.toList)) _ _ _
    rw[hb]
    refine wpAny_ret_mkInt ?_
    unfold Kd.hsh reduceHash at h
    generalize Builtin.Tuple.tupleHashOf (Kd.hshL X.w ks)=z at h
    show wpAny _ _ (if (decide (-(2:Int) ^ 63<=z) && decide (z < 2 ^ 63))=true then _ else _) Q E _
    split
    ·rename_i hr
     rw[if_pos hr] at h
     exact wpAny_pure (h _)
    ·rename_i hr
     rw[if_neg hr] at h
     exact wpAny_bind (wpAny_rule (wpAny_pure (h _)))
theorem zEy (I:Inv X pins σ H s):∀ (n:Nat) {k:Kd} {x:V} {u:Value} {A:Around},k.deep<=n->IsK H k x->RelV x u ->
  ∀ (E:Value->Shared->Prop) (Q:Bool->Shared->Prop) tk,Q true { s with toks:=tk }->wpAny (model X.prog X.w) A (eqIsQuiet n u) Q E { s with toks:=tk }:=by
 intro n
 induction n with
 | zero =>
  intro k x u A hd hk rx E Q tk h
  cases k with
  | num i=>unfold IsK at hk;subst hk;obtain⟨t,rfl⟩:=rx;rw[eqIsQuiet_byValue _ rfl];exact wpAny_pure h
  | txt i=>unfold IsK at hk;subst hk;obtain⟨t,rfl⟩:=rx;rw[eqIsQuiet_byValue _ rfl];exact wpAny_pure h
  | tup ks=>unfold Kd.deep at hd;omega
 | succ n ih =>
  intro k x u A hd hk rx E Q tk h
  cases k with
  | num i=>unfold IsK at hk;subst hk;obtain⟨t,rfl⟩:=rx;rw[eqIsQuiet_byValue _ rfl];exact wpAny_pure h
  | txt i=>unfold IsK at hk;subst hk;obtain⟨t,rfl⟩:=rx;rw[eqIsQuiet_byValue _ rfl];exact wpAny_pure h
  | tup ks =>
   unfold IsK at hk;obtain⟨a,vs,rfl,ha,_,hks⟩:=hk;cases rx
   obtain⟨its,r1,⟨o,ho,hc,m,hdt⟩,_⟩:=I.tuple (SqT.of ha)
   have hT:({ s with toks:=tk }:Shared).TypeIs (.ref a) "tuple" := ⟨o,ho,hc⟩
   unfold Kd.deep at hd
   have hdk:∀ j∈ks,j.deep<=n:=fun j hj=>Nat.le_trans (Kd.deep_le hj) (by omega)
   unfold eqIsQuiet
   refine wpAny_bind (wpAny_specialOf hT F.slot_tuple_eq.lookup ?_)
   show wpAny _ _ (isInstance (.ref a) (.type "tuple") >>= _) _ _ _
   refine wpAny_bind (wpAny_isInstance hT isSubtype_tuple_tuple ?_)
   rw[if_neg (by decide)]
   refine wpAny_bind (wpAny_seqItems (s:={ s with toks:=tk }) ho hdt ?_)
   refine wpAny_bind ?_
   show wpAny _ _ (forIn its.toArray _ _) _ _ _
   rw[← Array.forIn_toList]
   refine wpAny_forIn_list _ (fun Q5 r s'=>r.1=none/\s'={ s with toks:=tk }/\∃ lf,(∀ j∈lf,j.deep<=n)/\TK H lf Q5) _ ?_ ?_ _ _ ⟨rfl,rfl,ks,hdk,vs,hks,by simpa using r1⟩
   ·rintro y Q5 r s' ⟨hr,rfl,lf,hl,t1⟩
    obtain⟨k,kr,x,rfl,hk,rx,t2⟩:=t1.cons_inv
    refine wpAny_bind (ih (hl k List.mem_cons_self) hk rx _ _ tk ?_)
    rw[if_neg (by decide)]
    exact wpAny_pure ⟨rfl,rfl,kr,fun j hj=>hl j (List.mem_cons_of_mem _ hj),t2⟩
   ·rintro ⟨r1,r2⟩ s' ⟨hr,rfl,_⟩
    simp only at hr
    subst hr
    exact wpAny_pure h
end
end L2
namespace L2
open PySem
def Jc (xs:Array Nat):Prop:=∀ i k a b:Nat,i < k->xs[i]? = some a->xs[k]? = some b->a < b
theorem zIJ {xs:Array Nat} {j:Nat} (hr:Jc xs):∀ fuel lo hi:Nat,lo<=hi->hi<=xs.size->hi - lo<=fuel->(∀ i a:Nat,i < lo->xs[i]? = some a->a < j)->(∀ i a:Nat,hi<=i->xs[i]? = some a->j<=a)->SetTable.below.go xs j fuel lo hi<=xs.size/\(∀ i a:Nat,i < SetTable.below.go xs j fuel lo hi->xs[i]? = some a->a < j)/\(∀ i a:Nat,SetTable.below.go xs j fuel lo hi<=i->xs[i]? = some a->j<=a):=by
 intro fuel
 induction fuel with
 | zero =>
  intro lo hi h1 h2 h3 h4 h5
  have e:lo=hi:=by omega
  subst e
  exact⟨h2,h4,h5⟩
 | succ fuel ih =>
  intro lo hi h1 h2 h3 h4 h5
  unfold SetTable.below.go
  by_cases hl:lo < hi
  ·rw[if_pos hl]
   have hm:(lo+hi) / 2 < xs.size:=by omega
   have e1:xs.getD ((lo+hi) / 2) j=xs[(lo+hi) / 2]:=by simp[Array.getD,hm]
   have e2:xs[(lo+hi) / 2]? = some xs[(lo+hi) / 2]:=Array.getElem?_eq_getElem hm
   dsimp only
   rw[e1]
   by_cases hv:xs[(lo+hi) / 2] < j
   ·rw[if_pos hv]
    refine ih _ _ (by omega) h2 (by omega) (fun i a hq ha=>?_) h5
    by_cases hx:i=(lo+hi) / 2
    ·subst hx;rw[e2] at ha;cases ha;exact hv
    ·exact Nat.lt_trans (hr i _ a _ (by omega) ha e2) hv
   ·rw[if_neg hv]
    refine ih _ _ (by omega) (by omega) (by omega) h4 (fun i a hq ha=>?_)
    by_cases hx:i=(lo+hi) / 2
    ·subst hx;rw[e2] at ha;cases ha;omega
    ·have:=hr _ i _ a (by omega) e2 ha;omega
  ·rw[if_neg hl]
   have e:lo=hi:=by omega
   subst e
   exact⟨h2,h4,h5⟩
theorem Wm {xs:Array Nat} (hr:Jc xs) (j:Nat):SetTable.below xs j<=xs.size/\(∀ i a:Nat,i < SetTable.below xs j->xs[i]? = some a->a < j)/\(∀ i a:Nat,SetTable.below xs j<=i->xs[i]? = some a->j<=a) :=
 zIJ hr xs.size 0 xs.size (Nat.zero_le _) (Nat.le_refl _) (by omega) (fun i a h=>by omega) (fun i a h ha=>by
  rw[Array.getElem?_eq_none h] at ha;cases ha)
theorem zAN {xs:Array Nat} (hr:Jc xs) {i j:Nat} (h:xs[i]? = some j):SetTable.below xs j=i:=by
 obtain⟨h1,h2,h3⟩:=Wm hr j
 rcases Nat.lt_trichotomy (SetTable.below xs j) i with c | c | c
 ·have hi:i < xs.size:=by
   rcases Nat.lt_or_ge i xs.size with q | q
   ·exact q
   ·rw[Array.getElem?_eq_none q] at h;cases h
  have hb:SetTable.below xs j < xs.size:=by omega
  have e:=Array.getElem?_eq_getElem hb
  have:=hr _ _ _ _ c e h
  have:=h3 _ _ (Nat.le_refl _) e
  omega
 ·exact c
 ·have:=h2 i j c h;omega
theorem zAL {xs:Array Nat} (hr:Jc xs) {i k a:Nat} (h1:xs[i]? = some a) (h2:xs[k]? = some a):i=k:=by
 rw[← zAN hr h1,zAN hr h2]
theorem zBP {t:SetTable} (hr:Jc t.place) (hd:t.dummies = #[]) {i j:Nat} (h:t.place[i]? = some j):t.slot j=.live i:=by
 unfold SetTable.slot
 rw[zAN hr h]
 dsimp only
 rw[h]
 simp
theorem zEH {t:SetTable} (hd:t.dummies = #[]) {j:Nat} (h:∀ i:Nat,t.place[i]? ≠ some j):t.slot j=.empty:=by
 unfold SetTable.slot
 dsimp only
 have e:(t.place[SetTable.below t.place j]? == some j)=false:=by
  cases he:(t.place[SetTable.below t.place j]? == some j) with
  | false=>rfl
  | true=>exact absurd (eq_of_beq he) (h _)
 rw[e,hd]
 simp[SetTable.has]
theorem Qf {α:Type} (xs:Array α) (p:Nat) (x:α) (hp:p<=xs.size) (i:Nat):(SetTable.insertAt xs p x)[i]? = if i < p then xs[i]? else if i=p then some x else xs[i - 1]? := by
 have e:(SetTable.insertAt xs p x).toList=xs.toList.take p++x::xs.toList.drop p:=by
  simp[SetTable.insertAt,List.extract_eq_take_drop,List.take_of_length_le]
 have e2:(SetTable.insertAt xs p x)[i]? = (xs.toList.take p++x::xs.toList.drop p)[i]? := by rw[← e,Array.getElem?_toList]
 have hl:(xs.toList.take p).length=p:=by rw[List.length_take,Array.length_toList];omega
 rw[e2]
 by_cases h1:i < p
 ·rw[if_pos h1,List.getElem?_append_left (by omega),List.getElem?_take_of_lt h1,Array.getElem?_toList]
 ·rw[if_neg h1,List.getElem?_append_right (by omega),hl]
  by_cases h2:i=p
  ·subst h2;simp
  ·rw[if_neg h2]
   obtain⟨d,hd⟩:∃ d,i - p=d+1:=⟨i - p - 1,by omega⟩
   rw[hd,List.getElem?_cons_succ,List.getElem?_drop,Array.getElem?_toList]
   congr 1
   omega
theorem YD {α:Type} (xs:Array α) (p:Nat) (x:α):(SetTable.insertAt xs p x).size=xs.size+1:=by
 have e:(SetTable.insertAt xs p x).toList=xs.toList.take p++x::xs.toList.drop p:=by
  simp[SetTable.insertAt,List.extract_eq_take_drop,List.take_of_length_le]
 rw[← Array.length_toList,e,List.length_append,List.length_cons,List.length_take,List.length_drop,Array.length_toList]
 omega
def At (place:Array Nat) {α:Type} (es:Array α) (j:Nat) (e:α):Prop:=∃ i:Nat,place[i]? = some j/\es[i]? = some e
theorem zIM {xs:Array Nat} (hr:Jc xs) {j:Nat} (h:∀ i:Nat,xs[i]? ≠ some j):Jc (SetTable.insertAt xs (SetTable.below xs j) j):=by
 obtain⟨h1,h2,h3⟩:=Wm hr j
 have h3':∀ i a:Nat,SetTable.below xs j<=i->xs[i]? = some a->j < a:=fun i a hi ha=>by
  have:=h3 i a hi ha
  have:j ≠ a:=fun e=>h i (by rw[ha,e])
  omega
 generalize SetTable.below xs j=p at h1 h2 h3 h3'
 intro i k a b hik ha hb
 rw[Qf _ _ _ h1] at ha hb
 split at ha
 ·split at hb
  ·exact hr i k a b hik ha hb
  ·split at hb
   ·cases hb;exact h2 i a (by assumption) ha
   ·have:=h2 i a (by assumption) ha
    have:=h3' (k - 1) b (by omega) hb
    omega
 ·split at ha
  ·cases ha
   rw[if_neg (by omega),if_neg (by omega)] at hb
   exact h3' (k - 1) b (by omega) hb
  ·rw[if_neg (by omega),if_neg (by omega)] at hb
   exact hr _ _ a b (by omega) ha hb
theorem zLQ {α:Type} {xs:Array Nat} {es:Array α} (hr:Jc xs) (hs:xs.size=es.size) {j:Nat} (h:∀ i:Nat,xs[i]? ≠ some j) (x:α) (j':Nat) (e:α):At (SetTable.insertAt xs (SetTable.below xs j) j) (SetTable.insertAt es (SetTable.below xs j) x) j' e ↔ (j'=j/\e=x)\/At xs es j' e:=by
 obtain⟨h1,-,-⟩:=Wm hr j
 generalize SetTable.below xs j=p at h1
 constructor
 ·rintro ⟨i,ha,hb⟩
  rw[Qf _ _ _ h1] at ha
  rw[Qf _ _ _ (by omega)] at hb
  split at ha
  ·rw[if_pos (by assumption)] at hb
   exact .inr ⟨i,ha,hb⟩
  ·rw[if_neg (by assumption)] at hb
   split at ha
   ·rw[if_pos (by assumption)] at hb
    cases ha;cases hb;exact .inl ⟨rfl,rfl⟩
   ·rw[if_neg (by assumption)] at hb
    exact .inr ⟨i - 1,ha,hb⟩
 ·rintro (⟨rfl,rfl⟩ | ⟨i,ha,hb⟩)
  ·exact⟨p,by rw[Qf _ _ _ h1,if_neg (by omega),if_pos rfl],by rw[Qf _ _ _ (by omega),if_neg (by omega),if_pos rfl]⟩
  ·by_cases hi:i < p
   ·exact⟨i,by rw[Qf _ _ _ h1,if_pos hi,ha],by rw[Qf _ _ _ (by omega),if_pos hi,hb]⟩
   ·refine⟨i+1,?_,?_⟩
    ·rw[Qf _ _ _ h1,if_neg (by omega),if_neg (by omega)];simpa using ha
    ·rw[Qf _ _ _ (by omega),if_neg (by omega),if_neg (by omega)];simpa using hb
def adv (mask:Nat) (p:SetTable.Probe):SetTable.Probe :=
 if p.more > 0 then { p with j:=p.j+1,more:=p.more - 1 } else
 { p with j:=(SetTable.leap mask p.i p.perturb).1,more:=SetTable.runEnd mask (SetTable.leap mask p.i p.perturb).1 - (SetTable.leap mask p.i p.perturb).1,i:=(SetTable.leap mask p.i p.perturb).1,perturb:=(SetTable.leap mask p.i p.perturb).2 }
theorem zD1 (t:SetTable) (p:SetTable.Probe):t.advance p=adv t.mask p:=rfl
def sta (mask i q:Nat):SetTable.Probe:={ j:=i,more:=SetTable.runEnd mask i - i,i:=i,perturb:=q,dummy:=none }
def sq (mask:Nat) (h:Int):Nat->SetTable.Probe
 | 0=>sta mask (SetTable.bits h % (mask+1)) (SetTable.bits h)
 | n+1=>adv mask (sq mask h n)
theorem zIW (t:SetTable) (h:Int):t.probeStart h=sq t.mask h 0:=rfl
def itr (mask:Nat):Nat->SetTable.Probe->SetTable.Probe
 | 0,p=>p
 | n+1,p=>itr mask n (adv mask p)
theorem Jj (mask m:Nat):∀ (n:Nat) (p:SetTable.Probe),itr mask m (itr mask n p)=itr mask (n+m) p
 | 0,p=>by rw[Nat.zero_add];rfl
 | n+1,p=>by
  rw[show n+1+m=(n+m)+1 by omega]
  exact Jj mask m n (adv mask p)
theorem zBq (mask:Nat) (h:Int) (n:Nat):∀ m,sq mask h (n+m)=itr mask m (sq mask h n):=by
 intro m
 induction m generalizing n with
 | zero=>rfl
 | succ m ih =>
  rw[show n+(m+1)=(n+1)+m by omega,ih]
  rfl
theorem zIr (mask i:Nat):SetTable.runEnd mask i - i<=9:=by unfold SetTable.runEnd;split <;> omega
structure Ok (mask:Nat) (p:SetTable.Probe):Prop where
 jle:p.j+p.more<=mask
 ile:p.i<=mask
 mle:p.more<=9
 per:p.perturb < 2 ^ 64
 dum:p.dummy=none
theorem zBw {mask i q:Nat} (hi:i<=mask) (hq:q < 2 ^ 64):Ok mask (sta mask i q):=by
 refine⟨?_,hi,zIr _ _,hq,rfl⟩
 show i+(SetTable.runEnd mask i - i)<=mask
 unfold SetTable.runEnd
 split <;> omega
theorem Wn {mask:Nat} {p:SetTable.Probe} (h:0 < p.more):adv mask p={ p with j:=p.j+1,more:=p.more - 1 }:=by
 unfold adv;rw[if_pos h]
theorem zDf {mask:Nat} {p:SetTable.Probe} (h:p.more=0) (hd:p.dummy=none):adv mask p=sta mask ((p.i*5+1+p.perturb / 32) % (mask+1)) (p.perturb / 32):=by
 unfold adv
 rw[if_neg (by omega)]
 unfold sta
 rw[← hd]
 rfl
theorem zEm {mask:Nat} {p:SetTable.Probe} (h:Ok mask p):Ok mask (adv mask p):=by
 by_cases c:p.more=0
 ·rw[zDf c h.dum]
  exact zBw (by have:=Nat.mod_lt (p.i*5+1+p.perturb / 32) (show 0 < mask+1 by omega);omega) (by have:=h.per;omega)
 ·rw[Wn (by omega)]
  have h1:=h.jle
  have h2:=h.mle
  exact⟨by show p.j+1+(p.more - 1)<=mask;omega,h.ile,by show p.more - 1<=9;omega,h.per,h.dum⟩
theorem zAQ (h:Int):SetTable.bits h < 2 ^ 64:=by
 unfold SetTable.bits
 have h1:0<=h % (2 ^ 64:Int):=Int.emod_nonneg _ (by decide)
 have h2:h % (2 ^ 64:Int) < 2 ^ 64:=Int.emod_lt_of_pos _ (by decide)
 omega
theorem zAn (mask:Nat) (h:Int):∀ n,Ok mask (sq mask h n)
 | 0=>zBw (by have:=Nat.mod_lt (SetTable.bits h) (show 0 < mask+1 by omega);omega) (zAQ h)
 | n+1=>zEm (zAn mask h n)
theorem Jo {mask:Nat}:∀ (d:Nat) (p:SetTable.Probe),p.more=d->Ok mask p->itr mask (d+1) p=sta mask ((p.i*5+1+p.perturb / 32) % (mask+1)) (p.perturb / 32)
 | 0,p,e,h=>zDf e h.dum
 | d+1,p,e,h=>by
  have e2:=Jo d (adv mask p) (by rw[Wn (by omega)];show p.more - 1=d;omega) (zEm h)
  show itr mask (d+1) (adv mask p)=_
  rw[e2,Wn (by omega)]
def lps (mask:Nat):Nat->Nat × Nat->Nat × Nat
 | 0,x=>x
 | r+1,x=>lps mask r ((x.1*5+1+x.2 / 32) % (mask+1),x.2 / 32)
theorem zE9 (mask m:Nat):∀ (n:Nat) (x:Nat × Nat),lps mask m (lps mask n x)=lps mask (n+m) x
 | 0,x=>by rw[Nat.zero_add];rfl
 | n+1,x=>by
  rw[show n+1+m=(n+m)+1 by omega]
  exact zE9 mask m n _
theorem zFb (mask:Nat):∀ (r:Nat) (x:Nat × Nat),(lps mask r x).2=x.2 / 32 ^ r
 | 0,x=>by simp[lps]
 | r+1,x=>by
  show (lps mask r _).2=_
  rw[zFb mask r,Nat.div_div_eq_div_mul,Nat.pow_succ,Nat.mul_comm]
theorem zE8 {mask:Nat}:∀ (r i q:Nat),i<=mask->q < 2 ^ 64->∃ n,n<=10*r/\itr mask n (sta mask i q)=sta mask (lps mask r (i,q)).1 (lps mask r (i,q)).2
 | 0,i,q,_,_=>⟨0,Nat.le_refl _,rfl⟩
 | r+1,i,q,hi,hq=>by
  have h0:=zBw hi hq
  have e:=Jo _ _ rfl h0
  obtain⟨n,hn,en⟩:=zE8 (mask:=mask) r ((i*5+1+q / 32) % (mask+1)) (q / 32) (by have:=Nat.mod_lt (i*5+1+q / 32) (show 0 < mask+1 by omega);omega) (by omega)
  refine⟨(sta mask i q).more+1+n,by have:=h0.mle;omega,?_⟩
  rw[← Jj,e]
  exact en
def lc (mask:Nat):Nat->Nat->Nat
 | 0,i=>i
 | r+1,i=>lc mask r ((i*5+1) % (mask+1))
theorem zIB (mask:Nat):∀ (r i:Nat),lps mask r (i,0)=(lc mask r i,0)
 | 0,i=>rfl
 | r+1,i=>by
  show lps mask r ((i*5+1+0 / 32) % (mask+1),0 / 32)=_
  rw[show (0:Nat) / 32=0 by decide,Nat.add_zero,zIB]
  rfl
def M3 (mask:Nat):Prop:=mask=7\/mask=31\/mask=127
theorem zCQ (mask m:Nat):∀ (n i:Nat),lc mask m (lc mask n i)=lc mask (n+m) i
 | 0,i=>by rw[Nat.zero_add];rfl
 | n+1,i=>by
  rw[show n+1+m=(n+m)+1 by omega]
  exact zCQ mask m n _
def zMA (mask:Nat):Bool:=(List.range (mask+1)).all fun j=>(List.range (mask+1)).any fun r=>lc mask r 0 == j
theorem zIp {mask:Nat} (h:M3 mask):zMA mask=true/\lc mask (mask+1) 0=0:=by
 rcases h with rfl | rfl | rfl <;> exact⟨by decide +kernel,by decide +kernel⟩
end L2
namespace L2
open PySem
theorem zIG {mask:Nat} (hm:M3 mask) {i j:Nat} (hi:i<=mask) (hj:j<=mask):∃ r,r<=mask/\lc mask r i=j:=by
 obtain⟨h1,h2⟩:=zIp hm
 have z:∀ i:Nat,i<=mask->∃ a,a<=mask/\lc mask a 0=i:=fun i hi=>by
  have:=List.all_eq_true.mp h1 i (List.mem_range.mpr (by omega))
  obtain⟨a,ha,e⟩:=List.any_eq_true.mp this
  exact⟨a,by have:=List.mem_range.mp ha;omega,eq_of_beq e⟩
 obtain⟨a,ha,ea⟩:=z i hi
 obtain⟨b,hb,eb⟩:=z j hj
 by_cases c:a<=b
 ·refine⟨b - a,by omega,?_⟩
  rw[← ea,zCQ,show a+(b - a)=b by omega,eb]
 ·refine⟨mask+1 - a+b,by omega,?_⟩
  rw[← ea,zCQ,show a+(mask+1 - a+b)=(mask+1)+b by omega,← zCQ,h2,eb]
theorem zBW {mask:Nat} (hm:M3 mask) {i q j:Nat} (hi:i<=mask) (hq:q < 2 ^ 64) (hj:j<=mask):∃ r,r<=13+mask/\(lps mask r (i,q)).1=j:=by
 have e1:(lps mask 13 (i,q)).2=0:=by
  rw[zFb]
  exact Nat.div_eq_of_lt (Nat.lt_of_lt_of_le hq (by decide))
 have hle:∀ (r:Nat) (x:Nat × Nat),x.1<=mask->(lps mask r x).1<=mask:=by
  intro r
  induction r with
  | zero=>exact fun x h=>h
  | succ r ih=>exact fun x h=>ih _ (by have:=Nat.mod_lt (x.1*5+1+x.2 / 32) (show 0 < mask+1 by omega);show (x.1*5+1+x.2 / 32) % (mask+1)<=mask;omega)
 obtain⟨r,hr,e⟩:=zIG hm (hle 13 (i,q) hi) hj
 refine⟨13+r,by omega,?_⟩
 rw[← zE9]
 have e2:lps mask 13 (i,q)=((lps mask 13 (i,q)).1,0):=Prod.ext rfl e1
 rw[e2,zIB]
 exact e
theorem zGg {mask:Nat} (hm:M3 mask) {p:SetTable.Probe} (hp:Ok mask p) {j:Nat} (hj:j<=mask):∃ n,n < 10*SetTable.turns mask/\(itr mask n p).j=j:=by
 have e:=Jo _ p rfl hp
 have hi:(p.i*5+1+p.perturb / 32) % (mask+1)<=mask:=by have:=Nat.mod_lt (p.i*5+1+p.perturb / 32) (show 0 < mask+1 by omega);omega
 have hq:p.perturb / 32 < 2 ^ 64:=by have:=hp.per;omega
 obtain⟨r,hr,er⟩:=zBW hm hi hq hj
 obtain⟨n,hn,en⟩:=zE8 (mask:=mask) r _ _ hi hq
 refine⟨p.more+1+n,?_,?_⟩
 ·have:=hp.mle
  unfold SetTable.turns
  omega
 ·rw[← Jj,e,en,er]
  rfl
theorem zLV {P:Nat->Prop}:∀ {n:Nat},P n->∃ m,m<=n/\P m/\∀ k,k < m->¬P k:=by
 intro n
 induction n using Nat.strongRecOn with
 | _ n ih =>
  intro h
  by_cases c:∃ k,k < n/\P k
  ·obtain⟨k,hk,hP⟩:=c
   obtain⟨m,h1,h2,h3⟩:=ih k hk hP
   exact⟨m,by omega,h2,h3⟩
  ·exact⟨n,Nat.le_refl _,h,fun k hk hP=>c ⟨k,hk,hP⟩⟩
theorem zGb {xs:Array Nat} (hr:Jc xs) {mask:Nat} (hs:xs.size<=mask):∃ j,j<=mask/\∀ i:Nat,xs[i]? ≠ some j:=by
 refine Classical.byContradiction fun hno=>?_
 have h:∀ j,j<=mask->∃ i:Nat,xs[i]? = some j:=fun j hj=>Classical.byContradiction fun hn=>hno ⟨j,hj,fun i e=>hn ⟨i,e⟩⟩
 have z:∀ j,j<=mask->∀ i:Nat,xs[i]? = some j->j<=i:=by
  intro j
  induction j with
  | zero=>intros;omega
  | succ j ih =>
   intro hj i hi
   obtain⟨i',hi'⟩:=h j (by omega)
   have:=ih (by omega) i' hi'
   rcases Nat.lt_trichotomy i i' with c | c | c
   ·have:=hr _ _ _ _ c hi hi';omega
   ·subst c;rw[hi] at hi';cases hi'
   ·omega
 obtain⟨i,hi⟩:=h mask (Nat.le_refl _)
 have:=z mask (Nat.le_refl _) i hi
 rw[Array.getElem?_eq_none (by omega)] at hi
 cases hi
theorem zE5 {t:SetTable} (hr:Jc t.place) (hd:t.dummies = #[]) (hashAt:Nat->Int) (h:Int):∀ (fuel:Nat) (p:SetTable.Probe),Ok t.mask p->∀ N,N < fuel->(∀ i:Nat,t.place[i]? ≠ some (itr t.mask N p).j)->(∀ m,m < N->∃ i:Nat,t.place[i]? = some (itr t.mask m p).j) ->
  (SetTable.probe.go t hashAt h fuel p=some (.empty (itr t.mask N p).j none)/\∀ m,m < N->∀ i:Nat,t.place[i]? = some (itr t.mask m p).j->hashAt i ≠ h) \/
  (∃ m i:Nat,m < N/\t.place[i]? = some (itr t.mask m p).j/\hashAt i=h/\SetTable.probe.go t hashAt h fuel p=some (.candidate (itr t.mask m p).j i (itr t.mask (m+1) p))/\∀ m',m' < m->∀ i:Nat,t.place[i]? = some (itr t.mask m' p).j->hashAt i ≠ h):=by
 intro fuel
 induction fuel with
 | zero=>intro p _ N hN;omega
 | succ fuel ih =>
  intro p hp N hN he hl
  cases N with
  | zero =>
   refine .inl ⟨?_,fun m hm=>by omega⟩
   unfold SetTable.probe.go
   have e:t.slot p.j=.empty:=zEH hd he
   rw[e]
   show some (SetTable.Met.empty p.j p.dummy)=some (SetTable.Met.empty p.j none)
   rw[hp.dum]
  | succ N =>
   obtain⟨i,hi⟩:=hl 0 (by omega)
   have hi:t.place[i]? = some p.j:=hi
   have e:t.slot p.j=.live i:=zBP hr hd hi
   unfold SetTable.probe.go
   rw[e]
   dsimp only
   by_cases c:hashAt i=h
   ·refine .inr ⟨0,i,by omega,hi,c,?_,fun m' hm'=>by omega⟩
    rw[c,if_pos (by simp)]
    rfl
   ·rw[if_neg (by simpa using c),zD1]
    rcases ih (adv t.mask p) (zEm hp) N (by omega) he (fun m hm=>hl (m+1) (by omega)) with ⟨a1,a2⟩ | ⟨m,i',a1,a2,a3,a4,a5⟩
    ·refine .inl ⟨a1,fun m hm i' hi'=>?_⟩
     cases m with
     | zero =>
      have:=zAL hr hi hi'
      subst this
      exact c
     | succ m=>exact a2 m (by omega) i' hi'
    ·refine .inr ⟨m+1,i',by omega,a2,a3,a4,fun m' hm' i'' hi''=>?_⟩
     cases m' with
     | zero =>
      have:=zAL hr hi hi''
      subst this
      exact c
     | succ m'=>exact a5 m' (by omega) i'' hi''
structure TInv (t:SetTable) (es:Array (Int × Value)):Prop where
 m3:M3 t.mask
 dum:t.dummies = #[]
 rise:Jc t.place
 size:t.place.size=es.size
 le:∀ i j:Nat,t.place[i]? = some j->j<=t.mask
 reach:∀ (j:Nat) (e:Int × Value),At t.place es j e->∃ n,(sq t.mask e.1 n).j=j/\∀ m,m < n->∃ i:Nat,t.place[i]? = some (sq t.mask e.1 m).j
 room:es.size<=t.mask
def zGq (t:SetTable) (h:Int) (N:Nat):Prop:=(∀ i:Nat,t.place[i]? ≠ some (sq t.mask h N).j)/\∀ m,m < N->∃ i:Nat,t.place[i]? = some (sq t.mask h m).j
theorem zE3 {t:SetTable} {es:Array (Int × Value)} (I:TInv t es) (h:Int):∃ N,zGq t h N/\∀ n,n<=N->N - n < 10*SetTable.turns t.mask:=by
 obtain⟨j,hj,hb⟩:=zGb I.rise (mask:=t.mask) (by rw[I.size];exact I.room)
 have z:∀ n,∃ m,m < 10*SetTable.turns t.mask/\(sq t.mask h (n+m)).j=j:=fun n=>by
  obtain⟨m,h1,h2⟩:=zGg I.m3 (zAn t.mask h n) hj
  exact⟨m,h1,by rw[zBq];exact h2⟩
 obtain⟨m0,_,e0⟩:=z 0
 obtain⟨N,h1,h2,h3⟩:=zLV (P:=fun n=>∀ i:Nat,t.place[i]? ≠ some (sq t.mask h n).j) (n:=0+m0) (by rw[e0];exact hb)
 refine⟨N,⟨h2,fun m hm=>Classical.byContradiction fun hn=>h3 m hm fun i e=>hn ⟨i,e⟩⟩,fun n hn=>?_⟩
 obtain⟨m,hm,em⟩:=z n
 have:N<=n+m:=Classical.byContradiction fun hc=>h3 (n+m) (by omega) (by rw[em];exact hb)
 omega
theorem zI2 {t:SetTable} {es:Array (Int × Value)} (I:TInv t es) (h:Int) (N:Nat):(sq t.mask h N).j<=t.mask:=by
 have:=(zAn t.mask h N).jle;omega
theorem zKt {t:SetTable} {es:Array (Int × Value)} (I:TInv t es) {N j:Nat} {e:Int × Value} (hb:zGq t e.1 N) (ha:At t.place es j e):∃ n,n < N/\(sq t.mask e.1 n).j=j:=by
 obtain⟨n,h1,h2⟩:=I.reach j e ha
 obtain⟨i,hi,_⟩:=ha
 refine⟨n,?_,h1⟩
 rcases Nat.lt_trichotomy n N with c | c | c
 ·exact c
 ·subst c;exact absurd hi (h1 ▸ hb.1 i)
 ·obtain⟨i',hi'⟩:=h2 N c;exact absurd hi' (hb.1 i')
theorem zHO {t:SetTable} (hd:t.dummies = #[]) (j:Nat):t.put j=({ t with place:=SetTable.insertAt t.place (SetTable.below t.place j) j },SetTable.below t.place j):=by
 unfold SetTable.put
 dsimp only
 rw[hd]
 simp[SetTable.has]
theorem zFf {t:SetTable} {es:Array (Int × Value)} (I:TInv t es) {h:Int} {N:Nat} (hb:zGq t h N) (x:Value) (hroom:es.size+1<=t.mask):TInv { t with place:=SetTable.insertAt t.place (SetTable.below t.place (sq t.mask h N).j) (sq t.mask h N).j } (SetTable.insertAt es (SetTable.below t.place (sq t.mask h N).j) (h,x)):=by
 have hat:=zLQ I.rise I.size hb.1 (h,x)
 obtain⟨hp,-,-⟩:=Wm I.rise (sq t.mask h N).j
 have hmono:∀ j:Nat,(∃ i:Nat,t.place[i]? = some j)->∃ i:Nat,(SetTable.insertAt t.place (SetTable.below t.place (sq t.mask h N).j) (sq t.mask h N).j)[i]? = some j:=fun j ⟨i,hi⟩=>by
  have hlt:i < es.size:=by
   rw[← I.size]
   rcases Nat.lt_or_ge i t.place.size with q | q
   ·exact q
   ·rw[Array.getElem?_eq_none q] at hi;cases hi
  obtain⟨i',h1,_⟩:=(hat j es[i]).mpr (.inr ⟨i,hi,Array.getElem?_eq_getElem hlt⟩)
  exact⟨i',h1⟩
 refine⟨I.m3,I.dum,zIM I.rise hb.1,?_,?_,?_,?_⟩
 ·rw[YD,YD,I.size]
 ·intro i j hi
  have hi:(SetTable.insertAt t.place (SetTable.below t.place (sq t.mask h N).j) (sq t.mask h N).j)[i]? = some j:=hi
  rw[Qf _ _ _ hp] at hi
  split at hi
  ·exact I.le _ _ hi
  ·split at hi
   ·cases hi;exact zI2 I h N
   ·exact I.le _ _ hi
 ·intro j e ha
  rcases (hat j e).mp ha with ⟨rfl,rfl⟩ | ha
  ·exact⟨N,rfl,fun m hm=>hmono _ (hb.2 m hm)⟩
  ·obtain⟨n,h1,h2⟩:=I.reach j e ha
   exact⟨n,h1,fun m hm=>hmono _ (h2 m hm)⟩
 ·rw[YD];exact hroom
theorem YP {t:SetTable} {es:Array (Int × Value)} (I:TInv t es):t.fits es.size=true:=by
 unfold SetTable.fits SetTable.fill
 rw[I.dum,I.size]
 simpa using I.room
theorem zIQ {t:SetTable} {es:Array (Int × Value)} (I:TInv t es):t.gaveWay=false:=by
 unfold SetTable.gaveWay
 rcases I.m3 with e | e | e <;> rw[e] <;> decide
theorem zBr {t:SetTable} {es:Array (Int × Value)} (I:TInv t es) {h:Int} {N:Nat} (hb:zGq t h N) (hN:N < 10*SetTable.turns t.mask):t.freeSlot h=some ((sq t.mask h N).j,false):=by
 unfold SetTable.freeSlot SetTable.probe
 rw[zIW]
 have e0:∀ m,sq t.mask h m=itr t.mask m (sq t.mask h 0):=fun m=>by rw[← zBq,Nat.zero_add]
 rcases zE5 I.rise I.dum (fun _=>h+1) h (10*SetTable.turns t.mask) (sq t.mask h 0) (zAn _ _ _) N hN (by rw[← e0];exact hb.1) (fun m hm=>by rw[← e0];exact hb.2 m hm) with ⟨a,_⟩ | ⟨m,i,_,_,hc,_⟩
 ·rw[a,← e0];rfl
 ·exact absurd hc (by omega)
end L2
namespace L2
open PySem
theorem zFW {mask:Nat}:∀ (k:Nat) (p:SetTable.Probe),k<=p.more->itr mask k p={ p with j:=p.j+k,more:=p.more - k }
 | 0,p,_=>rfl
 | k+1,p,h=>by
  show itr mask k (adv mask p)=_
  rw[Wn (by omega),zFW k _ (by show k<=p.more - 1;omega)]
  show ({ p with j:=p.j+1+k,more:=p.more - 1 - k }:SetTable.Probe)=_
  rw[show p.j+1+k=p.j+(k+1) by omega,show p.more - 1 - k=p.more - (k+1) by omega]
theorem zGH {mask:Nat} {owner:Array (Option Nat)} (hs:owner.size=mask+1):∀ (fuel i q:Nat),i<=mask->q < 2 ^ 64->(∃ r,r < fuel/\owner[(lps mask r (i,q)).1]? = some none) ->
  ∃ N,SetTable.layClean.free mask owner fuel i q=some (itr mask N (sta mask i q)).j/\owner[(itr mask N (sta mask i q)).j]? = some none/\∀ m,m < N->owner[(itr mask m (sta mask i q)).j]? ≠ some none:=by
 intro fuel
 induction fuel with
 | zero=>rintro i q _ _ ⟨r,hr,_⟩;omega
 | succ fuel ih =>
  rintro i q hi hq ⟨r,hr,er⟩
  have h0:=zBw hi hq
  have hle:i<=SetTable.runEnd mask i:=by unfold SetTable.runEnd;split <;> omega
  have hend:SetTable.runEnd mask i<=mask:=by unfold SetTable.runEnd;split <;> omega
  have hmore:(sta mask i q).more=SetTable.runEnd mask i - i:=rfl
  have hrun:∀ k,k<=SetTable.runEnd mask i - i->(itr mask k (sta mask i q)).j=i+k:=fun k hk=>by
   rw[zFW k _ hk];rfl
  have hnone:∀ k,k<=SetTable.runEnd mask i - i->((owner.getD (i+k) (some 0)).isNone=true ↔ owner[i+k]? = some none):=fun k hk=>by
   have hlt:i+k < owner.size:=by omega
   have e:owner.getD (i+k) (some 0)=owner[i+k]:=by simp[Array.getD,hlt]
   rw[e,Array.getElem?_eq_getElem hlt]
   constructor
   ·intro h;rw[Option.isNone_iff_eq_none.mp h]
   ·intro h;injection h with h;rw[h];rfl
  unfold SetTable.layClean.free
  cases hf:(List.range (SetTable.runEnd mask i+1 - i)).find? fun k=>(owner.getD (i+k) (some 0)).isNone with
  | some k =>
   obtain⟨a1,a2,a3⟩:=List.find?_range_eq_some.mp hf
   have hk:k<=SetTable.runEnd mask i - i:=by have:=List.mem_range.mp a2;omega
   refine⟨k,?_,?_,fun m hm=>?_⟩
   ·rw[hrun k hk]
   ·rw[hrun k hk];exact (hnone k hk).mp a1
   ·rw[hrun m (by omega)]
    intro e
    have:=a3 m hm
    rw[(hnone m (by omega)).mpr e] at this
    cases this
  | none =>
   have a:=List.find?_range_eq_none.mp hf
   have hocc:∀ k,k<=SetTable.runEnd mask i - i->owner[i+k]? ≠ some none:=fun k hk e=>by
    have:=a k (by omega)
    rw[(hnone k hk).mpr e] at this
    cases this
   cases r with
   | zero=>exact absurd er (hocc 0 (by omega))
   | succ r =>
    have e:=Jo _ _ rfl h0
    obtain⟨N,b1,b2,b3⟩:=ih ((i*5+1+q / 32) % (mask+1)) (q / 32) (by have:=Nat.mod_lt (i*5+1+q / 32) (show 0 < mask+1 by omega);omega) (by omega) ⟨r,by omega,er⟩
    have e':∀ m,itr mask (SetTable.runEnd mask i - i+1+m) (sta mask i q)=itr mask m (sta mask ((i*5+1+q / 32) % (mask+1)) (q / 32)):=fun m=>by
     rw[← Jj]
     have e:itr mask (SetTable.runEnd mask i - i+1) (sta mask i q)=_:=e
     rw[e]
     rfl
    refine⟨SetTable.runEnd mask i - i+1+N,?_,?_,fun m hm=>?_⟩
    ·rw[e'];exact b1
    ·rw[e'];exact b2
    ·by_cases c:m<=SetTable.runEnd mask i - i
     ·rw[hrun m c];exact hocc m c
     ·obtain⟨d,hd⟩:∃ d,m=SetTable.runEnd mask i - i+1+d:=⟨m - (SetTable.runEnd mask i - i+1),by omega⟩
      subst hd
      rw[e']
      exact b3 d (by omega)
structure OInv (mask:Nat) (owner:Array (Option Nat)) (hs:List Int):Prop where
 size:owner.size=mask+1
 cnt:owner.toList.count none=mask+1 - hs.length
 all:∀ k,k < hs.length->∃ j:Nat,owner[j]? = some (some k)
 one:∀ j j' k:Nat,owner[j]? = some (some k)->owner[j']? = some (some k)->j=j'
 reach:∀ j k:Nat,owner[j]? = some (some k)->∃ (h:Int) (n:Nat),hs[k]? = some h/\(sq mask h n).j=j/\∀ m,m < n->owner[(sq mask h m).j]? ≠ some none
theorem zHb (mask:Nat):OInv mask (Array.replicate (mask+1) none) []:=by
 refine⟨by simp,?_,fun k hk=>by simp at hk,fun j j' k h=>?_,fun j k h=>?_⟩
 ·simp
 ·simp[Array.getElem?_replicate] at h
 ·simp[Array.getElem?_replicate] at h
theorem zGo {mask:Nat} (hm:M3 mask) {owner:Array (Option Nat)} {hs:List Int} (I:OInv mask owner hs) (hl:hs.length<=mask) (h:Int):∃ j,SetTable.layClean.free mask owner (SetTable.turns mask) (SetTable.bits h % (mask+1)) (SetTable.bits h)=some j/\OInv mask (owner.setIfInBounds j (some hs.length)) (hs++[h]):=by
 have hpos:0 < owner.toList.count none:=by rw[I.cnt];omega
 obtain⟨j0,hj0⟩:=List.mem_iff_getElem?.mp (List.count_pos_iff.mp hpos)
 rw[Array.getElem?_toList] at hj0
 have hj0':j0<=mask:=by
  rcases Nat.lt_or_ge j0 owner.size with q | q
  ·rw[I.size] at q;omega
  ·rw[Array.getElem?_eq_none q] at hj0;cases hj0
 have hi:SetTable.bits h % (mask+1)<=mask:=by have:=Nat.mod_lt (SetTable.bits h) (show 0 < mask+1 by omega);omega
 obtain⟨r,hr,er⟩:=zBW hm hi (zAQ h) hj0'
 obtain⟨N,b1,b2,b3⟩:=zGH I.size (SetTable.turns mask) _ _ hi (zAQ h) ⟨r,by unfold SetTable.turns;omega,by rw[er];exact hj0⟩
 have e0:∀ m,itr mask m (sta mask (SetTable.bits h % (mask+1)) (SetTable.bits h))=sq mask h m:=fun m=>by
  have:=zBq mask h 0 m
  rw[Nat.zero_add] at this
  rw[this]
  rfl
 rw[e0] at b1 b2
 simp only[e0] at b3
 have hlt:(sq mask h N).j < owner.size:=by have:=(zAn mask h N).jle;rw[I.size];omega
 refine⟨_,b1,?_⟩
 generalize hj:(sq mask h N).j=j at *
 have hget:∀ j':Nat,(owner.setIfInBounds j (some hs.length))[j']? = if j=j' then some (some hs.length) else owner[j']? := fun j'=>by
  rw[Array.getElem?_setIfInBounds]
  by_cases c:j=j'
  ·subst c;rw[if_pos rfl,if_pos rfl,if_pos hlt]
  ·rw[if_neg c,if_neg c]
 have hkeep:∀ j' k:Nat,owner[j']? = some (some k)->(owner.setIfInBounds j (some hs.length))[j']? = some (some k):=fun j' k e=>by
  rw[hget,if_neg (fun c=>by subst c;rw[b2] at e;cases e)]
  exact e
 have hocc:∀ j':Nat,owner[j']? ≠ some none->(owner.setIfInBounds j (some hs.length))[j']? ≠ some none:=fun j' e=>by
  rw[hget]
  by_cases c:j=j'
  ·rw[if_pos c];intro q;cases q
  ·rw[if_neg c];exact e
 have hklt:∀ j' k:Nat,owner[j']? = some (some k)->k < hs.length:=fun j' k e=>by
  obtain⟨h',n,e1,_⟩:=I.reach j' k e
  rcases Nat.lt_or_ge k hs.length with q | q
  ·exact q
  ·rw[List.getElem?_eq_none q] at e1;cases e1
 refine⟨?_,?_,?_,?_,?_⟩
 ·rw[Array.size_setIfInBounds];exact I.size
 ·have hlt':j < owner.toList.length:=by rw[Array.length_toList];exact hlt
  have ej:owner.toList[j]=none:=by
   have:owner.toList[j]? = some none:=by rw[Array.getElem?_toList];exact b2
   rw[List.getElem?_eq_getElem hlt'] at this
   injection this
  rw[Array.toList_setIfInBounds,List.count_set hlt',ej,I.cnt,List.length_append]
  simp
  omega
 ·intro k hk
  rw[List.length_append,List.length_singleton] at hk
  by_cases c:k=hs.length
  ·subst c;exact⟨j,by rw[hget,if_pos rfl]⟩
  ·obtain⟨j',e⟩:=I.all k (by omega)
   exact⟨j',hkeep j' k e⟩
 ·intro j1 j2 k e1 e2
  rw[hget] at e1 e2
  split at e1
  ·split at e2
   ·omega
   ·injection e1 with e1;injection e1 with e1;subst e1
    have:=hklt _ _ e2;omega
  ·split at e2
   ·injection e2 with e2;injection e2 with e2;subst e2
    have:=hklt _ _ e1;omega
   ·exact I.one _ _ _ e1 e2
 ·intro j' k e
  rw[hget] at e
  split at e
  ·injection e with e;injection e with e;subst e
   rename_i c
   subst c
   exact⟨h,N,by rw[List.getElem?_append_right (Nat.le_refl _)];simp,hj,fun m hm=>hocc _ (b3 m hm)⟩
  ·obtain⟨h',n,e1,e2,e3⟩:=I.reach j' k e
   exact⟨h',n,by rw[List.getElem?_append_left (hklt _ _ e)];exact e1,e2,fun m hm=>hocc _ (e3 m hm)⟩
def Wu (mask:Nat) (acc:Option (Array (Option Nat) × Nat)) (h:Int):Option (Array (Option Nat) × Nat):=do
  let (owner,k) ← acc
  let j ← SetTable.layClean.free mask owner (SetTable.turns mask) (SetTable.bits h % (mask+1)) (SetTable.bits h)
  pure (owner.setIfInBounds j (some k),k+1)
theorem zDc {mask:Nat} (hm:M3 mask):∀ (l hs:List Int) (owner:Array (Option Nat)),OInv mask owner hs->hs.length+l.length<=mask->∃ owner',l.foldl (Wu mask) (some (owner,hs.length))=some (owner',(hs++l).length)/\OInv mask owner' (hs++l)
 | [],hs,owner,I,_=>⟨owner,by simp,by simpa using I⟩
 | h::l,hs,owner,I,hl=>by
  rw[List.length_cons] at hl
  obtain⟨j,e,I'⟩:=zGo hm I (by omega) h
  obtain⟨owner',e2,I2⟩:=zDc hm l (hs++[h]) _ I' (by rw[List.length_append,List.length_singleton];omega)
  refine⟨owner',?_,by rw[List.append_assoc] at I2;exact I2⟩
  rw[List.foldl_cons]
  have e1:Wu mask (some (owner,hs.length)) h=some (owner.setIfInBounds j (some hs.length),(hs++[h]).length):=by
   unfold Wu
   show (SetTable.layClean.free mask owner (SetTable.turns mask) (SetTable.bits h % (mask+1)) (SetTable.bits h) >>= _)=_
   rw[e,List.length_append,List.length_singleton]
   rfl
  rw[e1,e2,List.append_assoc]
  rfl
theorem zAy {mask:Nat} (hm:M3 mask) (hs:Array Int) (hl:hs.size<=mask):∃ owner,SetTable.layClean mask hs=some owner/\OInv mask owner hs.toList:=by
 obtain⟨owner,e,I⟩:=zDc hm hs.toList [] _ (zHb mask) (by simpa using hl)
 refine⟨owner,?_,by simpa using I⟩
 unfold SetTable.layClean
 have e:hs.toList.foldl (Wu mask) (some (Array.replicate (mask+1) none,0))=_:=e
 rw[← Array.foldl_toList]
 show (hs.toList.foldl (Wu mask) (some (Array.replicate (mask+1) none,0))).map (·.1)=_
 rw[e]
 rfl
def Qp (mask:Nat) (owner:Array (Option Nat)):List (Nat × Nat):=(List.range (mask+1)).filterMap fun j=>(owner.getD j none).map (j,·)
theorem getD_none {owner:Array (Option Nat)} {j k:Nat}:owner.getD j none=some k ↔ owner[j]? = some (some k):=by
 rw[Array.getD_eq_getD_getElem?]
 cases owner[j]? with
 | none=>simp
 | some o=>simp
theorem YW {mask:Nat} {owner:Array (Option Nat)} (hs:owner.size=mask+1) {j k:Nat}:(j,k)∈Qp mask owner ↔ owner[j]? = some (some k):=by
 unfold Qp
 rw[List.mem_filterMap]
 constructor
 ·rintro ⟨a,_,e⟩
  cases ho:owner.getD a none with
  | none=>rw[ho] at e;cases e
  | some k' =>
   rw[ho] at e
   injection e with e
   injection e with e1 e2
   subst e1;subst e2
   exact getD_none.mp ho
 ·intro e
  refine⟨j,List.mem_range.mpr ?_,by rw[getD_none.mpr e];rfl⟩
  rw[← hs]
  rcases Nat.lt_or_ge j owner.size with q | q
  ·exact q
  ·rw[Array.getElem?_eq_none q] at e;cases e
theorem J6 (mask:Nat) (owner:Array (Option Nat)):(Qp mask owner).Pairwise fun a b=>a.1 < b.1:=by
 unfold Qp
 rw[List.pairwise_filterMap]
 refine List.Pairwise.imp ?_ (List.pairwise_lt_range (n:=mask+1))
 intro a b hab x hx y hy
 have z:∀ (a:Nat) (x:Nat × Nat),(owner.getD a none).map (a,·)=some x->x.1=a:=fun a x h=>by
  cases ho:owner.getD a none with
  | none=>rw[ho] at h;cases h
  | some k=>rw[ho] at h;injection h with h;rw[← h]
 rw[z a x hx,z b y hy]
 exact hab
theorem Zm {mask:Nat} {owner:Array (Option Nat)} (i:Nat):(((Qp mask owner).map (·.1)).toArray)[i]? = (Qp mask owner)[i]?.map (·.1)/\(((Qp mask owner).map (·.2)).toArray)[i]? = (Qp mask owner)[i]?.map (·.2):=by
 constructor <;> simp
theorem zD5 (mask:Nat) (owner:Array (Option Nat)):Jc ((Qp mask owner).map (·.1)).toArray:=by
 intro i k a b hik ha hb
 rw[(Zm i).1] at ha
 rw[(Zm k).1] at hb
 cases h1:(Qp mask owner)[i]? with
 | none=>rw[h1] at ha;cases ha
 | some x =>
  cases h2:(Qp mask owner)[k]? with
  | none=>rw[h2] at hb;cases hb
  | some y =>
   rw[h1] at ha;rw[h2] at hb
   injection ha with ha;injection hb with hb
   subst ha;subst hb
   obtain⟨l1,e1⟩:=List.getElem?_eq_some_iff.mp h1
   obtain⟨l2,e2⟩:=List.getElem?_eq_some_iff.mp h2
   rw[← e1,← e2]
   exact List.pairwise_iff_getElem.mp (J6 mask owner) i k l1 l2 hik
theorem zEO {mask:Nat} {owner:Array (Option Nat)} {hs:List Int} (I:OInv mask owner hs):((Qp mask owner).map (·.2)).Perm (List.range hs.length):=by
 refine (List.perm_ext_iff_of_nodup ?_ List.nodup_range).mpr fun k=>?_
 ·rw[List.Nodup,List.pairwise_map]
  have h1:=J6 mask owner
  refine List.Pairwise.imp_of_mem ?_ h1
  intro a b ha hb hab e
  have q1:=(YW I.size (j:=a.1) (k:=a.2)).mp ha
  have q2:=(YW I.size (j:=b.1) (k:=b.2)).mp hb
  rw[← e] at q2
  have:=I.one _ _ _ q1 q2
  omega
 ·rw[List.mem_map,List.mem_range]
  constructor
  ·rintro ⟨x,hx,rfl⟩
   obtain⟨h,n,e,_⟩:=I.reach _ _ ((YW I.size (j:=x.1) (k:=x.2)).mp hx)
   rcases Nat.lt_or_ge x.2 hs.length with q | q
   ·exact q
   ·rw[List.getElem?_eq_none q] at e;cases e
  ·intro hk
   obtain⟨j,e⟩:=I.all k hk
   exact⟨(j,k),(YW I.size).mpr e,rfl⟩
theorem zII {α β:Type} (f:α->Option β):∀ (l:List α),(∀ a,a∈l->∃ b,f a=some b)->∀ i:Nat,(l.filterMap f)[i]? = l[i]?.bind f
 | [],_,i=>by simp
 | a::l,h,i=>by
  obtain⟨b,hb⟩:=h a (List.mem_cons_self ..)
  rw[List.filterMap_cons_some hb]
  cases i with
  | zero=>simp[hb]
  | succ i =>
   rw[List.getElem?_cons_succ,List.getElem?_cons_succ]
   exact zII f l (fun a ha=>h a (List.mem_cons_of_mem _ ha)) i
theorem zIU {α β:Type} (f:α->Option β):∀ (l:List α),(∀ a,a∈l->∃ b,f a=some b)->(l.filterMap f).length=l.length
 | [],_=>by simp
 | a::l,h=>by
  obtain⟨b,hb⟩:=h a (List.mem_cons_self ..)
  rw[List.filterMap_cons_some hb,List.length_cons,List.length_cons,zIU f l (fun a ha=>h a (List.mem_cons_of_mem _ ha))]
theorem zHX {α:Type} (l:List α):(List.range l.length).filterMap (fun i=>l[i]?)=l:=by
 induction l with
 | nil=>simp
 | cons a t ih =>
  rw[List.length_cons,List.range_succ_eq_map,List.filterMap_cons_some (b:=a) (by simp),List.filterMap_map]
  have e:((fun i=>(a::t)[i]?) ∘ Nat.succ)=fun i=>t[i]? := by funext i;simp
  rw[e,ih]
theorem zBJ {mask:Nat} (hm:M3 mask) (finger moves:Nat) (led plain:Bool) {es:Array (Int × Value)} (hl:es.size<=mask):∃ (t':SetTable) (order:Array Nat),SetTable.laid mask finger moves led plain (es.map (·.1))=some (t',order)/\t'.mask=mask/\t'.plain=plain/\t'.led=led/\t'.moves=moves/\order.toList.Perm (List.range es.size)/\TInv t' (order.filterMap (es[·]?))/\(order.filterMap (es[·]?)).toList.Perm es.toList:=by
 obtain⟨owner,e,I⟩:=zAy hm (es.map (·.1)) (by simpa using hl)
 have hlen:(es.map (·.1)).toList.length=es.size:=by simp
 have hperm:=zEO I
 rw[hlen] at hperm
 have hsome:∀ k,k∈(Qp mask owner).map (·.2)->∃ b,es[k]? = some b:=fun k hk=>by
  have:=List.mem_range.mp (hperm.mem_iff.mp hk)
  exact⟨_,Array.getElem?_eq_getElem this⟩
 have hll:(Qp mask owner).length=es.size:=by
  have:=hperm.length_eq
  rw[List.length_map,List.length_range] at this
  exact this
 have hes:((((Qp mask owner).map (·.2)).toArray).filterMap (es[·]?)).toList=((Qp mask owner).map (·.2)).filterMap (es[·]?):=by rw[Array.toList_filterMap]
 have hesz:((((Qp mask owner).map (·.2)).toArray).filterMap (es[·]?)).size=es.size:=by
  rw[← Array.length_toList,hes,zIU _ _ hsome,List.length_map,hll]
 have hesg:∀ i:Nat,((((Qp mask owner).map (·.2)).toArray).filterMap (es[·]?))[i]? = (Qp mask owner)[i]?.bind fun x=>es[x.2]? := fun i=>by
  rw[← Array.getElem?_toList,hes,zII _ _ hsome,List.getElem?_map]
  cases (Qp mask owner)[i]? <;> rfl
 refine⟨_,_,by unfold SetTable.laid;rw[e];rfl,rfl,rfl,rfl,rfl,hperm,⟨hm,rfl,zD5 mask owner,?_,?_,?_,?_⟩,?_⟩
 ·rw[hesz]
  show (((Qp mask owner).map (·.1)).toArray).size=es.size
  rw[List.size_toArray,List.length_map,hll]
 ·intro i j hi
  have hi:(((Qp mask owner).map (·.1)).toArray)[i]? = some j:=hi
  rw[(Zm i).1] at hi
  cases hx:(Qp mask owner)[i]? with
  | none=>rw[hx] at hi;cases hi
  | some x =>
   rw[hx] at hi;injection hi with hi;subst hi
   have:=(YW I.size (j:=x.1) (k:=x.2)).mp (List.mem_of_getElem? hx)
   show x.1<=mask
   rcases Nat.lt_or_ge x.1 owner.size with q | q
   ·rw[I.size] at q;omega
   ·rw[Array.getElem?_eq_none q] at this;cases this
 ·rintro j en ⟨i,h1,h2⟩
  have h1:(((Qp mask owner).map (·.1)).toArray)[i]? = some j:=h1
  rw[(Zm i).1] at h1
  have h2:((((Qp mask owner).map (·.2)).toArray).filterMap (es[·]?))[i]? = some en:=h2
  rw[hesg] at h2
  cases hx:(Qp mask owner)[i]? with
  | none=>rw[hx] at h1;cases h1
  | some x =>
   rw[hx] at h1 h2;injection h1 with h1;subst h1
   have h2:es[x.2]? = some en:=h2
   obtain⟨h,n,a1,a2,a3⟩:=I.reach _ _ ((YW I.size (j:=x.1) (k:=x.2)).mp (List.mem_of_getElem? hx))
   have eh:h=en.1:=by
    rw[Array.getElem?_toList,Array.getElem?_map,h2] at a1
    injection a1 with a1
    exact a1.symm
   subst eh
   refine⟨n,a2,fun m hm'=>?_⟩
   have hlt:(sq mask en.1 m).j < owner.size:=by have:=(zAn mask en.1 m).jle;rw[I.size];omega
   have hq:=a3 m hm'
   rw[Array.getElem?_eq_getElem hlt] at hq
   cases ho:owner[(sq mask en.1 m).j] with
   | none=>rw[ho] at hq;exact absurd rfl hq
   | some k' =>
    have:((sq mask en.1 m).j,k')∈Qp mask owner:=(YW I.size).mpr (by rw[Array.getElem?_eq_getElem hlt,ho])
    obtain⟨i',hi'⟩:=List.mem_iff_getElem?.mp this
    refine⟨i',?_⟩
    show (((Qp mask owner).map (·.1)).toArray)[i']? = _
    rw[(Zm i').1,hi']
    rfl
 ·show _<=mask
  rw[hesz];exact hl
 ·rw[hes]
  refine (hperm.filterMap _).trans ?_
  have:=zHX es.toList
  simp only[Array.length_toList,Array.getElem?_toList] at this
  rw[this]
theorem Wb:SetTable.sizeAbove 20 - 1=31:=by decide +kernel
theorem Wc:SetTable.sizeAbove 76 - 1=127:=by decide +kernel
theorem zFH:SetTable.grown 5=20:=by decide +kernel
theorem zDE:SetTable.grown 19=76:=by decide +kernel
end L2
namespace PySem
open L2
structure KeyS (prog:Program) (w:World) (A:Around) (s:Shared) (es:Array (Int × Value)) (key:Value) (hs:Int) (b:Nat->Bool):Prop where
 eq:∀ (i:Nat) (e:Int × Value),es[i]? = some e->SeqAt.EqAt A s e.2 key (b i)
 hash:∀ (i:Nat) (e:Int × Value),es[i]? = some e->b i=true->e.1=hs
 same:∀ (i:Nat) (e:Int × Value),es[i]? = some e->∀ (E:Value->Shared->Prop) (Q:Bool->Shared->Prop),Q true s->wpAny (model prog w) A (isSame e.2 e.2) Q E s
 seen:∀ (E:Value->Shared->Prop) (Q:Bool->Shared->Prop),Q false s->wpAny (model prog w) A (searchCouldBeSeen key ((es.filter (·.1 == hs)).toList.map (·.2))) Q E s
 kind:(∃ i t,key=.int i t)\/(∃ x t,key=.str x t/\∀ (i:Nat) (e:Int × Value),es[i]? = some e->isExactStrKey e.2=true->e.2.isStr x=b i)\/∃ a,key=.ref a
 byv:∀ (E:Value->Shared->Prop) (Q:Bool->Shared->Prop),(∀ c tk',Q c { s with toks:=tk' })->wpAny (model prog w) A (hashByValue 8 key) Q E s
section
variable {prog:Program} {w:World} {A:Around} {E:Value->Shared->Prop} {s:Shared} {es:Array (Int × Value)} {key:Value} {hs:Int} {b:Nat->Bool} {a:Addr} {o:Obj} {ep:Nat} {t:SetTable}
theorem zGZ (K:KeyS prog w A s es key hs b) (ho:s.heap.get? a=some o) (hd:o.data=.set es ep t) (I:TInv t es) {N:Nat} (hb:zGq t hs N) (hN:∀ n,n<=N->N - n < 10*SetTable.turns t.mask) {Q:SetFound->Shared->Prop}
  (there:∀ i:Nat,i < es.size->b i=true->Q (.there none) s) (free:(∀ i:Nat,i < es.size->b i=false)->Q (.free (sq t.mask hs N).j false) s) :
  ∀ (fuel n:Nat) (stand:Option SetTable.Probe),n<=N->N - n < fuel->stand.getD (t.probeStart hs)=sq t.mask hs n->(∀ m,m < n->∀ i:Nat,t.place[i]? = some (sq t.mask hs m).j->b i=false) ->
   wpAny (model prog w) A (setSearchFrom a key hs true fuel stand) Q E s:=by
 intro fuel
 induction fuel with
 | zero=>intro n stand hn h;omega
 | succ fuel ih =>
  intro n stand hn hf hst hold
  have fit:=YP I
  have e0:∀ m,sq t.mask hs (n+m)=itr t.mask m (sq t.mask hs n):=fun m=>zBq t.mask hs n m
  have hlt:∀ {i j:Nat},t.place[i]? = some j->i < es.size:=fun {i j} h=>by
   rw[← I.size]
   exact (Array.getElem?_eq_some_iff.mp h).1
  have hat:∀ {i:Nat} (hi:i < es.size),(fun i:Nat=>(es[i]?.map (·.1)).getD (0:Int)) i=es[i].1:=fun {i} hi=>by
   show (es[i]?.map (·.1)).getD (0:Int)=_
   rw[Array.getElem?_eq_getElem hi];rfl
  unfold setSearchFrom
  refine wpAny_bind (wpAny_setState_of ho hd fit ?_)
  dsimp only
  rw[zIQ I,hst]
  simp only[Bool.false_eq_true,if_false]
  have G:=zE5 I.rise I.dum (fun i:Nat=>(es[i]?.map (·.1)).getD (0:Int)) hs (10*SetTable.turns t.mask) (sq t.mask hs n) (zAn _ _ _) (N - n) (hN n hn)
   (by rw[← e0,Nat.add_sub_cancel' hn];exact hb.1) (fun m hm=>by rw[← e0];exact hb.2 (n+m) (by omega))
  have nob:∀ i:Nat,i < es.size->(es[i]?.map (·.1)).getD (0:Int) ≠ hs->b i=false:=fun i hi hne=>by
   cases hbi:b i with
   | false=>rfl
   | true =>
    refine absurd ?_ hne
    rw[Array.getElem?_eq_getElem hi]
    exact K.hash i _ (Array.getElem?_eq_getElem hi) hbi
  rcases G with ⟨a1,a2⟩ | ⟨m,i,hm,hi,hh,a1,a2⟩
  ·split
   next met heq =>
    have z:=Option.some.inj (heq.symm.trans a1)
    subst z
    dsimp only
    rw[← e0,Nat.add_sub_cancel' hn]
    refine wpAny_pure (free fun i hi=>?_)
    cases hbi:b i with
    | false=>rfl
    | true =>
     have he:=Array.getElem?_eq_getElem hi
     have hhs:=K.hash i _ he hbi
     have hip:i < t.place.size:=by rw[I.size];exact hi
     have hpl:=Array.getElem?_eq_getElem hip
     obtain⟨n',h1,h2⟩:=zKt I (N:=N) (j:=t.place[i]) (e:=es[i]) (by rw[hhs];exact hb) ⟨i,hpl,he⟩
     rw[hhs] at h2
     rcases Nat.lt_or_ge n' n with q | q
     ·have:=hold n' q i (by rw[hpl,h2])
      rw[hbi] at this
      exact this
     ·have:=nob i hi (a2 (n' - n) (by omega) i (by rw[← e0,Nat.add_sub_cancel' q,hpl,h2]))
      rw[hbi] at this
      exact this
   next x heq=>exact (heq _ a1).elim
  ·split
   next met heq =>
    have z:=Option.some.inj (heq.symm.trans a1)
    subst z
    dsimp only
    have hie:=hlt hi
    have he:=Array.getElem?_eq_getElem hie
    have hsl:t.slot (itr t.mask m (sq t.mask hs n)).j=.live i:=zBP I.rise I.dum hi
    have hsm:t.sameMemory t.moves t.mask=some true:=by unfold SetTable.sameMemory;rw[if_pos (beq_self_eq_true _)]
    have nx:b i=false->wpAny (model prog w) A (setSearchFrom a key hs true fuel (some (itr t.mask (m+1) (sq t.mask hs n)))) Q E s:=fun hbi=>by
     refine ih (n+m+1) _ (by omega) (by omega) ?_ fun m' hm' i' hi'=>?_
     ·show itr t.mask (m+1) (sq t.mask hs n)=_
      rw[← e0];rfl
     ·rcases Nat.lt_or_ge m' n with q | q
      ·exact hold m' q i' hi'
      ·rw[show m'=n+(m' - n) by omega,e0] at hi'
       rcases Nat.lt_or_ge (m' - n) m with q2 | q2
       ·exact nob i' (hlt hi') (a2 _ q2 i' hi')
       ·rw[show m' - n=m by omega] at hi'
        rw[zAL I.rise hi' hi]
        exact hbi
    rw[he]
    cases hled:t.led
    case' false =>
     simp only[Bool.not_false,if_true]
     refine wpAny_bind (K.seen _ _ ?_)
     simp only[Bool.false_eq_true,if_false]
    case' true=>simp only[Bool.not_true,Bool.false_eq_true,if_false]
    all_goals
     refine wpAny_bind (wpAny_holding (K.eq i _ he prog w E _ (wpAny_bind (wpAny_setState_of ho hd fit ?_))))
     dsimp only
     cases hbi:b i with
     | true =>
      simp only[Bool.and_self,if_true]
      exact wpAny_pure (there i hie hbi)
     | false =>
      simp only[Bool.and_false,Bool.false_eq_true,if_false]
      rw[hsm]
      dsimp only
      rw[if_pos rfl,hsl]
      dsimp only
      rw[he]
      dsimp only
      refine wpAny_bind (K.same i _ he _ _ (wpAny_bind (wpAny_pure ?_)))
      rw[if_pos rfl]
      exact nx hbi
   next x heq=>exact (heq _ a1).elim
end
end PySem
namespace PySem
open L2
def SOb (h:Heap) (a:Addr) (es:Array (Int × Value)) (t:SetTable):Prop:=∃ o ep,h.get? a=some o/\o.data=.set es ep t/\o.ExactSet
structure SAt (h:Heap) (a:Addr) (es:Array (Int × Value)) (t:SetTable):Prop where
 ob:SOb h a es t
 inv:TInv t es
 free:es.size*5 < t.mask*3
section
variable {prog:Program} {w:World} {A:Around} {E:Value->Shared->Prop} {s:Shared} {es:Array (Int × Value)} {key:Value} {hs:Int} {b:Nat->Bool} {a:Addr} {t:SetTable}
theorem Wv {es':Array (Int × Value)} {t':SetTable} {Q:Unit->Shared->Prop} (S:SOb s.heap a es t) (hz:es'.size<=1000) (h:∀ h',Heap.SameBut a s.heap h'->SOb h' a es' t'->Q () { s with heap:=h' }) :
  wpAny (model prog w) A (storeSet a es' t') Q E s:=by
 obtain⟨o,ep,ho,hd,hx⟩:=S
 refine wpAny_storeSet_of ho hd (h _ ?_ ?_) (by rw[sizeLine_eq];omega)
 ·exact Heap.SameBut.update s.heap a _
 ·refine⟨{ o with data:=.set es' (ep+1) t' },ep+1,?_,rfl,hx⟩
  have:=Heap.get?_update_self (Obj.putSet es' t') ho (by rw[putSet_of es' t' hd];rfl)
  rw[putSet_of es' t' hd] at this
  exact this
theorem zIE (S:SOb s.heap a es t) (I:TInv t es) {mask:Nat} (hm:M3 mask) (hg:SetTable.sizeAbove (SetTable.grown es.size) - 1=mask) (hg2:SetTable.sizeAbove (SetTable.grown es.size)<=1000) (hl:es.size*5 < mask*3) {Q:Unit->Shared->Prop}
  (h:∀ h' es' t',Heap.SameBut a s.heap h'->es'.toList.Perm es.toList->SAt h' a es' t'->Q () { s with heap:=h' }):wpAny (model prog w) A (setRelay a (SetTable.grown es.size)) Q E s:=by
 have S0:=S
 obtain⟨o,ep,ho,hd,hx⟩:=S
 obtain⟨t',order,e1,e2,e3,e4,e5,e6,I2,e7⟩:=zBJ hm t.finger (t.movedTo mask) t.led t.plain (es:=es) (by omega)
 have e8:t.relaid (es.map (·.1)) (SetTable.grown es.size)=some (t',order):=by unfold SetTable.relaid;rw[hg];exact e1
 have e9:(order.filterMap (es[·]?)).size=es.size:=by rw[← Array.length_toList,e7.length_eq,Array.length_toList]
 unfold setRelay
 refine wpAny_bind (wpAny_setState_of ho hd (YP I) ?_)
 dsimp only
 rw[if_neg (by rw[sizeLine_eq];omega),e8]
 change wpAny _ _ ((do
  let es2:=order.filterMap (es[·]?)
  if es2.size != es.size then unsupported "internal:set-table-lost-an-element"
  pure (es2,t')) >>= _) _ _ _
 refine wpAny_bind ?_
 dsimp only
 rw[e9,if_neg (by simp)]
 refine wpAny_pure ?_
 dsimp only
 refine Wv S0 (by omega) fun h' sb S'=>h h' _ t' sb e7 ⟨S',I2,by rw[e9,e2];exact hl⟩
theorem WD {α:Type} (xs:Array α) (p:Nat) (x:α):(SetTable.insertAt xs p x).toList.Perm (x::xs.toList):=by
 unfold SetTable.insertAt
 rw[Array.toList_append,Array.toList_push]
 have e:(xs.extract 0 p).toList++(xs.extract p xs.size).toList=xs.toList:=by
  rw[Array.toList_extract,Array.toList_extract]
  simp only[List.extract,Nat.sub_zero,List.drop_zero]
  rw[List.take_of_length_le (l:=List.drop p xs.toList) (by rw[List.length_drop,Array.length_toList];omega)]
  exact List.take_append_drop p xs.toList
 have h:=(List.perm_middle (a:=x) (l₁:=(xs.extract 0 p).toList) (l₂:=(xs.extract p xs.size).toList))
 rw[e] at h
 simpa using h
theorem zAj (I:TInv t es) (c:Bool):TInv { t with plain:=c } es:=⟨I.m3,I.dum,I.rise,I.size,I.le,I.reach,I.room⟩
theorem zHd {es1:Array (Int × Value)} {t1:SetTable} {n:Nat} (S0:SOb s.heap a es t) (I1:TInv t1 es1) (hm:t1.mask=t.mask) (hn:es1.size=n) (hs1:n=es.size+1) (hfree:es.size*5 < t.mask*3) (hsz:es.size<=75) {Q:Bool->Shared->Prop}
  (h:∀ h' es' t',Heap.SameBut a s.heap h'->es'.toList.Perm es1.toList->SAt h' a es' t'->Q true { s with heap:=h' }) :
  wpAny (model prog w) A (do
   storeSet a es1 t1
   if (!false && t1.tooFull)=true then do
    setRelay a (SetTable.grown n)
    pure true
   else pure true) Q E s:=by
 refine wpAny_bind (Wv S0 (by omega) fun h' sb S1=>?_)
 have hfill:t1.fill=es1.size:=by unfold SetTable.fill;rw[I1.dum,I1.size];rfl
 by_cases c:t1.tooFull=true
 ·rw[show (!false && t1.tooFull)=true by rw[c];rfl,if_pos rfl]
  have hc:es1.size*5 ≥ t1.mask*3:=by
   unfold SetTable.tooFull at c
   rw[hfill] at c
   exact of_decide_eq_true c
  obtain⟨mask,hM,hg,hg2,hl⟩:∃ mask,M3 mask/\SetTable.sizeAbove (SetTable.grown n) - 1=mask/\SetTable.sizeAbove (SetTable.grown n)<=1000/\n*5 < mask*3:=by
   rcases I1.m3 with e | e | e
   ·obtain rfl:n=5:=by omega
    exact⟨31,.inr (.inl rfl),by rw[zFH,Wb],by decide +kernel,by decide⟩
   ·obtain rfl:n=19:=by omega
    exact⟨127,.inr (.inr rfl),by rw[zDE,Wc],by decide +kernel,by decide⟩
   ·omega
  subst hn
  exact wpAny_bind (zIE (s:={ s with heap:=h' }) S1 I1 hM hg hg2 hl fun h2 es2 t2 sb2 pm S2=>wpAny_pure (h h2 es2 t2 (sb.trans sb2) pm S2))
 ·rw[show (!false && t1.tooFull)=false by cases z:t1.tooFull <;> simp_all,if_neg Bool.false_ne_true]
  refine wpAny_pure (h h' es1 t1 sb (List.Perm.refl _) ⟨S1,I1,?_⟩)
  rcases Nat.lt_or_ge (es1.size*5) (t1.mask*3) with q | q
  ·exact q
  ·refine absurd ?_ c
   unfold SetTable.tooFull
   rw[hfill]
   exact decide_eq_true q
theorem zJH (K:KeyS prog w A s es key hs b) (S:SAt s.heap a es t) (hsz:es.size<=75) (hns:byScan key es=false) {Q:Bool->Shared->Prop} {fuel:Nat} (there:∀ i:Nat,i < es.size->b i=true->Q false s)
  (new:(∀ i:Nat,i < es.size->b i=false)->∀ h' es' t' tk,Heap.SameBut a s.heap h'->es'.toList.Perm ((hs,key)::es.toList)->SAt h' a es' t'->Q true { s with heap:=h',toks:=tk }) :
  wpAny (model prog w) A (setAddHashedIn a key hs (fuel+1)) Q E s:=by
 have I:=S.inv
 have S0:=S.ob
 obtain⟨o,ep,ho,hd,hx⟩:=S.ob
 have fit:=YP I
 obtain⟨N,hb,hN⟩:=zE3 I hs
 have hroom:es.size+1<=t.mask:=by have:=S.free;rcases I.m3 with e | e | e <;> omega
 unfold setAddHashedIn
 refine wpAny_bind (wpAny_setState_of ho hd fit ?_)
 dsimp only
 rw[hns,if_neg Bool.false_ne_true]
 refine wpAny_bind ?_
 unfold setSearch
 refine zGZ K ho hd I hb hN (fun i hi hbi=>?_) (fun hno=>?_) 100000 0 none (Nat.zero_le _) (by have:=hN 0 (Nat.zero_le _);have:10*SetTable.turns t.mask<=100000:=(by rcases I.m3 with e | e | e <;> rw[e] <;> decide +kernel);omega) rfl (fun m hm=>by omega)
 ·exact wpAny_pure (there i hi hbi)
 dsimp only
 refine wpAny_bind (wpAny_setState_of ho hd fit ?_)
 dsimp only
 rw[zHO I.dum]
 dsimp only
 have I1:=zFf I hb key hroom
 have hsz1:=YD es (SetTable.below t.place (sq t.mask hs N).j) (hs,key)
 have pm:=WD es (SetTable.below t.place (sq t.mask hs N).j) (hs,key)
 generalize SetTable.insertAt es (SetTable.below t.place (sq t.mask hs N).j) (hs,key)=es1 at I1 hsz1 pm ⊢
 generalize SetTable.insertAt t.place (SetTable.below t.place (sq t.mask hs N).j) (sq t.mask hs N).j=pl at I1 ⊢
 have tail:∀ (t1:SetTable) (tk:Nat),TInv t1 es1->t1.mask=t.mask->wpAny (model prog w) A (do
   storeSet a es1 t1
   if (!false && t1.tooFull)=true then do
    setRelay a (SetTable.grown (es.size+1))
    pure true
   else pure true) Q E { s with toks:=tk }:=fun t1 tk I2 hm =>
  zHd (s:={ s with toks:=tk }) S0 I2 hm hsz1 rfl S.free hsz fun h' es' t' sb pm2 S2=>new hno h' es' t' tk sb (pm2.trans pm) S2
 cases hp:t.plain with
 | true =>
  rw[hp] at I1
  rw[if_pos rfl]
  refine wpAny_bind (K.byv _ _ fun c tk=>?_)
  cases c with
  | true=>exact tail _ tk I1 rfl
  | false=>exact tail _ tk (zAj I1 false) rfl
 | false =>
  rw[hp] at I1
  rw[if_neg Bool.false_ne_true]
  exact tail _ s.toks I1 rfl
end
end PySem
namespace PySem
open L2
section
variable {prog:Program} {w:World} {A:Around} {E:Value->Shared->Prop} {s:Shared} {es:Array (Int × Value)} {key:Value} {hs:Int} {b:Nat->Bool} {a:Addr} {t:SetTable}
theorem zGC (K:KeyS prog w A s es key hs b) (S:SAt s.heap a es t) {Q:ScanMet->Shared->Prop} (found:∀ i:Nat,i < es.size->b i=true->Q (.found i) s) (absent:(∀ i:Nat,i < es.size->b i=false)->Q .absent s) :
  ∀ (Q5:List (Int × Value)) (i:Nat),es.toList.drop i=Q5->i<=es.size->(∀ j,j < i->b j=false)->wpAny (model prog w) A (setScanFrom a key hs true Q5 i) Q E s:=by
 obtain⟨o,ep,ho,hd,hx⟩:=S.ob
 have fit:=YP S.inv
 intro Q5
 induction Q5 with
 | nil =>
  intro i hr hi hold
  unfold setScanFrom
  have:es.size<=i:=by
   have:=congrArg List.length hr
   rw[List.length_drop,Array.length_toList,List.length_nil] at this
   omega
  exact wpAny_pure (absent fun j hj=>hold j (by omega))
 | cons e Q5 ih =>
  intro i hr hi hold
  obtain⟨h',y⟩:=e
  have hlt:i < es.size:=by
   have:=congrArg List.length hr
   rw[List.length_drop,Array.length_toList,List.length_cons] at this
   omega
  have he:es[i]? = some (h',y):=by
   have:=congrArg (fun l=>l[0]?) hr
   simpa using this
  have hr2:es.toList.drop (i+1)=Q5:=by
   have:=congrArg List.tail hr
   rw[List.tail_drop] at this
   simpa using this
  have nx:b i=false->wpAny (model prog w) A (setScanFrom a key hs true Q5 (i+1)) Q E s:=fun hbi=>ih (i+1) hr2 (by omega) fun j hj=>by
   rcases Nat.lt_or_ge j i with q | q
   ·exact hold j q
   ·rw[show j=i by omega];exact hbi
  unfold setScanFrom
  by_cases c:(h' == hs)=true
  ·rw[if_pos c]
   refine wpAny_bind (wpAny_setEpoch_of ho hd fit (wpAny_bind (K.eq i _ he prog w E _ ?_)))
   cases hbi:b i with
   | true =>
    simp only[Bool.and_self,if_true]
    exact wpAny_pure (found i hlt hbi)
   | false =>
    simp only[Bool.and_false,Bool.false_eq_true,if_false]
    refine wpAny_bind (wpAny_setEpoch_of ho hd fit ?_)
    rw[if_neg (by simp)]
    exact nx hbi
  ·rw[if_neg c]
   refine nx ?_
   cases hbi:b i with
   | false=>rfl
   | true=>exact absurd (by rw[beq_iff_eq];exact K.hash i _ he hbi) c
theorem zIh (K:KeyS prog w A s es key hs b) (S:SAt s.heap a es t) {Q:ScanMet->Shared->Prop} (found:∀ i:Nat,i < es.size->b i=true->Q (.found i) s) (absent:(∀ i:Nat,i < es.size->b i=false)->Q .absent s) :
  wpAny (model prog w) A (setScan a key hs true es) Q E s:=by
 have sf:=zGC K S (E:=E) found absent es.toList 0 rfl (Nat.zero_le _) (fun j hj=>by omega)
 obtain⟨o,ep,ho,hd,hx⟩:=S.ob
 have fit:=YP S.inv
 rcases K.kind with ⟨i,u,rfl⟩ | ⟨x,u,rfl,hk⟩ | ⟨c,rfl⟩
 ·exact sf
 ·unfold setScan
  dsimp only
  by_cases hall:es.all (fun e=>isExactStrKey e.2)=true
  ·rw[if_pos hall]
   have hex:∀ (i:Nat) (e:Int × Value),es[i]? = some e->e.2.isStr x=b i:=fun i e he=>hk i e he (by
    obtain⟨hi,rfl⟩:=Array.getElem?_eq_some_iff.mp he
    exact Array.all_eq_true.mp hall i hi)
   unfold setScanStrs
   cases hf:es.findIdx? (fun e=>e.2.isStr x) with
   | none =>
    dsimp only
    refine wpAny_pure (absent fun i hi=>?_)
    rw[← hex i _ (Array.getElem?_eq_getElem hi)]
    have:=Array.findIdx?_eq_none_iff.mp hf
    simpa using this _ (Array.getElem_mem hi)
   | some i =>
    dsimp only
    obtain⟨hi,h1,_⟩:=Array.findIdx?_eq_some_iff_getElem.mp hf
    have he:=Array.getElem?_eq_getElem hi
    have hbi:b i=true:=by rw[← hex i _ he];exact h1
    rw[he]
    dsimp only
    refine wpAny_bind (wpAny_setEpoch_of ho hd fit (wpAny_bind (K.eq i _ he prog w E _ ?_)))
    rw[hbi]
    simp only[Bool.and_self,if_true]
    exact wpAny_pure (found i hi hbi)
  ·rw[if_neg hall]
   exact sf
 ·exact sf
theorem zBi {es1:Array (Int × Value)} {t1:SetTable} (S0:SOb s.heap a es t) (I1:TInv t1 es1) (hm:t1.mask=t.mask) (hn:es1.size=es.size+1) (hfree:es.size*5 < t.mask*3) (hsz:es.size<=75) {Q:Option Bool->Shared->Prop}
  (h:∀ h' es' t',Heap.SameBut a s.heap h'->es'.toList.Perm es1.toList->SAt h' a es' t'->Q (some true) { s with heap:=h' }) {gv:Bool->Sem Unit} (hgv:gv false=pure ()) :
  wpAny (model prog w) A (do
   storeSet a es1 t1
   if (!false && t1.tooFull)=true then do
    gv (relayAll t1 es1 (SetTable.grown es1.size)).2.2
    storeSet a (relayAll t1 es1 (SetTable.grown es1.size)).1 (relayAll t1 es1 (SetTable.grown es1.size)).2.1
    pure (some true)
   else pure (some true)) Q E s:=by
 refine wpAny_bind (Wv S0 (by omega) fun h' sb S1=>?_)
 have hfill:t1.fill=es1.size:=by unfold SetTable.fill;rw[I1.dum,I1.size];rfl
 by_cases c:t1.tooFull=true
 ·rw[show (!false && t1.tooFull)=true by rw[c];rfl,if_pos rfl]
  have hc:es1.size*5 ≥ t1.mask*3:=by
   unfold SetTable.tooFull at c
   rw[hfill] at c
   exact of_decide_eq_true c
  obtain⟨mask,hM,hg,hl⟩:∃ mask,M3 mask/\SetTable.sizeAbove (SetTable.grown es1.size) - 1=mask/\es1.size*5 < mask*3:=by
   rcases I1.m3 with e | e | e
   ·have e5:es1.size=5:=by omega
    exact⟨31,.inr (.inl rfl),by rw[e5,zFH,Wb],by omega⟩
   ·have e19:es1.size=19:=by omega
    exact⟨127,.inr (.inr rfl),by rw[e19,zDE,Wc],by omega⟩
   ·omega
  obtain⟨t',order,e1,e2,e3,e4,e5,e6,I2,e7⟩:=zBJ hM t1.finger (t1.movedTo mask) t1.led t1.plain (es:=es1) (by omega)
  have e8:t1.relaid (es1.map (·.1)) (SetTable.grown es1.size)=some (t',order):=by unfold SetTable.relaid;rw[hg];exact e1
  have e9:(order.filterMap (es1[·]?)).size=es1.size:=by rw[← Array.length_toList,e7.length_eq,Array.length_toList]
  have e10:relayAll t1 es1 (SetTable.grown es1.size)=(order.filterMap (es1[·]?),t',false):=by
   unfold relayAll
   rw[e8]
   dsimp only
   have c1:coversAll order es1.size=true:=by unfold coversAll;exact List.isPerm_iff.mpr e6
   rw[c1,YP I2]
   rfl
  rw[e10]
  dsimp only
  rw[hgv]
  refine wpAny_bind (wpAny_pure (wpAny_bind (Wv (s:={ s with heap:=h' }) S1 (by omega) fun h2 sb2 S2=>?_)))
  exact wpAny_pure (h h2 _ t' (sb.trans sb2) e7 ⟨S2,I2,by rw[e9,e2];exact hl⟩)
 ·rw[show (!false && t1.tooFull)=false by cases z:t1.tooFull <;> simp_all,if_neg Bool.false_ne_true]
  refine wpAny_pure (h h' es1 t1 sb (List.Perm.refl _) ⟨S1,I1,?_⟩)
  rcases Nat.lt_or_ge (es1.size*5) (t1.mask*3) with q | q
  ·exact q
  ·refine absurd ?_ c
   unfold SetTable.tooFull
   rw[hfill]
   exact decide_eq_true q
theorem zG9 (K:KeyS prog w A s es key hs b) (S:SAt s.heap a es t) (hsz:es.size<=75) (hns:byScan key es=true) {Q:Bool->Shared->Prop} {fuel:Nat} (there:∀ i:Nat,i < es.size->b i=true->Q false s)
  (new:(∀ i:Nat,i < es.size->b i=false)->∀ h' es' t' tk,Heap.SameBut a s.heap h'->es'.toList.Perm ((hs,key)::es.toList)->SAt h' a es' t'->Q true { s with heap:=h',toks:=tk }) :
  wpAny (model prog w) A (setAddHashedIn a key hs (fuel+1)) Q E s:=by
 have I:=S.inv
 have S0:=S.ob
 obtain⟨o,ep,ho,hd,hx⟩:=S.ob
 have fit:=YP I
 obtain⟨N,hb,hN⟩:=zE3 I hs
 have hroom:es.size+1<=t.mask:=by have:=S.free;rcases I.m3 with e | e | e <;> omega
 unfold setAddHashedIn
 refine wpAny_bind (wpAny_setState_of ho hd fit ?_)
 dsimp only
 rw[hns,if_pos rfl]
 refine wpAny_bind ?_
 unfold setAddByScan
 refine wpAny_bind (wpAny_rule (wpAny_bind (zIh K S (fun i hi hbi=>?_) fun hno=>?_)))
 ·exact wpAny_pure (wpAny_pure (there i hi hbi))
 dsimp only
 have I1:=zFf I hb key hroom
 have hsz1:=YD es (SetTable.below t.place (sq t.mask hs N).j) (hs,key)
 have pm:=WD es (SetTable.below t.place (sq t.mask hs N).j) (hs,key)
 have el:layNew t es hs key=(SetTable.insertAt es (SetTable.below t.place (sq t.mask hs N).j) (hs,key),{ t with place:=SetTable.insertAt t.place (SetTable.below t.place (sq t.mask hs N).j) (sq t.mask hs N).j },false,false):=by
  unfold layNew
  rw[zBr I hb (hN 0 (Nat.zero_le _))]
  dsimp only
  rw[zHO I.dum]
  dsimp only
  unfold SetTable.orStandIn
  rw[YP I1,if_pos rfl]
  rfl
 rw[el]
 dsimp only
 generalize SetTable.insertAt es (SetTable.below t.place (sq t.mask hs N).j) (hs,key)=es1 at I1 hsz1 pm ⊢
 generalize SetTable.insertAt t.place (SetTable.below t.place (sq t.mask hs N).j) (sq t.mask hs N).j=pl at I1 ⊢
 have hend:∀ tk h' es' t',Heap.SameBut a s.heap h'->es'.toList.Perm es1.toList->SAt h' a es' t'->Q true { s with heap:=h',toks:=tk }:=fun tk h' es' t' sb pm2 S2=>new hno h' es' t' tk sb (pm2.trans pm) S2
 refine wpAny_bind (wpAny_of_eq (show _=(pure ():Sem Unit) from rfl) ?_)
 cases hp:t.plain with
 | true =>
  rw[hp] at I1
  rw[if_pos rfl]
  refine wpAny_bind (K.byv _ _ fun c tk=>?_)
  exact zBi (s:={ s with toks:=tk }) S0 (by cases c;exact zAj I1 false;exact I1) (by cases c <;> rfl) hsz1 S.free hsz (fun h' es' t' sb pm2 S2=>wpAny_pure (hend tk h' es' t' sb pm2 S2)) rfl
 | false =>
  rw[hp] at I1
  rw[if_neg Bool.false_ne_true]
  exact zBi (s:=s) S0 I1 rfl hsz1 S.free hsz (fun h' es' t' sb pm2 S2=>wpAny_pure (hend s.toks h' es' t' sb pm2 S2)) rfl
theorem zJo (K:KeyS prog w A s es key hs b) (S:SAt s.heap a es t) (hsz:es.size<=75) {Q:Bool->Shared->Prop} (there:∀ i:Nat,i < es.size->b i=true->Q false s)
  (new:(∀ i:Nat,i < es.size->b i=false)->∀ h' es' t' tk,Heap.SameBut a s.heap h'->es'.toList.Perm ((hs,key)::es.toList)->SAt h' a es' t'->Q true { s with heap:=h',toks:=tk }) :
  wpAny (model prog w) A (setAddHashed a key hs) Q E s:=by
 unfold setAddHashed
 refine wpAny_holding ?_
 cases hb:byScan key es with
 | true=>exact zG9 K S hsz hb there new
 | false=>exact zJH K S hsz hb there new
end
end PySem
namespace PySem
open L2 PyProof.Rows PySem.Spec
section
variable {prog:Program} {w:World} {A:Around} {R:Result->Shared->Prop} {I:Addr} {fp wr:List Addr} {G:Array GenState->Array GenState->Prop} {n:Nat} {P:Nat->Value->Prop} {St:Nat->Shared->Prop}
theorem zHF (W:WalksS prog w A.in1 I fp wr G n P St) (S:Addr) (hSf:S ∉ fp) (s₀:Shared) (J:Nat->Array (Int × Value)->Prop)
  (step:∀ (i:Nat) (v:Value) (s':Shared) (es:Array (Int × Value)) (t:SetTable) (E:Value->Shared->Prop) (Q:Bool->Shared->Prop),i < n->P i v->Moved (S::wr) G s₀ s'->J i es->SAt s'.heap S es t ->
   (∀ c h' es' t' tk,Heap.SameBut S s'.heap h'->s'.toks<=tk->SAt h' S es' t'->J (i+1) es'->Q c { s' with heap:=h',toks:=tk })->wpAny (model prog w) A.in1 (setAdd S v) Q E s') :
  ∀ (k i:Nat) (s:Shared),n - i=k->i<=n->St i s->Moved (S::wr) G s₀ s->(∃ es t,SAt s.heap S es t/\J i es) ->
   (∀ s',Moved (S::wr) G s s'->(∃ es t,SAt s'.heap S es t/\J n es)->R (.ok (.ret .none)) s') ->
   codeAny (model prog w) A (.builtin "set.update.loop" ⟨[.ref S,.ref I],[]⟩) R s:=by
 have hSw:S ∉ wr:=fun h=>hSf (W.sub _ h)
 have sub:∀ b∈wr,b∈S::wr:=fun b hb=>List.mem_cons_of_mem _ hb
 have kept:∀ {s s':Shared} {es t},Moved wr G s s'->SAt s.heap S es t->SAt s'.heap S es t:=fun {s s' es t} hm x=>by
  obtain⟨⟨o,ep,ho,r⟩,x2,x3⟩:=x
  exact⟨⟨o,ep,hm.heap S _ hSw ho,r⟩,x2,x3⟩
 intro k
 induction k with
 | zero =>
  intro i s hk hi hst _ hS hR
  obtain rfl:i=n:=by omega
  refine codeAny_builtin F.entry_set_update_loop ?_
  rw[Around.under_plainId F.plain_set_update_loop _]
  refine wpAny_bind (W.done s _ _ hst fun s' hm=>?_)
  obtain⟨es,t,x,y⟩:=hS
  exact wpAny_pure (hR s' (hm.mono sub) ⟨es,t,kept hm x,y⟩)
 | succ k ih =>
  intro i s hk hi hst hB hS hR
  have hlt:i < n:=by omega
  refine codeAny_builtin F.entry_set_update_loop ?_
  rw[Around.under_plainId F.plain_set_update_loop _]
  refine wpAny_bind (W.item i s _ _ hlt hst fun v s' hP hst' hm=>?_)
  obtain⟨es,t,x,y⟩:=hS
  have hB':Moved (S::wr) G s₀ s':=Moved.trans W.gtrans hB (hm.mono sub)
  show wpAny _ A.in1 (holding [v] (setAdd S v) >>= _) _ _ s'
  refine wpAny_bind (wpAny_holding (step i v s' es t _ _ hlt hP hB' y (kept hm x) fun c h' es' t' tk sb hk x' y'=>?_))
  refine wpAny_pure ⟨plainId_quiet F.plain_set_update_loop _,ih (i+1) _ (by omega) hlt (W.frame _ s' _ _ hst' hk fun b hb o e=>?_) (hB'.then_heap hk fun b o hb e=>(sb.2 b (fun h:b=S=>hb (by rw[h];exact List.mem_cons_self))).trans e) ⟨es',t',x',y'⟩ fun s'' hm'' hS''=>?_⟩
  ·rw[sb.2 b (fun h:b=S=>hSf (by rw[← h];exact hb))];exact e
  ·refine hR s'' (Moved.trans W.gtrans ((hm.mono sub).then_heap hk fun b o hb e=>?_) hm'') hS''
   rw[sb.2 b (fun h:b=S=>hb (by rw[h];exact List.mem_cons_self))];exact e
end
theorem zD8 (f m:Nat) (led:Bool):TInv (SetTable.fresh f m led) #[]:=by
 refine⟨.inl rfl,rfl,fun i k a b _ h=>?_,rfl,fun i j h=>?_,fun j e ⟨i,h,_⟩=>?_,Nat.zero_le _⟩
 ·have h:(#[]:Array Nat)[i]? = some a:=h
  simp at h
 ·have h:(#[]:Array Nat)[i]? = some j:=h
  simp at h
 ·have h:(#[]:Array Nat)[i]? = some j:=h
  simp at h
section
variable {prog:Program} {w:World} {A:Around} {E:Value->Shared->Prop} {s:Shared}
set_option maxHeartbeats 6400000 in
theorem zFr {l:Addr} {items:Array Value} {Q:Value->Shared->Prop} (hh:A.handled=none) (hl:s.heap.IsList l items) (J:Nat->Array (Int × Value)->Prop) (J0:J 0 #[])
  (step:∀ (i:Nat) (v:Value) (s':Shared) (es:Array (Int × Value)) (t:SetTable) (E:Value->Shared->Prop) (Q:Bool->Shared->Prop),items[i]? = some v->s'={ s with heap:=s'.heap,toks:=s'.toks }->s.toks<=s'.toks->(∀ b o,b < s.heap.objs.size->s.heap.get? b=some o->s'.heap.get? b=some o)->J i es->SAt s'.heap s.heap.objs.size es t ->
   (∀ c h' es' t' tk,Heap.SameBut s.heap.objs.size s'.heap h'->s'.toks<=tk->SAt h' s.heap.objs.size es' t'->J (i+1) es'->Q c { s' with heap:=h',toks:=tk })->wpAny (model prog w) A.in1.in1.in1 (setAdd s.heap.objs.size v) Q E s')
  (h:∀ (h':Heap) (tk:Nat) es t,SAt h' s.heap.objs.size es t->J items.size es->(∀ b o,b < s.heap.objs.size->s.heap.get? b=some o->h'.get? b=some o)->Q (.ref s.heap.objs.size) { s with heap:=h',toks:=tk }) :
  wpAny (model prog w) A (call (.type "set") [.ref l]) Q E s:=by
 obtain⟨c,tl,hmro⟩:=F.called_set.mro
 have hmade:=F.called_set.made
 have hsub:=F.called_set.sub
 refine wpAny_call (codeAny_of_tree ?_)
 show wpAny _ _ (callAny (.type "set") _) _ _ _
 refine wpAny_pure ⟨Code.quiet_builtin _ (by decide +kernel),codeAny_builtin F.entry_type_call ?_⟩
 rw[Around.under_plain (weight_type_call_type "set" [.ref l] []) rfl]
 have h1:=F.called_set.notType
 have h2:=F.called_set.canCreate
 have hct:=F.typeCall_set_1 (.ref l)
 repeat (any_goals (first | assumption | wp_step))
 refine codeAny_mono (code_set_new_1 (.ref l) (E:=E) (Q₁:=fun obj s₁=>∃ led:Bool,obj=.ref s.heap.objs.size/\s₁={ s with heap:=s.heap.push { cls:=.type "set",dict:=none,data:=.set #[] 0 (.fresh 0 0 led) } }) fun led=>⟨led,rfl,rfl⟩) fun r s₁ hr=>?_
 cases r with
 | error e=>exact hr
 | ok fl =>
  cases fl with
  | ret obj =>
   obtain⟨led,rfl,rfl⟩:=hr
   have hS:(s.heap.push { cls:=.type "set",dict:=none,data:=.set #[] 0 (.fresh 0 0 led) }).get? s.heap.objs.size=some { cls:=.type "set",dict:=none,data:=.set #[] 0 (.fresh 0 0 led) }:=Heap.get?_push_size _ rfl
   have hT:Shared.TypeIs { s with heap:=s.heap.push { cls:=.type "set",dict:=none,data:=.set #[] 0 (.fresh 0 0 led) } } (.ref s.heap.objs.size) "set" := ⟨_,hS,rfl⟩
   have hli:=F.called_set.init.lookup
   have hbi:=F.called_set.init.bind (.ref s.heap.objs.size)
   repeat (any_goals (first | assumption | wp_step))
   refine codeAny_mono (codeAny_call_builtin (R:=wants (fun r s₂=>r=.none/\∃ h' tk,s₂={ s with heap:=h',toks:=tk }/\(∃ es t,SAt h' s.heap.objs.size es t/\J items.size es) /\
     (∀ b o,b < s.heap.objs.size->s.heap.get? b=some o->h'.get? b=some o)) E) F.called_set.init.plain F.entry_set_init (check_set_init_1 hT ?_)) fun r₂ s₂ hr₂=>?_
   ·obtain⟨ol,hol,hcl,nl,hdl⟩:=hl
    obtain⟨ocls,odict,odata,oslots⟩:=ol
    simp only at hcl hdl
    subst hcl;subst hdl
    have hol':(s.heap.push { cls:=.type "set",dict:=none,data:=.set #[] 0 (.fresh 0 0 led) }).get? l=some { cls:=.type "list",dict:=odict,data:=.seq items nl,slots:=oslots }:=Heap.get?_push_of_some _ hol
    have hsls:=F.sub_list_set
    have hslf:=F.sub_list_frozenset
    have hne:(Value.type "list" == Value.type "dict")=false:=by decide
    have hl1:(s.heap.push { cls:=.type "set",dict:=none,data:=.set #[] 0 (.fresh 0 0 led) }).IsList l items:=⟨_,hol',rfl,nl,rfl⟩
    unfold Builtin.«set.__init__» noKeywords Builtin.Frozenset.updateFrom
    generalize hPI:pyIter=PI
    wp_walk
    subst hPI
    refine wpAny_pyIter_list hl1 ?_
    refine wpAny_bind (wpAny_runValue ?_)
    have hlS:l < s.heap.objs.size:=Heap.lt_size hol
    have hh3:A.in1.in1.in1.handled=none:=by simp[hh]
    have hneI:l ≠ (s.heap.push { cls:=.type "set",dict:=none,data:=.set #[] 0 (.fresh 0 0 led) }).objs.size:=by
     rw[Heap.size_push];exact Nat.ne_of_lt (Nat.lt_succ_of_lt hlS)
    have hSf:s.heap.objs.size ∉ [(s.heap.push { cls:=.type "set",dict:=none,data:=.set #[] 0 (.fresh 0 0 led) }).objs.size,l]:=by
     rw[Heap.size_push];simp only[List.mem_cons,List.mem_singleton,List.not_mem_nil,or_false,not_or]
     exact⟨Nat.ne_of_lt (Nat.lt_succ_self _),Nat.ne_of_gt hlS⟩
    have far:∀ b,b < s.heap.objs.size->b ∉ s.heap.objs.size::[(s.heap.push { cls:=.type "set",dict:=none,data:=.set #[] 0 (.fresh 0 0 led) }).objs.size]:=fun b hb z=>by
     rw[Heap.size_push] at z
     simp only[List.mem_cons,List.mem_singleton,List.not_mem_nil,or_false] at z
     omega
    refine zHF ((Walks.list hh3 _ l hneI items).toS) s.heap.objs.size hSf _ J (fun i v s' es t E Q _ hv hM y x hq=>step i v s' es t E Q hv hM.eq_with hM.toks (fun b o hb e=>hM.heap b o (far b hb) e) y x hq) (items.size - 0) 0 _ (by omega) (Nat.zero_le _)
     ⟨⟨_,Heap.get?_push_size _ rfl,rfl,rfl⟩,(hl1.push _)⟩ ⟨fun b o _ e=>Heap.get?_push_of_some _ (Heap.get?_push_of_some _ e),rfl,rfl,rfl,Nat.le_refl _⟩ ⟨#[],.fresh 0 0 led,⟨⟨_,0,Heap.get?_push_of_some _ hS,rfl,rfl,rfl,rfl⟩,zD8 0 0 led,(show 0*5 < 7*3 by decide)⟩,J0⟩ ?hR
    case hR =>
     intro s' hm hS'
     obtain⟨h',g',d',tk',os'⟩:=s'
     have eg:g'=s.gens:=hm.gens
     have ed:d'=s.drawn:=hm.drawn
     have eo:os'=s.os:=hm.os
     subst eg;subst ed;subst eo
     show wpAny _ _ _ _ _ _
     refine wpAny_pure ?_
     show wpAny _ _ (ret Value.none) _ _ _
     exact wpAny_pure ⟨rfl,h',tk',rfl,hS',fun b o hb e=>hm.heap b o (far b hb) (Heap.get?_push_of_some _ (Heap.get?_push_of_some _ e))⟩
   ·cases r₂ with
    | error e=>exact hr₂
    | ok fl₂ =>
     cases fl₂ with
     | ret r =>
      obtain⟨rfl,h',tk,rfl,⟨es,t,x,y⟩,hk'⟩:=hr₂
      repeat (any_goals (first | assumption | wp_step))
      exact h _ _ es t x y hk'
     | _=>exact hr₂.elim
  | _=>exact hr.elim
end
end PySem
namespace L2
open PySem PySem.Spec PyProof.Rows
section
variable {X:Cx} {pins:List (Addr × Obj)} {σ:St} {H:Hp} {s:Shared}
theorem zKw {k:Kd} {x:V} {u:Value} {A:Around} (hk:IsK H k x) (rx:RelV x u) {M:Model} (E:Value->Shared->Prop) (Q:Bool->Shared->Prop) (h:Q true s):wpAny M A (isSame u u) Q E s:=by
 cases k with
 | num i =>
  unfold IsK at hk;subst hk;obtain⟨t,rfl⟩:=rx
  unfold isSame
  dsimp only
  have e:((t+1 == 0 || t+1 == 0):Bool)=false:=by simp
  split
  ·unfold isSame.cachedInt
   rw[if_neg (by rw[e];decide)]
   exact wpAny_bind (wpAny_rule (wpAny_pure h))
  ·unfold isSame.created
   rw[if_neg (by rw[e];decide),if_pos (beq_self_eq_true _)]
   exact wpAny_pure h
 | txt i =>
  unfold IsK at hk;subst hk;obtain⟨t,rfl⟩:=rx
  unfold isSame
  dsimp only
  unfold isSame.created
  have e:((t+1 == 0 || t+1 == 0):Bool)=false:=by simp
  rw[if_neg (by rw[e];decide),if_pos (beq_self_eq_true _)]
  exact wpAny_pure h
 | tup ks =>
  unfold IsK at hk;obtain⟨a,vs,rfl,ha,_,hks⟩:=hk;cases rx
  unfold isSame
  dsimp only
  rw[if_pos (beq_self_eq_true _)]
  exact wpAny_pure h
theorem zKK (I:Inv X pins σ H s):∀ (n:Nat) {k:Kd} {x:V} {u:Value} {A:Around},k.deep<=n->IsK H k x->RelV x u ->
  ∀ (E:Value->Shared->Prop) (Q:Bool->Shared->Prop),Q false s->wpAny (model X.prog X.w) A (ofAClassStatement n u) Q E s:=by
 intro n
 induction n with
 | zero =>
  intro k x u A hd hk rx E Q h
  cases k with
  | num i=>unfold IsK at hk;subst hk;obtain⟨t,rfl⟩:=rx;unfold ofAClassStatement;exact wpAny_pure h
  | txt i=>unfold IsK at hk;subst hk;obtain⟨t,rfl⟩:=rx;unfold ofAClassStatement;exact wpAny_pure h
  | tup ks=>unfold Kd.deep at hd;omega
 | succ n ih =>
  intro k x u A hd hk rx E Q h
  cases k with
  | num i=>unfold IsK at hk;subst hk;obtain⟨t,rfl⟩:=rx;unfold ofAClassStatement;exact wpAny_pure h
  | txt i=>unfold IsK at hk;subst hk;obtain⟨t,rfl⟩:=rx;unfold ofAClassStatement;exact wpAny_pure h
  | tup ks =>
   unfold IsK at hk;obtain⟨a,vs,rfl,ha,_,hks⟩:=hk;cases rx
   obtain⟨its,r1,⟨o,ho,hc,m,hdt⟩,_⟩:=I.tuple (SqT.of ha)
   have hT:s.TypeIs (.ref a) "tuple" := ⟨o,ho,hc⟩
   unfold Kd.deep at hd
   have hdk:∀ j∈ks,j.deep<=n:=fun j hj=>Nat.le_trans (Kd.deep_le hj) (by omega)
   unfold ofAClassStatement
   refine wpAny_bind (wpAny_typeOf hT ?_)
   dsimp only
   rw[if_pos (by decide)]
   refine wpAny_bind (wpAny_pure ?_)
   rw[if_neg (by decide)]
   refine wpAny_bind (wpAny_seqItems (s:=s) ho hdt ?_)
   dsimp only
   refine wpAny_bind ?_
   rw[← Array.forIn_toList]
   refine wpAny_forIn_list _ (fun Q5 r s'=>r.1=none/\s'=s/\∃ lf,(∀ j∈lf,j.deep<=n)/\TK H lf Q5) _ ?_ ?_ _ _ ⟨rfl,rfl,ks,hdk,vs,hks,by simpa using r1⟩
   ·rintro y Q5 r s' ⟨hr,rfl,lf,hl,t1⟩
    obtain⟨k,kr,x,rfl,hk,rx,t2⟩:=t1.cons_inv
    refine wpAny_bind (ih (hl k List.mem_cons_self) hk rx _ _ ?_)
    rw[if_neg (by decide)]
    exact wpAny_pure ⟨rfl,rfl,kr,fun j hj=>hl j (List.mem_cons_of_mem _ hj),t2⟩
   ·rintro ⟨r1,r2⟩ s' ⟨hr,rfl,_⟩
    simp only at hr
    subst hr
    exact wpAny_pure h
theorem zLq (I:Inv X pins σ H s):∀ (n:Nat) {k:Kd} {x:V} {u:Value} {A:Around},k.deep<=n->IsK H k x->RelV x u ->
  ∀ (E:Value->Shared->Prop) (Q:Bool->Shared->Prop),(∀ c,Q c s)->wpAny (model X.prog X.w) A (hashByValue n u) Q E s:=by
 intro n
 induction n with
 | zero =>
  intro k x u A hd hk rx E Q h
  cases k with
  | num i=>unfold IsK at hk;subst hk;obtain⟨t,rfl⟩:=rx;unfold hashByValue;exact wpAny_pure (h _)
  | txt i=>unfold IsK at hk;subst hk;obtain⟨t,rfl⟩:=rx;unfold hashByValue;exact wpAny_pure (h _)
  | tup ks=>unfold Kd.deep at hd;omega
 | succ n ih =>
  intro k x u A hd hk rx E Q h
  cases k with
  | num i=>unfold IsK at hk;subst hk;obtain⟨t,rfl⟩:=rx;unfold hashByValue;exact wpAny_pure (h _)
  | txt i=>unfold IsK at hk;subst hk;obtain⟨t,rfl⟩:=rx;unfold hashByValue;exact wpAny_pure (h _)
  | tup ks =>
   unfold IsK at hk;obtain⟨a,vs,rfl,ha,_,hks⟩:=hk;cases rx
   obtain⟨its,r1,⟨o,ho,hc,m,hdt⟩,_⟩:=I.tuple (SqT.of ha)
   have hT:s.TypeIs (.ref a) "tuple" := ⟨o,ho,hc⟩
   unfold Kd.deep at hd
   have hdk:∀ j∈ks,j.deep<=n:=fun j hj=>Nat.le_trans (Kd.deep_le hj) (by omega)
   unfold hashByValue
   refine wpAny_bind (wpAny_specialOf hT PySem.F.slot_tuple_hash.lookup ?_)
   dsimp only
   refine wpAny_bind (wpAny_seqItems (s:=s) ho hdt ?_)
   refine wpAny_bind ?_
   show wpAny _ _ (forIn its.toArray _ _) _ _ _
   rw[← Array.forIn_toList]
   refine wpAny_forIn_list _ (fun Q5 r s'=>s'=s/\∃ lf,(∀ j∈lf,j.deep<=n)/\TK H lf Q5) _ ?_ ?_ _ _ ⟨rfl,ks,hdk,vs,hks,by simpa using r1⟩
   ·rintro y Q5 r s' ⟨rfl,lf,hl,t1⟩
    obtain⟨k,kr,x,rfl,hk,rx,t2⟩:=t1.cons_inv
    refine wpAny_bind (ih (hl k List.mem_cons_self) hk rx _ _ fun c=>?_)
    cases c with
    | false=>rw[if_pos (show (!false)=true from rfl)];exact wpAny_pure (wpAny_pure (h _))
    | true=>rw[if_neg (by decide)];exact wpAny_pure ⟨rfl,kr,fun j hj=>hl j (List.mem_cons_of_mem _ hj),t2⟩
   ·rintro ⟨r1,r2⟩ s' ⟨rfl,_⟩
    cases r1 <;> exact wpAny_pure (h _)
theorem zHj {α:Type} {M:Model} {A:Around} {t e:Sem α} {Q:α->Shared->Prop} {E:Value->Shared->Prop} {c:Prop} [Decidable c] (h1:wpAny M A t Q E s) (h2:wpAny M A e Q E s):wpAny M A (if c then t else e) Q E s:=by
 split
 ·exact h1
 ·exact h2
theorem zBK {α β:Type} {R:α->β->Prop} {l:List α} {m:List β} (h:Paired R l m):∀ {i:Nat} {e:β},m[i]? = some e->∃ a,l[i]? = some a/\R a e:=by
 induction h with
 | nil=>intro i e he;simp at he
 | cons r t ih =>
  intro i e he
  cases i with
  | zero=>simp at he;subst he;exact⟨_,rfl,r⟩
  | succ i=>simp at he;obtain⟨a,h1,h2⟩:=ih he;exact⟨a,by simpa using h1,h2⟩
theorem zLN (I:Inv X pins σ H s) {k:Kd} {x:V} {u:Value} {A:Around} (hk:IsK H k x) (hd:k.deep<=6) (rx:RelV x u) (l:List Value) (hl:∀ y∈l,∃ k' x',IsK H k' x'/\k'.deep<=6/\RelV x' y)
  (E:Value->Shared->Prop) (Q:Bool->Shared->Prop) (h:Q false s):wpAny (model X.prog X.w) A (searchCouldBeSeen u l) Q E s:=by
 unfold searchCouldBeSeen
 refine wpAny_bind ?_
 refine wpAny_forIn_list _ (fun Q5 r s'=>r.1=none/\s'=s/\∀ y∈Q5,∃ k' x',IsK H k' x'/\k'.deep<=6/\RelV x' y) _ ?_ ?_ _ _ ⟨rfl,rfl,hl⟩
 ·rintro y Q5 r s' ⟨hr,rfl,hl⟩
  obtain⟨k',x',hk',hd',rx'⟩:=hl y List.mem_cons_self
  have nx:∀ z∈Q5,∃ k' x',IsK H k' x'/\k'.deep<=6/\RelV x' z:=fun z hz=>hl z (List.mem_cons_of_mem _ hz)
  refine zHj (wpAny_pure ⟨rfl,rfl,nx⟩) ?_
  ·refine wpAny_bind (zEy I 8 (by omega) hk rx _ _ s'.toks ?_)
   rw[if_neg (by decide)]
   refine wpAny_bind (zEy I 8 (by omega) hk' rx' _ _ s'.toks ?_)
   rw[if_neg (by decide)]
   refine wpAny_bind (zKK I 8 (by omega) hk rx _ _ ?_)
   rw[if_neg (by decide)]
   refine wpAny_bind (zKK I 8 (by omega) hk' rx' _ _ ?_)
   rw[if_neg (by decide)]
   exact wpAny_pure ⟨rfl,rfl,nx⟩
 ·rintro ⟨r1,r2⟩ s' ⟨hr,rfl,_⟩
  simp only at hr
  subst hr
  exact wpAny_pure h
def ER (w:World) (H:Hp) (q:Kd × V) (e:Int × Value):Prop:=e.1=q.1.hsh w/\RelV q.2 e.2/\IsK H q.1 q.2/\q.1.deep<=6
def bS (qs:List (Kd × V)) (k:Kd):Nat->Bool:=fun i=>(qs[i]?.map fun q=>decide (q.1=k)).getD false
theorem zDO {qs:List (Kd × V)} {k:Kd} {i:Nat} {q:Kd × V} (h:qs[i]? = some q):bS qs k i=decide (q.1=k):=by unfold bS;rw[h];rfl
theorem zJM (I:Inv X pins σ H s) {k:Kd} {x:V} {u:Value} {A:Around} {qs:List (Kd × V)} {es:Array (Int × Value)} (hu:A.units+8 < cLine) (pr:Paired (ER X.w H) qs es.toList) (hk:IsK H k x) (hd:k.deep<=6) (rx:RelV x u) :
  KeyS X.prog X.w A s es u (k.hsh X.w) (bS qs k):=by
 have gt:∀ {i:Nat} {e:Int × Value},es[i]? = some e->∃ q,qs[i]? = some q/\ER X.w H q e:=fun {i e} h=>by
  obtain⟨q,h1,h2⟩:=zBK pr (i:=i) (e:=e) (by simpa using h)
  exact⟨q,h1,h2⟩
 refine⟨fun i e h=>?_,fun i e h hb=>?_,fun i e h E Q hq=>?_,fun E Q hq=>?_,?_,fun E Q hq=>zLq I 8 (by omega) hk rx E Q fun c=>hq c s.toks⟩
 ·obtain⟨q,h1,h2,h3,h4,h5⟩:=gt h
  rw[zDO h1]
  have z:=zD6 I 6 (A:=A) h5 h4 hk h3 rx (by omega)
  rw[Kd.eqb_dec] at z
  exact z
 ·obtain⟨q,h1,h2,_⟩:=gt h
  rw[zDO h1] at hb
  rw[h2,of_decide_eq_true hb]
 ·obtain⟨q,h1,h2,h3,h4,h5⟩:=gt h
  exact zKw h4 h3 E Q hq
 ·refine zLN I hk hd rx _ (fun y hy=>?_) E Q hq
  obtain⟨e,he,rfl⟩:=List.mem_map.mp hy
  have he2:e∈es:=by
   have:=Array.mem_toList_iff.mp he
   exact (Array.mem_filter.mp this).1
  obtain⟨i,hi⟩:=List.mem_iff_getElem?.mp (Array.mem_toList_iff.mpr he2)
  obtain⟨q,h1,h2,h3,h4,h5⟩:=gt (i:=i) (e:=e) (by simpa using hi)
  exact⟨q.1,q.2,h4,h5,h3⟩
 ·cases k with
  | num i=>unfold IsK at hk;subst hk;obtain⟨t,rfl⟩:=rx;exact .inl ⟨i,_,rfl⟩
  | txt y =>
   unfold IsK at hk;subst hk;obtain⟨t,rfl⟩:=rx
   refine .inr (.inl ⟨y,_,rfl,fun i e he hs=>?_⟩)
   obtain⟨⟨pk,px⟩,p1,p2,hr,p3,p4⟩:=gt he
   rw[zDO p1]
   dsimp only at p3 hr ⊢
   cases pk with
   | num j=>unfold IsK at p3;subst p3;obtain⟨t',e'⟩:=hr;rw[e'] at hs;cases hs
   | txt z =>
    unfold IsK at p3;subst p3;obtain⟨t',e'⟩:=hr;rw[e']
    rw[← Kd.eqb_dec]
    unfold Kd.eqb
    rfl
   | tup ls=>unfold IsK at p3;obtain⟨c,ws,rfl,_⟩:=p3;rw[show e.2=Value.ref c from hr] at hs;cases hs
  | tup ks=>unfold IsK at hk;obtain⟨a,vs,rfl,_⟩:=hk;cases rx;exact .inr (.inr ⟨a,rfl⟩)
end
end L2
namespace L2
open PySem PySem.Spec PyProof.Rows
theorem zCw {α β:Type} {R:α->β->Prop} {m m':List β} (p:m'.Perm m):∀ {l:List α},Paired R l m->∃ l',l'.Perm l/\Paired R l' m':=by
 induction p with
 | nil=>intro l h;exact⟨l,.refl _,h⟩
 | cons x p ih =>
  intro l h
  cases h with
  | cons r t =>
   obtain⟨l',p',h'⟩:=ih t
   exact⟨_::l',p'.cons _,.cons r h'⟩
 | swap x y r =>
  intro l h
  cases h with
  | cons r1 t =>
   cases t with
   | cons r2 t=>exact⟨_::_::_,.swap ..,.cons r2 (.cons r1 t)⟩
 | trans p1 p2 ih1 ih2 =>
  intro l h
  obtain⟨l1,q1,h1⟩:=ih2 h
  obtain⟨l2,q2,h2⟩:=ih1 h1
  exact⟨l2,q2.trans q1,h2⟩
def SK (w:World) (H:Hp) (ks:List Kd) (es:Array (Int × Value)):Prop:=∃ qs:List (Kd × V),Paired (ER w H) qs es.toList/\(qs.map (·.1)).Nodup/\∀ k,k∈qs.map (·.1) ↔ k∈ks
theorem zBZ:∀ {ks l:List Kd},l.Nodup->l ⊆ ks->ks.length<=l.length->ks.Nodup
 | [],_,_,_,_=>List.nodup_nil
 | k::r,l,nd,sb,hl=>by
  by_cases hk:k∈r
  ·have s2:l ⊆ r:=fun j hj=>(List.mem_cons.mp (sb hj)).elim (fun z=>z ▸ hk) id
   have:=nd.length_le_of_subset s2
   rw[List.length_cons] at hl
   omega
  ·refine List.nodup_cons.mpr ⟨hk,zBZ (l:=l.filter fun j=>decide (j ≠ k)) (List.filter_sublist.nodup nd) (fun j hj=>?_) ?_⟩
   ·obtain⟨h1,h2⟩:=List.mem_filter.mp hj
    exact (List.mem_cons.mp (sb h1)).elim (fun z=>absurd z (of_decide_eq_true h2)) id
   ·have s3:l ⊆ k::l.filter fun j=>decide (j ≠ k):=fun j hj=>by
     by_cases e:j=k
     ·rw[e];exact List.mem_cons_self
     ·exact List.mem_cons_of_mem _ (List.mem_filter.mpr ⟨hj,decide_eq_true e⟩)
    have:=nd.length_le_of_subset s3
    rw[List.length_cons] at this hl
    omega
theorem SK.size {w:World} {H:Hp} {ks:List Kd} {es:Array (Int × Value)} (h:SK w H ks es):es.size<=ks.length/\(es.size=ks.length ↔ ks.Nodup):=by
 obtain⟨qs,pr,nd,me⟩:=h
 have e:(qs.map (·.1)).length=es.size:=by rw[List.length_map,Paired.length pr,Array.length_toList]
 have s1:qs.map (·.1) ⊆ ks:=fun k hk=>(me k).mp hk
 have s2:ks ⊆ qs.map (·.1):=fun k hk=>(me k).mpr hk
 have l1:=nd.length_le_of_subset s1
 refine⟨by omega,fun he=>?_,fun hn=>?_⟩
 ·exact zBZ nd s1 (by omega)
 ·have l2:=hn.length_le_of_subset s2
  omega
theorem SK.old {w:World} {H:Hp} {ks:List Kd} {es:Array (Int × Value)} {k:Kd} (h:SK w H ks es) (hk:k∈ks):SK w H (ks++[k]) es:=by
 obtain⟨qs,pr,nd,me⟩:=h
 refine⟨qs,pr,nd,fun j=>?_⟩
 rw[me j,List.mem_append,List.mem_singleton]
 exact⟨.inl,fun z=>z.elim id fun z=>z ▸ hk⟩
theorem SK.new {w:World} {H:Hp} {ks:List Kd} {es es':Array (Int × Value)} {k:Kd} {x:V} {u:Value} (h:SK w H ks es) (hn:k ∉ ks) (hp:es'.toList.Perm ((k.hsh w,u)::es.toList)) (rx:RelV x u) (hk:IsK H k x) (hd:k.deep<=6):SK w H (ks++[k]) es':=by
 obtain⟨qs,pr,nd,me⟩:=h
 obtain⟨qs',p',pr'⟩:=zCw hp (Paired.cons (a:=(k,x)) ⟨rfl,rx,hk,hd⟩ pr)
 have pm:=p'.map (fun q:Kd × V=>q.1)
 refine⟨qs',pr',pm.nodup_iff.mpr (List.nodup_cons.mpr ⟨fun z=>hn ((me k).mp z),nd⟩),fun j=>?_⟩
 rw[pm.mem_iff,List.map_cons,List.mem_cons,me j,List.mem_append,List.mem_singleton]
 exact⟨fun z=>z.elim .inr .inl,fun z=>z.elim .inr .inl⟩
theorem zFo {H:Hp}:∀ {ks:List Kd} {xs:List V} {i:Nat} {x:V},IsKs H ks xs->xs[i]? = some x->∃ k,ks[i]? = some k/\IsK H k x
 | [],xs,i,x,h,e=>by unfold IsKs at h;rw[h] at e;simp at e
 | k::ks,xs,i,x,h,e=>by
  unfold IsKs at h
  obtain⟨v,vr,rfl,h1,h2⟩:=h
  cases i with
  | zero=>simp at e;subst e;exact⟨k,rfl,h1⟩
  | succ i=>simp at e;obtain⟨k',h3,h4⟩:=zFo h2 e;exact⟨k',by simpa using h3,h4⟩
section
variable {X:Cx} {pins:List (Addr × Obj)} {σ:St} {H:Hp} {s:Shared}
def sko (a:Addr) (n:Nat):HO:=.ext fun h=>∃ es t,SAt h a es t/\es.size=n
theorem SAt.at {h h':Heap} {a:Addr} {es:Array (Int × Value)} {t:SetTable} (x:SAt h a es t) (k:∀ o,h.get? a=some o->h'.get? a=some o):SAt h' a es t:=by
 obtain⟨⟨o,ep,ho,r⟩,x2,x3⟩:=x
 exact⟨⟨o,ep,k _ ho,r⟩,x2,x3⟩
theorem zK7 {P:Program} {w:World} {H:Hp} {h:Heap} {a:Addr} {es:Array (Int × Value)} {t:SetTable} (x:SAt h a es t):ObjOk P w H h a (sko a es.size) :=
 ⟨⟨es,t,x,rfl⟩,let ⟨o,_,ho,_⟩:=x.ob;⟨o,ho⟩,fun h1 h2 ⟨es,t,x,e⟩ k=>⟨es,t,SAt.at x k,e⟩⟩
theorem zFv (hc:X.calm=true) (I:Inv X pins σ H s) {l:Addr} {xs:List V} {ks:List Kd} (hl:SqL X.K H l xs) (hk:IsKs H ks xs) (hd:∀ k∈ks,k.deep<=6) (hn:ks.length<=76) (hu:X.A.units+12 < cLine) {Q:Value->Shared->Prop} {E:Value->Shared->Prop}
  (h:∀ s' es (t:SetTable),Inv X pins σ (upd H s.heap.objs.size (sko s.heap.objs.size es.size)) s'->SK X.w H ks es->Q (.ref s.heap.objs.size) s'):wpAny (model X.prog X.w) X.A (call (.type "set") [.ref l]) Q E s:=by
 obtain⟨its,r',pl,hz⟩:=I.list hl
 have hlen:ks.length=its.length:=by rw[← r'.length];exact (IsKs.length hk).symm
 refine zDF (zFr (I.ok.hd hc) pl.isList (fun i es=>SK X.w H (ks.take i) es) ⟨[],.nil,List.nodup_nil,fun k=>by simp⟩ (fun i v s' es t E Q hv es' ht hB y x hq=>?_) fun h' tk es t x y hB ht=>?_)
 ·have hv':its[i]? = some v:=by simpa using hv
  have hi:i < ks.length:=by rw[hlen];exact (List.getElem?_eq_some_iff.mp hv').1
  obtain⟨xv,hx,rx⟩:=zBK r' hv'
  obtain⟨k,hk1,hk2⟩:=zFo hk hx
  have hdk:=hd k (List.mem_of_getElem? hk1)
  have etake:ks.take (i+1)=ks.take i++[k]:=by rw[List.take_add_one,hk1];rfl
  have I':Inv X pins σ H s':=by rw[es'];exact I.kept (fun b o e=>hB b o (Heap.lt_size e) e) (Nat.le_trans I.tk ht)
  have hsz:=y.size.1
  rw[List.length_take] at hsz
  unfold setAdd
  refine wpAny_holding (wpAny_bind (zDF (zMI I' 6 hdk hk2 rx (by simp only[Around.in1_units];omega) _ _ s'.toks fun tk' hk'=>?_)))
  have I2:Inv X pins σ H { s' with toks:=tk' }:=I'.tok _ (Nat.le_trans I'.tk hk')
  have y0:=y
  obtain⟨qs,pr,nd,me⟩:=y
  refine zDF (zJo (s:={ s' with toks:=tk' }) (zJM I2 (by simp only[Around.in1_units];omega) pr hk2 hdk rx) x (by omega) (fun j hj hb hle=>?_) fun hno h2 es2 t2 tk2 sb pm S3 hle=>?_)
  ·refine hq false s'.heap es t tk' (Heap.SameBut.refl _ _) hk' x ?_
   rw[etake]
   refine y0.old ((me k).mp ?_)
   have hjq:j < qs.length:=by rw[Paired.length pr,Array.length_toList];exact hj
   rw[zDO (List.getElem?_eq_getElem hjq)] at hb
   exact List.mem_map.mpr ⟨_,List.getElem_mem hjq,of_decide_eq_true hb⟩
  ·refine hq true h2 es2 t2 tk2 sb (Nat.le_trans hk' hle) S3 ?_
   rw[etake]
   refine y0.new (fun z=>?_) pm rx hk2 hdk
   obtain⟨q,hq1,hq2⟩:=List.mem_map.mp ((me k).mpr z)
   obtain⟨j,hj⟩:=List.getElem?_of_mem hq1
   have hjl:j < es.size:=by
    rw[← Array.length_toList,← Paired.length pr]
    exact (List.getElem?_eq_some_iff.mp hj).1
   have:=hno j hjl
   rw[zDO hj,hq2] at this
   simp at this
 ·refine h _ es t (I.laid (t':=tk) (fun b o e=>hB b o (Heap.lt_size e) e) (Nat.le_refl _) (zK7 x) (Nat.le_trans I.tk ht)) ?_
  have:ks.take its.toArray.size=ks:=by rw[List.size_toArray,← hlen];exact List.take_length
  rw[← this]
  exact y
def zJ0 (K:W.Frag):List V->Hp->VK->Prop:=fun vs H Q=>∃ l xs ks,vs=[.ref l]/\SqL K H l xs/\IsKs H ks xs/\(∀ k∈ks,k.deep<=6)/\ks.length<=76/\∀ p n,H p=none->n<=ks.length->(n=ks.length ↔ ks.Nodup)->Q (.ref p) (upd H p (sko p n))
theorem zD3 (hc:X.calm=true) (hu:X.A.units+12 < cLine):Yf X (.type "set") (zJ0 X.K):=by
 intro pins s σ H vs us Q I r h
 obtain⟨l,xs,ks,rfl,hl,hk,hd,hn,q⟩:=h
 obtain⟨u,rfl,rx⟩:=Ww r
 cases rx
 exact zFv hc I hl hk hd hn hu fun s' es t I' y=>⟨.ref _,_,I',rfl,q _ es.size (I.hok.fresh (Nat.le_refl _)) y.size.1 y.size.2⟩
def zHk:List V->Hp->VK->Prop:=fun vs H Q=>∃ p n,vs=[.ref p]/\H p=some (sko p n)/\n<=1000/\Q (.int (n:Nat)) H
theorem zEb:Yf X (.builtin "len") zHk:=by
 intro pins s σ H vs us Q I r h
 obtain⟨p,n,rfl,hp,hn,q⟩:=h
 obtain⟨u,rfl,rx⟩:=Ww r
 cases rx
 obtain⟨⟨es,t,x,rfl⟩,_,_⟩:=I.hok p _ hp
 obtain⟨o,ep,ho,hd,hx⟩:=x.ob
 exact call_len_set ho hx hd (YP x.inv) (by omega) ⟨.int _,H,I.tok _,⟨_,rfl⟩,q⟩
end
end L2
namespace L2
open PySem PySem.Spec PyProof.Rows
@[reducible] def itT:Bool->String | true => "tuple_iterator" | false => "list_iterator"
def SI:Bool->Heap->Addr->Addr->Nat->Prop
 | true,h,it,a,i=>h.IsTupleIter it a i
 | false,h,it,a,i=>h.IsListIter it a i
def SQ:Bool->Heap->Addr->Array Value->Prop
 | true,h,a,xs=>h.IsTuple a xs
 | false,h,a,xs=>h.IsList a xs
theorem SI.at {b:Bool} {h h':Heap} {it a:Addr} {i:Nat} (x:SI b h it a i) (e:∀ o,h.get? it=some o->h'.get? it=some o):SI b h' it a i:=by
 cases b with
 | true=>obtain⟨o,ho,r⟩:=x;exact⟨o,e _ ho,r⟩
 | false=>obtain⟨o,ho,r⟩:=x;exact⟨o,e _ ho,r⟩
theorem SQ.at {b:Bool} {h h':Heap} {a:Addr} {xs:Array Value} (x:SQ b h a xs) (e:∀ o,h.get? a=some o->h'.get? a=some o):SQ b h' a xs:=by
 cases b with
 | true=>obtain⟨o,ho,r⟩:=x;exact⟨o,e _ ho,r⟩
 | false=>obtain⟨o,ho,r⟩:=x;exact⟨o,e _ ho,r⟩
theorem SI.obj {b:Bool} {h:Heap} {it a:Addr} {i:Nat} (x:SI b h it a i):∃ o,h.get? it=some o/\∀ v,o.data ≠ .cell v:=by
 cases b with
 | true=>obtain⟨o,ho,_,d⟩:=x;exact⟨o,ho,fun v z=>by rw[d] at z;cases z⟩
 | false=>obtain⟨o,ho,_,d⟩:=x;exact⟨o,ho,fun v z=>by rw[d] at z;cases z⟩
theorem SQ.lt {b:Bool} {h:Heap} {a:Addr} {xs:Array Value} (x:SQ b h a xs):a < h.objs.size:=by
 cases b with
 | true=>obtain⟨o,ho,_⟩:=x;exact Heap.lt_size ho
 | false=>obtain⟨o,ho,_⟩:=x;exact Heap.lt_size ho
section
variable {prog:Program} {w:World} {A:Around} {E:Value->Shared->Prop} {s:Shared}
theorem Zi {M:Model} {a:Addr} {Q:Option Obj->Shared->Prop} (h:Q (s.heap.get? a) s):wpAny M A (loadIfAlive a) Q E s:=fun _ _ _=>h
theorem WV {b:Bool} {a:Addr} {items:Array Value} {Q:Value->Shared->Prop} (ha:SQ b s.heap a items)
  (hQ:Q (.ref s.heap.objs.size) { s with heap:=s.heap.push { cls:=.type (itT b),data:=.fields #[.ref a,.int 0 0] } }):wpAny (model prog w) A (pyIter (.ref a)) Q E s:=by
 cases b with
 | true=>exact wpAny_pyIter_tuple ha hQ
 | false=>exact wpAny_pyIter_list ha hQ
theorem JS {b:Bool} {it a:Addr} {i:Nat} {items:Array Value} {x:Value} {Q:Value->Shared->Prop} (hit:SI b s.heap it a i) (hl:SQ b s.heap a items) (hx:items[i]? = some x)
  (hQ:∀ h',SI b h' it a (i+1)->Heap.SameBut it s.heap h'->Q x { s with heap:=h' }):wpAny (model prog w) A (Builtin.SmallTypes.nextOf (.ref it)) Q E s:=by
 cases b with
 | false=>exact wpAny_nextOf_list_item hit hl hx hQ
 | true =>
  replace hit:s.heap.IsTupleIter it a i:=hit
  obtain⟨o,ho,hc,hd⟩:=id hit
  obtain⟨ol,hol,_,nl,hdl⟩:=hl
  unfold Builtin.SmallTypes.nextOf
  refine wpAny_bind (wpAny_callSpecial?_slot (name:=Str.ofString "__next__") hit.typeIs F.slot_tuple_iterator_next
   (wpAny_call_entry F.slot_tuple_iterator_next hit.typeIs F.entry_tuple_iterator_next ?_ (F.args_tuple_iterator_next_1 _)))
  show wpAny _ _ (field (.ref it) 0 >>= _) _ _ s
  refine wpAny_bind (wpAny_field ho hd (x:=.ref a) rfl ?_)
  show wpAny _ _ (if (Value.ref a == Value.none)=true then _ else _) _ _ s
  rw[if_neg (show ¬ ((Value.ref a == Value.none)=true) from Bool.false_ne_true)]
  show wpAny _ _ (field (.ref it) 1 >>= _) _ _ s
  refine wpAny_bind (wpAny_field ho hd (x:=.int i 0) rfl ?_)
  show wpAny _ _ (seqItems? (.ref a) >>= _) _ _ s
  refine wpAny_bind (wpAny_seqItems hol hdl ?_)
  simp only[Int.toNat_natCast,hx]
  refine wpAny_bind (wpAny_setField ho hd (by simp) (wpAny_pure ⟨x,rfl,wpAny_pure (hQ _ ?_ (Heap.SameBut.update ..))⟩))
  exact⟨_,Heap.get?_update_self _ ho (Obj.isFreed_of_fields (Obj.data_mapFields hd _)),(Obj.cls_mapFields ..).trans hc,by
   rw[Obj.data_mapFields hd];simp[rawInt]⟩
theorem zAe {b:Bool} {it a:Addr} {i:Nat} {items:Array Value} {Q:Value->Shared->Prop} (hh:A.handled=none) (hit:SI b s.heap it a i) (hl:SQ b s.heap a items) (hx:items[i]? = none)
  (hE:∀ h' e,Heap.ExtBut it s.heap h'->(∃ o,h'.get? e=some o/\o.cls=.type "StopIteration")->E (.ref e) { s with heap:=h' }):wpAny (model prog w) A (Builtin.SmallTypes.nextOf (.ref it)) Q E s:=by
 cases b with
 | false=>exact wpAny_nextOf_list_end hh hit hl hx hE
 | true =>
  replace hit:s.heap.IsTupleIter it a i:=hit
  obtain⟨o,ho,hc,hd⟩:=id hit
  obtain⟨ol,hol,_,nl,hdl⟩:=hl
  unfold Builtin.SmallTypes.nextOf
  refine wpAny_bind (wpAny_callSpecial?_slot (name:=Str.ofString "__next__") hit.typeIs F.slot_tuple_iterator_next
   (wpAny_call_entry F.slot_tuple_iterator_next hit.typeIs F.entry_tuple_iterator_next ?_ (F.args_tuple_iterator_next_1 _)))
  show wpAny _ _ (field (.ref it) 0 >>= _) _ _ s
  refine wpAny_bind (wpAny_field ho hd (x:=.ref a) rfl ?_)
  show wpAny _ _ (if (Value.ref a == Value.none)=true then _ else _) _ _ s
  rw[if_neg (show ¬ ((Value.ref a == Value.none)=true) from Bool.false_ne_true)]
  show wpAny _ _ (field (.ref it) 1 >>= _) _ _ s
  refine wpAny_bind (wpAny_field ho hd (x:=.int i 0) rfl ?_)
  show wpAny _ _ (seqItems? (.ref a) >>= _) _ _ s
  refine wpAny_bind (wpAny_seqItems hol hdl ?_)
  simp only[Int.toNat_natCast,hx]
  refine wpAny_bind (wpAny_rule (wpAny_bind (wpAny_setField ho hd (by simp) ?_)))
  show wpAny _ _ (newExc (.type "StopIteration") [] >>= _) _ _ _
  refine wpAny_bind ?_
  simp only[newExc,newTuple]
  refine wpAny_bind (wpAny_newObj_type ?_ (by size_fits))
  refine wpAny_bind (m:=firstArgMember _ _) (wpAny_of_eq (a:=Value.none) (by first | rfl | (simp only[firstArgMember];rfl)) ?_)
  refine wpAny_newObj_type ?_ (by size_fits)
  simp only[raiseNew]
  refine wpAny_bind (wpAny_handled ?_)
  first | rw[show A.in1.handled=none from hh] | rw[hh]
  refine wpAny_bind (wpAny_pure (wpAny_throw ?_))
  exact hE _ _ (((Heap.SameBut.update ..).extBut.push _).push _) ⟨_,Heap.get?_push_size _ rfl,rfl⟩
theorem ZQ {M:Model} {α β:Type} {f:α->β->Sem (ForInStep β)} (I:Nat->β->Shared->Prop):∀ (l:List α) (k:Nat) (b:β) (s:Shared) (Q:β->Shared->Prop),I k b s ->
  (∀ j x b s,l[j]? = some x->I (k+j) b s->wpAny M A (f x b) (fun r s'=>∃ b',r=.yield b'/\I (k+j+1) b' s') E s)->(∀ b s,I (k+l.length) b s->Q b s)->wpAny M A (forIn l b f) Q E s
 | [],k,b,s,Q,h0,_,hd=>by
  rw[List.forIn_nil]
  exact wpAny_pure (hd b s h0)
 | x::l,k,b,s,Q,h0,hs,hd=>by
  rw[List.forIn_cons]
  refine wpAny_bind (wpAny_mono (hs 0 x b s rfl h0) (fun r s' ⟨b',e,h1⟩=>?_) fun _ _ e=>e)
  subst e
  refine ZQ I l (k+1) b' s' Q h1 (fun j y b s e h=>?_) (fun b s h=>hd b s ?_)
  ·have e1:k+1+j=k+(j+1):=by omega
   rw[e1] at h ⊢
   exact hs (j+1) y b s (by simpa using e) h
  ·have e1:k+1+l.length=k+(x::l).length:=by rw[List.length_cons];omega
   rw[e1] at h
   exact h
end
abbrev zBt (f0 f1:Value) (TI TO:Addr):Obj:={ cls:=.type "zip",dict:=none,data:=.fields #[f0,f1,.bool false,.ref TI,.ref TO],slots := #[] }
abbrev zAH (vs:Array Value):Obj:={ cls:=.type "tuple",data:=.seq vs }
abbrev Ql (qs:List (Bool × Addr × Addr)):List Addr:=qs.map (·.2.1)
structure Zp (h:Heap) (z TI TO:Addr) (qs:List (Bool × Addr × Addr)) (i:Nat) (f0 f1:Value):Prop where
 hz:h.get? z=some (zBt f0 f1 TI TO)
 ti:h.get? TI=some (zAH ((Ql qs).map Value.ref).toArray)
 to:∃ ws:Array Value,ws.size=qs.length/\h.get? TO=some (zAH ws)
 it:∀ q∈qs,SI q.1 h q.2.1 q.2.2 i
structure Apart (z TI TO:Addr) (qs:List (Bool × Addr × Addr)):Prop where
 nd:(z::TI::TO::Ql qs).Nodup
 sep:∀ q∈qs,q.2.2 ∉ (z::TI::TO::Ql qs)
 pos:0 < qs.length
 few:qs.length<=8
section
variable {prog:Program} {w:World} {A:Around} {E:Value->Shared->Prop} {s:Shared} {z TI TO:Addr} {qs:List (Bool × Addr × Addr)} {i:Nat} {f0 f1:Value}
theorem Apart.zit (D:Apart z TI TO qs) {q} (hq:q∈qs):z ≠ q.2.1/\TI ≠ q.2.1/\TO ≠ q.2.1:=by
 have nd:=D.nd
 rw[List.nodup_cons,List.nodup_cons,List.nodup_cons] at nd
 have m:q.2.1∈Ql qs:=List.mem_map.mpr ⟨q,hq,rfl⟩
 refine⟨fun e=>nd.1 ?_,fun e=>nd.2.1 ?_,fun e=>nd.2.2.1 ?_⟩
 ·rw[e];simp[m]
 ·rw[e];simp[m]
 ·rw[e];exact m
theorem Apart.zz (D:Apart z TI TO qs):z ≠ TI/\z ≠ TO/\TI ≠ TO:=by
 have nd:=D.nd
 rw[List.nodup_cons,List.nodup_cons,List.nodup_cons] at nd
 refine⟨fun e=>nd.1 ?_,fun e=>nd.1 ?_,fun e=>nd.2.1 ?_⟩ <;> (rw[e];simp)
theorem Apart.its (D:Apart z TI TO qs) {j k:Nat} {q r} (hj:qs[j]? = some q) (hk:qs[k]? = some r) (hn:j ≠ k):q.2.1 ≠ r.2.1:=by
 have nd:=D.nd
 rw[List.nodup_cons,List.nodup_cons,List.nodup_cons] at nd
 intro e
 have e1:(Ql qs)[j]? = some q.2.1:=by rw[List.getElem?_map,hj];rfl
 have e2:(Ql qs)[k]? = some q.2.1:=by rw[List.getElem?_map,hk,e];rfl
 exact hn (nodup_ixA nd.2.2.2 e1 e2)
where
 nodup_ixA {N:List Addr} (hN:N.Nodup) {i j:Nat} {x:Addr} (a:N[i]? = some x) (b:N[j]? = some x):i=j:=by
  obtain⟨h1,e1⟩:=List.getElem?_eq_some_iff.mp a
  obtain⟨h2,e2⟩:=List.getElem?_eq_some_iff.mp b
  exact (List.getElem_inj hN).mp (e1.trans e2.symm)
theorem Apart.seq (D:Apart z TI TO qs) {q} (hq:q∈qs):q.2.2 ≠ z/\q.2.2 ≠ TO/\∀ r∈qs,q.2.2 ≠ r.2.1:=by
 have n:=D.sep q hq
 refine⟨fun e=>n ?_,fun e=>n ?_,fun r hr e=>n ?_⟩
 ·rw[e];simp
 ·rw[e];simp
 ·rw[e]
  have m:r.2.1∈Ql qs:=List.mem_map.mpr ⟨r,hr,rfl⟩
  simp[m]
structure Mid (fr:Bool) (h₀ h:Heap) (z TI TO:Addr) (qs:List (Bool × Addr × Addr)) (i k:Nat) (vals:List Value):Prop where
 hz:∃ f0 f1,h.get? z=some (zBt f0 f1 TI TO)/\(fr=false->f0=.none\/∃ T:Addr,f0=rawInt T)
 to:∃ ws:Array Value,ws.size=qs.length/\h.get? TO=some (zAH ws)/\(fr=true->∀ j,j < k->ws[j]? = vals[j]?)
 it:∀ (j:Nat) (q:Bool × Addr × Addr),qs[j]? = some q->SI q.1 h q.2.1 q.2.2 (if j < k then i+1 else i)
 sz:h.objs.size=h₀.objs.size
 keep:∀ c o,c ≠ z->c ≠ TO->c ∉ Ql qs->h₀.get? c=some o->h.get? c=some o
def Due (h:Heap) (qs:List (Bool × Addr × Addr)) (i:Nat) (vals:List Value):Prop:=vals.length=qs.length/\∀ (j:Nat) (q:Bool × Addr × Addr),qs[j]? = some q->∃ items x,SQ q.1 h q.2.2 items/\items[i]? = some x/\vals[j]? = some x
theorem Mid.drawn {fr:Bool} {h₀ h h2:Heap} {k:Nat} {vals:List Value} {q:Bool × Addr × Addr} (D:Apart z TI TO qs) (m:Mid fr h₀ h z TI TO qs i k vals) (hq:qs[k]? = some q) (hs:SI q.1 h2 q.2.1 q.2.2 (i+1)) (hb:Heap.SameBut q.2.1 h h2)
  (hfr:fr=false):Mid fr h₀ h2 z TI TO qs i (k+1) vals:=by
 have mq:=List.mem_of_getElem? hq
 obtain⟨d1,d2,d3⟩:=D.zit mq
 obtain⟨f0,f1,hz,hz2⟩:=m.hz
 obtain⟨ws,w1,w2,w3⟩:=m.to
 refine⟨⟨f0,f1,hb.extBut _ _ d1 hz,hz2⟩,⟨ws,w1,hb.extBut _ _ d3 w2,fun e=>by rw[hfr] at e;cases e⟩,fun j r hj=>?_,hb.1.trans m.sz,fun c o c1 c2 c3 e=>hb.extBut _ _ (fun x=>c3 (by rw[x];exact List.mem_map.mpr ⟨q,mq,rfl⟩)) (m.keep c o c1 c2 c3 e)⟩
 by_cases hjk:j=k
 ·subst hjk
  rw[hq] at hj
  cases hj
  rw[if_pos (Nat.lt_succ_self _)]
  exact hs
 ·have z:=m.it j r hj
  have e:(if j < k then i+1 else i)=(if j < k+1 then i+1 else i):=by
   by_cases h:j < k
   ·rw[if_pos h,if_pos (by omega)]
   ·rw[if_neg h,if_neg (by omega)]
  rw[e] at z
  exact z.at fun o x=>hb.extBut _ _ (D.its hj hq hjk) x
theorem Mid.kept {h₀ h h2 h3:Heap} {k:Nat} {vals:List Value} {q:Bool × Addr × Addr} {ws:Array Value} {x:Value} (D:Apart z TI TO qs) (m:Mid true h₀ h z TI TO qs i k vals) (hq:qs[k]? = some q) (hs:SI q.1 h2 q.2.1 q.2.2 (i+1)) (hb:Heap.SameBut q.2.1 h h2)
  (w1:ws.size=qs.length) (w3:∀ j,j < k->ws[j]? = vals[j]?) (hx:vals[k]? = some x) (hto:h3.get? TO=some (zAH (ws.setIfInBounds k x))) (hb3:Heap.SameBut TO h2 h3):Mid true h₀ h3 z TI TO qs i (k+1) vals:=by
 have mq:=List.mem_of_getElem? hq
 obtain⟨d1,d2,d3⟩:=D.zit mq
 obtain⟨zi,zo,io⟩:=D.zz
 obtain⟨f0,f1,hz,hz2⟩:=m.hz
 have hk:k < qs.length:=(List.getElem?_eq_some_iff.mp hq).1
 refine⟨⟨f0,f1,hb3.extBut _ _ zo (hb.extBut _ _ d1 hz),fun e=>by cases e⟩,⟨_,by simp[w1],hto,fun _ j hj=>?_⟩,fun j r hj=>?_,(hb3.1.trans hb.1).trans m.sz,
  fun c o c1 c2 c3 e=>hb3.extBut _ _ c2 (hb.extBut _ _ (fun x=>c3 (by rw[x];exact List.mem_map.mpr ⟨q,mq,rfl⟩)) (m.keep c o c1 c2 c3 e))⟩
 ·by_cases hjk:j=k
  ·subst hjk
   rw[hx]
   simp[w1,hk]
  ·rw[Array.getElem?_setIfInBounds,if_neg (Ne.symm hjk)]
   exact w3 j (by omega)
 ·have mr:=List.mem_of_getElem? hj
  obtain⟨r1,r2,r3⟩:=D.zit mr
  by_cases hjk:j=k
  ·subst hjk
   rw[hq] at hj
   cases hj
   rw[if_pos (Nat.lt_succ_self _)]
   exact hs.at fun o x=>hb3.extBut _ _ (Ne.symm r3) x
  ·have z:=m.it j r hj
   have e:(if j < k then i+1 else i)=(if j < k+1 then i+1 else i):=by
    by_cases h:j < k
    ·rw[if_pos h,if_pos (by omega)]
    ·rw[if_neg h,if_neg (by omega)]
   rw[e] at z
   exact z.at fun o x=>hb3.extBut _ _ (Ne.symm r3) (hb.extBut _ _ (D.its hj hq hjk) x)
theorem zHM {n:Nat} (h:n<=8):n<=sizeLine:=Nat.le_trans h (by decide)
theorem zH8 {vals:List Value} {Q:Value->Shared->Prop} (D:Apart z TI TO qs) (Z:Zp s.heap z TI TO qs i f0 f1) (hf:f0=.none\/∃ T:Addr,f0=rawInt T) (hv:Due s.heap qs i vals)
  (hQ:∀ h' g0 g1,Zp h' z TI TO qs (i+1) g0 g1->(g0=.none\/∃ T:Addr,g0=rawInt T)->h'.get? s.heap.objs.size=some (zAH vals.toArray)->h'.objs.size=s.heap.objs.size+1 ->
   (∀ c o,c ≠ z->c ≠ TO->c ∉ Ql qs->s.heap.get? c=some o->h'.get? c=some o)->Q (.ref s.heap.objs.size) { s with heap:=h' }) :
  wpAny (model prog w) A (Builtin.«zip.__next__» ⟨[.ref z],[]⟩) (fun fin s'=>∃ v,fin=.done (.ret v)/\Q v s') E s:=by
 obtain⟨hl,hv⟩:=hv
 obtain⟨zi,zo,io⟩:=D.zz
 have tin:TI ∉ Ql qs:=fun m=>by
  obtain⟨q,hq,e⟩:=List.mem_map.mp m
  exact (D.zit hq).2.1 e.symm
 have sq:∀ {c:Nat} {q} {h:Heap} {k:Nat} {fr:Bool},qs[c]? = some q->Mid fr s.heap h z TI TO qs i k vals->∃ items x,SQ q.1 h q.2.2 items/\items[i]? = some x/\vals[c]? = some x:=fun {c q h k fr} e m=>by
  obtain⟨items,x,a,b,d⟩:=hv c q e
  obtain⟨e1,e2,e3⟩:=D.seq (List.mem_of_getElem? e)
  refine⟨items,x,a.at fun o y=>m.keep _ o e1 e2 (fun mm=>?_) y,b,d⟩
  obtain⟨r,hr,er⟩:=List.mem_map.mp mm
  exact e3 r hr er.symm
 have alls:qs.length<=sizeLine:=zHM D.few
 have gets:∀ {j:Nat} {v:Value},((Ql qs).map Value.ref)[j]? = some v->∃ q,qs[j]? = some q/\v=.ref q.2.1:=fun {j v} e=>by
  rw[List.getElem?_map,List.getElem?_map] at e
  cases q:qs[j]? with
  | none=>rw[q] at e;cases e
  | some r=>rw[q] at e;simp at e;exact⟨r,rfl,e.symm⟩
 show wpAny _ _ (field (.ref z) 2 >>= _) _ _ _
 refine wpAny_bind (wpAny_field Z.hz rfl (x:=.bool false) rfl ?_)
 show wpAny _ _ (field (.ref z) 3 >>= _) _ _ _
 refine wpAny_bind (wpAny_field Z.hz rfl (x:=.ref TI) rfl ?_)
 refine wpAny_bind (wpAny_seqItems Z.ti rfl ?_)
 show wpAny _ _ (if (((Ql qs).map Value.ref).toArray.isEmpty)=true then _ else _) _ _ _
 rw[if_neg (by
  have:=D.pos
  simp
  intro e
  rw[e] at this
  simp at this)]
 show wpAny _ _ (Builtin.SmallTypes.ownedTupleIsFree (.ref z) >>= _) _ _ _
 refine wpAny_bind (wpAny_mono (Q:=fun b s1=>(b=true/\s1=s)\/(b=false/\∃ h1 g1,s1={ s with heap:=h1 }/\h1.get? z=some (zBt f0 g1 TI TO)/\Heap.SameBut z s.heap h1)) ?look (fun b s1 hb=>?_) (fun _ _ e=>e))
 case look =>
  unfold Builtin.SmallTypes.ownedTupleIsFree
  refine wpAny_bind (wpAny_field Z.hz rfl (x:=f0) rfl ?_)
  rcases hf with rfl | ⟨T,rfl⟩
  ·exact wpAny_pure (.inl ⟨rfl,rfl⟩)
  ·show wpAny _ _ (loadIfAlive (Int.toNat (T:Int)) >>= _) _ _ _
   refine wpAny_bind (Zi ?_)
   cases s.heap.get? (Int.toNat (T:Int)) with
   | none=>exact wpAny_pure (.inl ⟨rfl,rfl⟩)
   | some o =>
    show wpAny _ _ (field (.ref z) 1 >>= _) _ _ _
    refine wpAny_bind (wpAny_field Z.hz rfl (x:=f1) rfl ?_)
    by_cases hb:(f1 != Value.bool true)=true
    ·rw[if_pos hb]
     refine wpAny_bind (wpAny_setField_rec Z.hz (by simp) fun h1 hz1 hs1=>wpAny_pure (.inr ⟨rfl,h1,.bool true,rfl,hz1,hs1⟩))
    ·rw[if_neg hb]
     exact wpAny_pure (.inr ⟨rfl,s.heap,f1,rfl,Z.hz,rfl,fun _ _=>rfl⟩)
 rcases hb with ⟨rfl,rfl⟩ | ⟨rfl,h1,g1,rfl,hz1,hs1⟩
 ·-- the tuple kept is free
  rw[if_pos rfl]
  refine wpAny_bind (wpAny_rule ?_)
  refine wpAny_bind (wpAny_field Z.hz rfl (x:=.ref TO) rfl ?_)
  refine wpAny_bind (wpAny_setField_rec Z.hz (by simp) fun h1 hz1 hs1=>?_)
  have m0:Mid true s1.heap h1 z TI TO qs i 0 vals:=by
   obtain⟨ws,w1,w2⟩:=Z.to
   refine⟨⟨_,_,hz1,fun e=>by cases e⟩,⟨ws,w1,hs1.extBut _ _ (Ne.symm zo) w2,fun _ j hj=>absurd hj (Nat.not_lt_zero _)⟩,fun j q hj=>?_,hs1.1,fun c o c1 _ _ e=>hs1.extBut _ _ c1 e⟩
   have mq:=List.mem_of_getElem? hj
   rw[if_neg (Nat.not_lt_zero _)]
   exact (Z.it q mq).at fun o e=>hs1.extBut _ _ (Ne.symm (D.zit mq).1) e
  refine wpAny_bind (ZQ (fun k b s'=>b=(none,())/\∃ h,s'={ s1 with heap:=h }/\Mid true s1.heap h z TI TO qs i k vals) _ 0 _ _ _ ⟨rfl,h1,rfl,m0⟩ (fun j x b s' hx hI=>?_) (fun b s' hI=>?_))
  ·obtain⟨rfl,h,rfl,m⟩:=hI
   rw[Nat.zero_add] at m ⊢
   have hx2:∃ q,qs[j]? = some q/\x=(Value.ref q.2.1,j):=by
    rw[List.getElem?_zipIdx,List.toList_toArray] at hx
    cases e:((Ql qs).map Value.ref)[j]? with
    | none=>rw[e] at hx;cases hx
    | some v =>
     rw[e] at hx
     obtain⟨q,hq,rfl⟩:=gets e
     simp at hx
     exact⟨q,hq,hx.symm⟩
   obtain⟨q,hq,rfl⟩:=hx2
   obtain⟨items,y,hs,hy,hvy⟩:=sq hq m
   have hit:=m.it j q hq
   rw[if_neg (Nat.lt_irrefl _)] at hit
   refine wpAny_bind (wpAny_onRaise ?_)
   show wpAny _ _ (Builtin.SmallTypes.nextOf (.ref q.2.1) >>= _) _ _ _
   refine wpAny_bind (JS hit hs hy fun h2 hit2 hb2=>wpAny_pure ?_)
   obtain⟨ws,w1,w2,w3⟩:=m.to
   have w2':=hb2.extBut _ _ (D.zit (List.mem_of_getElem? hq)).2.2 w2
   refine wpAny_bind (wpAny_seqItems w2' rfl ?_)
   refine wpAny_bind (wpAny_updateSeq w2' rfl ?_ (by rw[w1];exact alls) (by rw[Array.size_setIfInBounds,w1];exact Nat.le_succ_of_le alls))
   refine wpAny_bind (wpAny_letGo (wpAny_pure ⟨_,rfl,rfl,_,rfl,m.kept D hq hit2 hb2 w1 (w3 rfl) hvy ?_ (Heap.SameBut.update ..)⟩))
   rw[Heap.get?_update_self _ w2' rfl]
   simp[Obj.mapSeq]
  ·obtain⟨rfl,h,rfl,m⟩:=hI
   rw[Nat.zero_add,List.length_zipIdx,List.toList_toArray,List.length_map,List.length_map] at m
   obtain⟨ws,w1,w2,w3⟩:=m.to
   have ew:ws.toList=vals:=by
    refine List.ext_getElem? fun j=>?_
    by_cases hj:j < qs.length
    ·rw[Array.getElem?_toList];exact w3 rfl j hj
    ·rw[List.getElem?_eq_none (by simp;omega),List.getElem?_eq_none (by omega)]
   show wpAny _ _ (seqItems? (.ref TO) >>= _) _ _ _
   refine wpAny_bind (wpAny_seqItems w2 rfl ?_)
   show wpAny _ _ (newTuple ws.toList >>= _) _ _ _
   rw[ew]
   refine wpAny_bind (wpAny_newTuple ?_ (by rw[hl];exact alls))
   show wpAny _ _ (Builtin.SmallTypes.ownedTupleHandOut (.ref z) (.ref h.objs.size) >>= _) _ _ _
   refine wpAny_bind ?_
   unfold Builtin.SmallTypes.ownedTupleHandOut
   obtain⟨g0,g1,hz5,_⟩:=m.hz
   have hzlt:z < h.objs.size:=Heap.lt_size hz5
   have hz6:(h.push { cls:=.type "tuple",data:=.seq vals.toArray }).get? z=some (zBt g0 g1 TI TO):=Heap.get?_push_of_some _ hz5
   refine wpAny_bind (wpAny_setField_rec hz6 (by simp) fun h7 hz7 hs7=>?_)
   refine wpAny_setField_rec hz7 (by simp) fun h8 hz8 hs8=>?_
   have up:∀ c o,c ≠ z->h.get? c=some o->h8.get? c=some o:=fun c o c1 e=>hs8.extBut _ _ c1 (hs7.extBut _ _ c1 (Heap.get?_push_of_some _ e))
   have hT8:h8.get? h.objs.size=some (zAH vals.toArray):=hs8.extBut _ _ (Nat.ne_of_gt hzlt) (hs7.extBut _ _ (Nat.ne_of_gt hzlt) (Heap.get?_push_size _ rfl))
   have h8s:h8.objs.size=h.objs.size+1:=by rw[hs8.1,hs7.1,Heap.size_push]
   have hsz:=m.sz
   refine wpAny_pure ⟨_,rfl,?_⟩
   show Q (.ref h.objs.size) _
   rw[hsz] at hT8 h8s ⊢
   refine hQ h8 (rawInt h.objs.size) (.bool false) ⟨hz8,up _ _ (Ne.symm zi) (m.keep _ _ (Ne.symm zi) io tin Z.ti),⟨ws,w1,up _ _ (Ne.symm zo) w2⟩,fun q hq=>?_⟩ (.inr ⟨_,rfl⟩) hT8 h8s fun c o c1 c2 c3 e=>up c o c1 (m.keep c o c1 c2 c3 e)
   obtain⟨j,hj⟩:=List.mem_iff_getElem?.mp hq
   have z9:=m.it j q hj
   rw[if_pos (List.getElem?_eq_some_iff.mp hj).1] at z9
   exact z9.at fun o e=>up _ o (Ne.symm (D.zit hq).1) e
 ·-- it is held
  rw[if_neg (by decide)]
  have m0:Mid false s.heap h1 z TI TO qs i 0 vals:=by
   obtain⟨ws,w1,w2⟩:=Z.to
   refine⟨⟨_,_,hz1,fun _=>hf⟩,⟨ws,w1,hs1.extBut _ _ (Ne.symm zo) w2,fun e=>by cases e⟩,fun j q hj=>?_,hs1.1,fun c o c1 _ _ e=>hs1.extBut _ _ c1 e⟩
   have mq:=List.mem_of_getElem? hj
   rw[if_neg (Nat.not_lt_zero _)]
   exact (Z.it q mq).at fun o e=>hs1.extBut _ _ (Ne.symm (D.zit mq).1) e
  show wpAny _ _ (forIn ((Ql qs).map Value.ref).toArray (none,#[]) _ >>= _) _ _ _
  rw[← Array.forIn_toList]
  refine wpAny_bind (ZQ (fun k b s'=>b=(none,(vals.take k).toArray)/\∃ h,s'={ s with heap:=h }/\Mid false s.heap h z TI TO qs i k vals) _ 0 _ _ _ ⟨rfl,h1,rfl,m0⟩ (fun j x b s' hx hI=>?_) (fun b s' hI=>?_))
  ·obtain⟨rfl,h,rfl,m⟩:=hI
   rw[Nat.zero_add] at m ⊢
   rw[List.toList_toArray] at hx
   obtain⟨q,hq,rfl⟩:=gets hx
   obtain⟨items,y,hs,hy,hvy⟩:=sq hq m
   have hit:=m.it j q hq
   rw[if_neg (Nat.lt_irrefl _)] at hit
   refine wpAny_bind (wpAny_holding ?_)
   show wpAny _ _ (Builtin.SmallTypes.nextOf (.ref q.2.1) >>= _) _ _ _
   refine wpAny_bind (JS hit hs hy fun h2 hit2 hb2=>wpAny_pure ?_)
   refine wpAny_pure ⟨_,rfl,?_,_,rfl,m.drawn D hq hit2 hb2 rfl⟩
   rw[List.take_add_one,hvy]
   simp
  ·obtain⟨rfl,h,rfl,m⟩:=hI
   rw[Nat.zero_add,List.toList_toArray,List.length_map,List.length_map] at m ⊢
   rw[List.take_of_length_le (by omega)]
   show wpAny _ _ (newTuple (vals.toArray.toList) >>= _) _ _ _
   rw[List.toList_toArray]
   refine wpAny_bind (wpAny_newTuple ?_ (by rw[hl];exact alls))
   refine wpAny_pure ⟨_,rfl,?_⟩
   obtain⟨g0,g2,hz5,hg⟩:=m.hz
   obtain⟨ws,w1,w2,w3⟩:=m.to
   have up:∀ c o,h.get? c=some o->(h.push { cls:=.type "tuple",data:=.seq vals.toArray }).get? c=some o:=fun c o e=>Heap.get?_push_of_some _ e
   have hT8:(h.push { cls:=.type "tuple",data:=.seq vals.toArray }).get? h.objs.size=some (zAH vals.toArray):=Heap.get?_push_size _ rfl
   have h8s:(h.push { cls:=.type "tuple",data:=.seq vals.toArray }).objs.size=h.objs.size+1:=Heap.size_push ..
   have hsz:=m.sz
   show Q (.ref h.objs.size) _
   rw[hsz] at hT8 h8s ⊢
   refine hQ _ g0 g2 ⟨up _ _ hz5,up _ _ (m.keep _ _ (Ne.symm zi) io tin Z.ti),⟨ws,w1,up _ _ w2⟩,fun q hq=>?_⟩ (hg rfl) hT8 h8s fun c o c1 c2 c3 e=>up c o (m.keep c o c1 c2 c3 e)
   obtain⟨j,hj⟩:=List.mem_iff_getElem?.mp hq
   have z9:=m.it j q hj
   rw[if_pos (List.getElem?_eq_some_iff.mp hj).1] at z9
   exact z9.at fun o e=>up _ o e
theorem zJb {q:Bool × Addr × Addr} {qr:List (Bool × Addr × Addr)} {items:Array Value} {Q:Fin->Shared->Prop} (hh:A.handled=none) (D:Apart z TI TO (q::qr)) (Z:Zp s.heap z TI TO (q::qr) i f0 f1) (hf:f0=.none\/∃ T:Addr,f0=rawInt T)
  (hs:SQ q.1 s.heap q.2.2 items) (hx:items[i]? = none)
  (hE:∀ h' e,(∀ c o,c ≠ z->c ∉ Ql (q::qr)->s.heap.get? c=some o->h'.get? c=some o)->(∃ o,h'.get? e=some o/\o.cls=.type "StopIteration")->E (.ref e) { s with heap:=h' }) :
  wpAny (model prog w) A (Builtin.«zip.__next__» ⟨[.ref z],[]⟩) Q E s:=by
 have mq:q∈q::qr:=List.mem_cons_self
 have qz:=(D.zit mq).1
 have lz:=(D.seq mq).1
 have notin:∀ {c:Addr},c ∉ Ql (q::qr)->c ≠ q.2.1:=fun {c} h e=>h (by rw[e];exact List.mem_map.mpr ⟨q,mq,rfl⟩)
 show wpAny _ _ (field (.ref z) 2 >>= _) _ _ _
 refine wpAny_bind (wpAny_field Z.hz rfl (x:=.bool false) rfl ?_)
 show wpAny _ _ (field (.ref z) 3 >>= _) _ _ _
 refine wpAny_bind (wpAny_field Z.hz rfl (x:=.ref TI) rfl ?_)
 refine wpAny_bind (wpAny_seqItems Z.ti rfl ?_)
 show wpAny _ _ (if (((Ql (q::qr)).map Value.ref).toArray.isEmpty)=true then _ else _) _ _ _
 rw[if_neg (by simp)]
 show wpAny _ _ (Builtin.SmallTypes.ownedTupleIsFree (.ref z) >>= _) _ _ _
 refine wpAny_bind (wpAny_mono (Q:=fun b s1=>(b=true/\s1=s)\/(b=false/\∃ h1 g1,s1={ s with heap:=h1 }/\h1.get? z=some (zBt f0 g1 TI TO)/\Heap.SameBut z s.heap h1)) ?look (fun b s1 hb=>?_) (fun _ _ e=>e))
 case look =>
  unfold Builtin.SmallTypes.ownedTupleIsFree
  refine wpAny_bind (wpAny_field Z.hz rfl (x:=f0) rfl ?_)
  rcases hf with rfl | ⟨T,rfl⟩
  ·exact wpAny_pure (.inl ⟨rfl,rfl⟩)
  ·show wpAny _ _ (loadIfAlive (Int.toNat (T:Int)) >>= _) _ _ _
   refine wpAny_bind (Zi ?_)
   cases s.heap.get? (Int.toNat (T:Int)) with
   | none=>exact wpAny_pure (.inl ⟨rfl,rfl⟩)
   | some o =>
    show wpAny _ _ (field (.ref z) 1 >>= _) _ _ _
    refine wpAny_bind (wpAny_field Z.hz rfl (x:=f1) rfl ?_)
    by_cases hb:(f1 != Value.bool true)=true
    ·rw[if_pos hb]
     refine wpAny_bind (wpAny_setField_rec Z.hz (by simp) fun h1 hz1 hs1=>wpAny_pure (.inr ⟨rfl,h1,.bool true,rfl,hz1,hs1⟩))
    ·rw[if_neg hb]
     exact wpAny_pure (.inr ⟨rfl,s.heap,f1,rfl,Z.hz,rfl,fun _ _=>rfl⟩)
 rcases hb with ⟨rfl,rfl⟩ | ⟨rfl,h1,g1,rfl,hz1,hs1⟩
 ·rw[if_pos rfl]
  refine wpAny_bind (wpAny_rule ?_)
  refine wpAny_bind (wpAny_field Z.hz rfl (x:=.ref TO) rfl ?_)
  refine wpAny_bind (wpAny_setField_rec Z.hz (by simp) fun h1 hz1 hs1=>?_)
  refine wpAny_bind ?_
  rw[List.toList_toArray]
  simp only[Ql,List.map_cons,List.zipIdx_cons,List.forIn_cons]
  refine wpAny_bind (wpAny_bind (wpAny_onRaise ?_))
  show wpAny _ _ (Builtin.SmallTypes.nextOf (.ref q.2.1) >>= _) _ _ _
  refine wpAny_bind (zAe hh ((Z.it q mq).at fun o e=>hs1.extBut _ _ (Ne.symm qz) e) (hs.at fun o e=>hs1.extBut _ _ lz e) hx fun h2 e hs2 he=>?_)
  obtain⟨oe,hoe,hce⟩:=he
  have hz2:=hs2 _ _ qz hz1
  have hez:e ≠ z:=fun x=>by subst x;rw[hz2] at hoe;cases hoe;simp at hce
  exact wpAny_setField_rec hz2 (by simp) fun h3 _ hs3=>hE h3 e (fun c o c1 c2 x=>hs3.extBut _ _ c1 (hs2 _ _ (notin c2) (hs1.extBut _ _ c1 x))) ⟨oe,hs3.extBut _ _ hez hoe,hce⟩
 ·rw[if_neg (by decide)]
  show wpAny _ _ (forIn ((Ql (q::qr)).map Value.ref).toArray (none,#[]) _ >>= _) _ _ _
  rw[← Array.forIn_toList,List.toList_toArray]
  refine wpAny_bind ?_
  simp only[Ql,List.map_cons,List.forIn_cons]
  refine wpAny_bind (wpAny_bind (wpAny_holding ?_))
  show wpAny _ _ (Builtin.SmallTypes.nextOf (.ref q.2.1) >>= _) _ _ _
  exact wpAny_bind (zAe hh ((Z.it q mq).at fun o e=>hs1.extBut _ _ (Ne.symm qz) e) (hs.at fun o e=>hs1.extBut _ _ lz e) hx fun h2 e hs2 he=>hE h2 e (fun c o c1 c2 x=>hs2 _ _ (notin c2) (hs1.extBut _ _ c1 x)) he)
theorem Je {vals:List Value} {Q:Option Value->Shared->Prop} (D:Apart z TI TO qs) (Z:Zp s.heap z TI TO qs i f0 f1) (hf:f0=.none\/∃ T:Addr,f0=rawInt T) (hv:Due s.heap qs i vals)
  (hQ:∀ h' g0 g1,Zp h' z TI TO qs (i+1) g0 g1->(g0=.none\/∃ T:Addr,g0=rawInt T)->h'.get? s.heap.objs.size=some (zAH vals.toArray)->h'.objs.size=s.heap.objs.size+1 ->
   (∀ c o,c ≠ z->c ≠ TO->c ∉ Ql qs->s.heap.get? c=some o->h'.get? c=some o)->Q (some (.ref s.heap.objs.size)) { s with heap:=h' }) :
  wpAny (model prog w) A (pyNext (.ref z)) Q E s:=by
 have hT:s.TypeIs (.ref z) "zip" := ⟨_,Z.hz,rfl⟩
 unfold pyNext
 exact wpAny_bind (wpAny_attempt (wpAny_callSpecial?_slot (name:=Str.ofString "__next__") hT F.slot_zip_next
  (wpAny_call_entry F.slot_zip_next hT F.entry_zip_next
   (zH8 D Z hf hv fun h' g0 g1 a1 a2 a3 a4 a5=>wpAny_pure (hQ h' g0 g1 a1 a2 a3 a4 a5)) (F.args_zip_next_1 _))))
theorem J5 {q:Bool × Addr × Addr} {qr:List (Bool × Addr × Addr)} {items:Array Value} {Q:Option Value->Shared->Prop} (hh:A.handled=none) (D:Apart z TI TO (q::qr)) (Z:Zp s.heap z TI TO (q::qr) i f0 f1) (hf:f0=.none\/∃ T:Addr,f0=rawInt T)
  (hs:SQ q.1 s.heap q.2.2 items) (hx:items[i]? = none)
  (hQ:∀ h',(∀ c o,c ≠ z->c ∉ Ql (q::qr)->s.heap.get? c=some o->h'.get? c=some o)->Q none { s with heap:=h' }):wpAny (model prog w) A (pyNext (.ref z)) Q E s:=by
 have hT:s.TypeIs (.ref z) "zip" := ⟨_,Z.hz,rfl⟩
 unfold pyNext
 refine wpAny_bind (wpAny_attempt (wpAny_callSpecial?_slot (name:=Str.ofString "__next__") hT F.slot_zip_next
  (wpAny_call_entry F.slot_zip_next hT F.entry_zip_next (zJb hh D Z hf hs hx fun h' e hk he=>?_) (F.args_zip_next_1 _))))
 obtain⟨o,ho,hc⟩:=he
 refine wpAny_bind (wpAny_isInstance (T := "StopIteration") (b:=true) ⟨o,ho,hc⟩ isSubtype_stop ?_)
 exact wpAny_pure (hQ _ hk)
theorem zAT {Q:Value->Shared->Prop} (hz:s.heap.get? z=some (zBt f0 f1 TI TO)) (h:Q (.ref z) s):wpAny (model prog w) A (pyIter (.ref z)) Q E s:=by
 have hT:s.TypeIs (.ref z) "zip" := ⟨_,hz,rfl⟩
 refine wpAny_pyIter_slot hT F.slot_zip_iter (wpAny_call_entry F.slot_zip_iter hT F.entry_zip_iter ?_ (F.args_zip_iter_1 _))
 show wpAny _ _ (ret (.ref z)) _ _ s
 exact wpAny_pure ⟨_,rfl, "zip",_,hT,F.slot_zip_next.lookup,h⟩
theorem zKl {tg:Expr} {u:Value} {Q:Unit->Shared->Prop} (hz:s.heap.get? z=some (zBt f0 f1 TI TO)) (hQ:∀ h' g0,(g0=f0\/g0=.none)->h'.get? z=some (zBt g0 f1 TI TO)->Heap.SameBut z s.heap h'->Q () { s with heap:=h' }) :
  wpAny (model prog w) A (letOwnedTupleGo tg (.ref z) u) Q E s:=by
 have same:Q () s:=hQ s.heap f0 (.inl rfl) hz ⟨rfl,fun _ _=>rfl⟩
 unfold letOwnedTupleGo
 cases tg <;> first
  | exact wpAny_pure same
  | (cases u <;> first
    | exact wpAny_pure same
    | (refine wpAny_bind (wpAny_load hz ?_)
       show wpAny _ _ (if (["enumerate", "zip", "dict_itemiterator", "dict_reverseitemiterator", "odict_iterator", "itertools.zip_longest", "itertools.pairwise"].contains "zip" && (#[f0,f1,Value.bool false,.ref TI,.ref TO]:Array Value)[0]? == some (rawInt _))=true then _ else _) Q E s
       split
       . refine wpAny_bind (wpAny_rule ?_)
         show wpAny _ _ (setField (.ref z) 0 .none) Q E s
         exact wpAny_setField_rec hz (by simp) fun h' hz' hs'=>hQ h' .none (.inr rfl) hz' hs'
       . exact wpAny_pure same))
end
end L2
namespace L2
open PySem PySem.Spec PyProof.Rows
theorem zBA (a b c:Value):checkTypeCall "zip" ⟨[a,b,c],[]⟩=pure ():=by kernel_rfl
theorem zCb (a b c:Value):checkBuiltinCall "zip.__new__" ⟨[.type "zip",a,b,c],[]⟩=pure ():=by kernel_rfl
theorem zBG (a b c d:Value):argsOk "object.__init__" ⟨[a,b,c,d],[]⟩:=by
 unfold argsOk;rw[signature?_of (id := "object.__init__") (n:=['_','_','t','i','n','i','_','_']) (o:=['t','c','e','j','b','o']) (by kernel_rfl) F.owner_object];kernel_rfl
abbrev itO (b:Bool) (a:Addr):Obj:={ cls:=.type (itT b),data:=.fields #[.ref a,.int 0 0] }
theorem SI.new {b:Bool} {h:Heap} {it a:Addr} (e:h.get? it=some (itO b a)):SI b h it a 0:=by
 cases b with
 | true=>exact⟨_,e,rfl,rfl⟩
 | false=>exact⟨_,e,rfl,rfl⟩
abbrev zh1 (h:Heap) (b1:Bool) (l1:Addr):Heap:=h.push (itO b1 l1)
abbrev zh2 (h:Heap) (b1 b2:Bool) (l1 l2:Addr):Heap:=(zh1 h b1 l1).push (itO b2 l2)
abbrev zh3 (h:Heap) (b1 b2 b3:Bool) (l1 l2 l3:Addr):Heap:=(zh2 h b1 b2 l1 l2).push (itO b3 l3)
abbrev zt3 (h:Heap) (b1 b2 b3:Bool) (l1 l2 l3:Addr):Heap:=(zh3 h b1 b2 b3 l1 l2 l3).push (zAH #[.ref h.objs.size,.ref (zh1 h b1 l1).objs.size,.ref (zh2 h b1 b2 l1 l2).objs.size])
abbrev zo3 (h:Heap) (b1 b2 b3:Bool) (l1 l2 l3:Addr):Heap:=(zt3 h b1 b2 b3 l1 l2 l3).push (zAH #[.none,.none,.none])
abbrev zz3 (h:Heap) (b1 b2 b3:Bool) (l1 l2 l3:Addr):Heap:=(zo3 h b1 b2 b3 l1 l2 l3).push (zBt .none (.bool false) (zh3 h b1 b2 b3 l1 l2 l3).objs.size (zt3 h b1 b2 b3 l1 l2 l3).objs.size)
theorem zD0 (b1 b2 b3:Bool) (l1 l2 l3:Addr) (xs ys zs:Array Value) :
  Meets (Builtin.«zip.__new__» ⟨[.type "zip",.ref l1,.ref l2,.ref l3],[]⟩) (fun _ R s=>SQ b1 s.heap l1 xs/\SQ b2 s.heap l2 ys/\SQ b3 s.heap l3 zs/\R (.ok (.ret (.ref (zo3 s.heap b1 b2 b3 l1 l2 l3).objs.size))) { s with heap:=zz3 s.heap b1 b2 b3 l1 l2 l3 }) :=
 .of_wp fun prog w A R s h=>by
  obtain⟨hp,g,d,tk,os⟩:=s;obtain⟨hl1,hl2,hl3,h⟩:=h
  have hsub:=sub_zip
  have hL1:SQ b1 (Shared.heap ⟨hp,g,d,tk,os⟩) l1 xs:=hl1
  have hL2:SQ b2 (Shared.heap ⟨hp.push (itO b1 l1),g,d,tk,os⟩) l2 ys:=hl2.at fun o e=>Heap.get?_push_of_some _ e
  have hL3:SQ b3 (Shared.heap ⟨(hp.push (itO b1 l1)).push (itO b2 l2),g,d,tk,os⟩) l3 zs:=hl3.at fun o e=>Heap.get?_push_of_some _ (Heap.get?_push_of_some _ e)
  wp_walk using WV hL1,WV hL2,WV hL3
  exact⟨_,rfl,h⟩
section
variable {prog:Program} {w:World} {A:Around} {E:Value->Shared->Prop} {s:Shared}
theorem zGj {b1 b2 b3:Bool} {l1 l2 l3:Addr} {xs ys zs:Array Value} {Q:Value->Shared->Prop} (hl1:SQ b1 s.heap l1 xs) (hl2:SQ b2 s.heap l2 ys) (hl3:SQ b3 s.heap l3 zs)
  (h:∀ h',Zp h' (s.heap.objs.size+5) (s.heap.objs.size+3) (s.heap.objs.size+4) [(b1,s.heap.objs.size,l1),(b2,s.heap.objs.size+1,l2),(b3,s.heap.objs.size+2,l3)] 0 .none (.bool false) ->
   (∀ c o,s.heap.get? c=some o->h'.get? c=some o)->Q (.ref (s.heap.objs.size+5)) { s with heap:=h' }) :
  wpAny (model prog w) A (call (.type "zip") [.ref l1,.ref l2,.ref l3]) Q E s:=by
 refine callType_new F.called_zip (by decide) (zBA _ _ _) (zCb _ _ _) (fun obj=>zBG obj _ _ _) F.entry_zip_new
  (zD0 b1 b2 b3 l1 l2 l3 xs ys zs) ⟨hl1,hl2,hl3,?_⟩
 have z1:(zh1 s.heap b1 l1).objs.size=s.heap.objs.size+1:=Heap.size_push ..
 have z2:(zh2 s.heap b1 b2 l1 l2).objs.size=s.heap.objs.size+2:=by rw[Heap.size_push,z1]
 have z3:(zh3 s.heap b1 b2 b3 l1 l2 l3).objs.size=s.heap.objs.size+3:=by rw[Heap.size_push,z2]
 have z4:(zt3 s.heap b1 b2 b3 l1 l2 l3).objs.size=s.heap.objs.size+4:=by rw[Heap.size_push,z3]
 have z5:(zo3 s.heap b1 b2 b3 l1 l2 l3).objs.size=s.heap.objs.size+5:=by rw[Heap.size_push,z4]
 have g6:(zz3 s.heap b1 b2 b3 l1 l2 l3).get? (zo3 s.heap b1 b2 b3 l1 l2 l3).objs.size=some _:=Heap.get?_push_size _ rfl
 have g5:(zz3 s.heap b1 b2 b3 l1 l2 l3).get? (zt3 s.heap b1 b2 b3 l1 l2 l3).objs.size=some _:=Heap.get?_push_of_some _ (Heap.get?_push_size _ rfl)
 have g4:(zz3 s.heap b1 b2 b3 l1 l2 l3).get? (zh3 s.heap b1 b2 b3 l1 l2 l3).objs.size=some _:=Heap.get?_push_of_some _ (Heap.get?_push_of_some _ (Heap.get?_push_size _ rfl))
 have g3:(zz3 s.heap b1 b2 b3 l1 l2 l3).get? (zh2 s.heap b1 b2 l1 l2).objs.size=some (itO b3 l3):=Heap.get?_push_of_some _ (Heap.get?_push_of_some _ (Heap.get?_push_of_some _ (Heap.get?_push_size _ rfl)))
 have g2:(zz3 s.heap b1 b2 b3 l1 l2 l3).get? (zh1 s.heap b1 l1).objs.size=some (itO b2 l2):=Heap.get?_push_of_some _ (Heap.get?_push_of_some _ (Heap.get?_push_of_some _ (Heap.get?_push_of_some _ (Heap.get?_push_size _ rfl))))
 have g1:(zz3 s.heap b1 b2 b3 l1 l2 l3).get? s.heap.objs.size=some (itO b1 l1):=Heap.get?_push_of_some _ (Heap.get?_push_of_some _ (Heap.get?_push_of_some _ (Heap.get?_push_of_some _ (Heap.get?_push_of_some _ (Heap.get?_push_size _ rfl)))))
 show _/\_
 rw[z3,z4,z5] at g6
 rw[z1,z2,z3] at g4
 rw[z4] at g5
 rw[z2] at g3
 rw[z1] at g2
 rw[z5]
 refine⟨⟨_,g6,rfl⟩,h _ ⟨g6,g4,⟨_,rfl,g5⟩,fun q hq=>?_⟩ fun c o x=>?_⟩
 ·rcases List.mem_cons.mp hq with rfl | hq
  ·exact .new g1
  ·rcases List.mem_cons.mp hq with rfl | hq
   ·exact .new g2
   ·rw[List.mem_singleton.mp hq];exact .new g3
 ·exact Heap.get?_push_of_some _ (Heap.get?_push_of_some _ (Heap.get?_push_of_some _ (Heap.get?_push_of_some _ (Heap.get?_push_of_some _ (Heap.get?_push_of_some _ x)))))
end
def SqB (K:W.Frag):Bool->Hp->Addr->List V->Prop
 | true,H,a,xs=>SqT K H a xs
 | false,H,a,xs=>SqL K H a xs
def Itz (K:W.Frag) (ps:List (Bool × Addr)):It :=
 ⟨fun i H=>∀ p∈ps,∃ xs x,SqB K p.1 H p.2 xs/\xs[i]? = some x,fun i H v H'=>∃ a ys,v=.ref a/\H a=none/\H'=upd H a (.tup ys)/\Paired (fun y p=>∀ xs,SqB K p.1 H p.2 xs->xs[i]? = some y) ys ps,
  fun i H=>∃ p xs,ps.head? = some p/\SqB K p.1 H p.2 xs/\xs.length<=i⟩
section
variable {X:Cx} {pins:List (Addr × Obj)} {σ:St} {H:Hp} {s:Shared} {h':Heap}
theorem Inv.seqB {b:Bool} {a:Addr} {xs:List V} (I:Inv X pins σ H s) (h:SqB X.K b H a xs):∃ its:List Value,Vals xs its/\SQ b s.heap a its.toArray:=by
 cases b with
 | true=>obtain⟨its,rv,p,_⟩:=I.tuple h;exact⟨its,rv,p⟩
 | false=>obtain⟨its,rv,p,_⟩:=I.list h;exact⟨its,rv,p.isList⟩
theorem Inv.seqB_inj {b:Bool} {a:Addr} {xs ys:List V} (I:Inv X pins σ H s) (h:SqB X.K b H a xs) (h2:SqB X.K b H a ys):xs=ys:=by
 cases b with
 | true=>exact I.tuple_inj h h2
 | false=>exact I.list_inj h h2
theorem Inv.turnedN {t':Nat} {fp:List Addr} (I:Inv X pins σ H s) (k:∀ b o,b ∉ fp->s.heap.get? b=some o->h'.get? b=some o) (hf:∀ b∈fp,Zd X pins H b) (htk:1<=t':=by first | exact Nat.le_add_left _ _ | exact Inv.tk (by assumption) | assumption | omega):Inv X pins σ H { s with heap:=h',toks:=t' }:=by
 have ne:∀ b u,H b=some u->b ∉ fp:=fun b u e z=>by rw[(hf b z).1] at e;cases e
 have nl:X.env.locals ∉ fp:=fun z=>(hf _ z).2.1 rfl
 refine I.step (g':=s.gens) (d':=s.drawn) (ch:=fp) (fun b hb=>?_) (fun b o _ _ hc q _=>k b o hc q) (fun b o _ _ hc q _=>⟨o.slots,k b o hc q⟩) (fun _ _ _ _ n=>n)
  (fun b o hc q=>⟨o,k b o hc q⟩) (fun _ _ e=>e) (fun _ _ _ e=>e) (fun b ps e=>⟨#[],by rw[e];simp⟩) (fun m hm=>?_) (fun b u q=>?_) I.bare htk
 ·obtain⟨f0,f1,f2,f3,f4,f5⟩:=hf b hb
  exact⟨f3,f1,f4,f5⟩
 ·obtain⟨o,es,ep,ho,r⟩:=hm
  exact⟨o,es,ep,k _ o nl ho,r⟩
 ·refine (I.hok b u q).stay (fun c v hc q2=>k c v ?_ q2) (fun _ q=>q) fun _ _ q=>q
  rcases hc with z | z
  ·rw[z];exact ne b u q
  ·exact ne c _ z
theorem Inv.turnedNT {t':Nat} {fp:List Addr} {ys:List V} {its:List Value} (I:Inv X pins σ H s) (k:∀ b o,b ∉ fp->s.heap.get? b=some o->h'.get? b=some o) (hf:∀ b∈fp,Zd X pins H b)
  (ht:IsTup h' s.heap.objs.size its.toArray) (hv:Vals ys its) (hz:ys.length<=sizeLine) (htk:1<=t':=by first | exact Nat.le_add_left _ _ | exact Inv.tk (by assumption) | assumption | omega):Inv X pins σ (upd H s.heap.objs.size (.tup ys)) { s with heap:=h',toks:=t' }:=by
 have hn:H s.heap.objs.size=none:=I.hok.fresh (Nat.le_refl _)
 have ne:∀ b u,H b=some u->b ∉ fp:=fun b u e z=>by rw[(hf b z).1] at e;cases e
 have nl:X.env.locals ∉ fp:=fun z=>(hf _ z).2.1 rfl
 refine I.step (g':=s.gens) (d':=s.drawn) (ch:=fp) (fun b hb=>?_) (fun b o _ _ hc q _=>k b o hc q) (fun b o _ _ hc q _=>⟨o.slots,k b o hc q⟩) (fun b o _ q n=>?_)
  (fun b o hc q=>⟨o,k b o hc q⟩) (fun b xs q=>?_) (fun b _ _ q=>?_) (fun b ps q=>⟨#[],?_⟩) (fun m hm=>?_) (fun b u q=>?_) I.bare htk
 ·obtain⟨f0,f1,f2,f3,f4,f5⟩:=hf b hb
  exact⟨f3,f1,f4,f5⟩
 ·rw[QH (Nat.ne_of_lt (Heap.lt_size q))];exact n
 ·rw[QH (QJ q hn)];exact q
 ·rw[QH (QJ q hn)];exact q
 ·rw[QH (QJ q hn),q];simp
 ·obtain⟨o,es,ep,ho,r⟩:=hm
  exact⟨o,es,ep,k _ o nl ho,r⟩
 ·by_cases hb:b=s.heap.objs.size
  ·subst hb
   rw[QF] at q
   cases q
   exact⟨hz,its,hv,ht⟩
  ·rw[QH hb] at q
   refine (I.hok b u q).stay (fun c v hc q2=>k c v ?_ q2) (fun c q=>by rw[QH (QJ q hn)];exact q) fun c xs q=>by rw[QH (QJ q hn)];exact q
   rcases hc with z | z
   ·rw[z];exact ne b u q
   ·exact ne c _ z
abbrev zK6 (qs:List (Bool × Addr × Addr)):List (Bool × Addr):=qs.map fun q=>(q.1,q.2.2)
theorem zIC {i:Nat} (I:Inv X pins σ H s):∀ {qs:List (Bool × Addr × Addr)},(∀ p∈zK6 qs,∃ xs x,SqB X.K p.1 H p.2 xs/\xs[i]? = some x) ->
  ∃ us ys,Vals ys us/\Due s.heap qs i us/\Paired (fun y p=>∀ xs,SqB X.K p.1 H p.2 xs->xs[i]? = some y) ys (zK6 qs)
 | [],_=>⟨[],[],.nil,⟨rfl,fun j q h=>by simp at h⟩,.nil⟩
 | q::qr,h=>by
  obtain⟨us,ys,v,⟨d1,d2⟩,p⟩:=zIC I (qs:=qr) fun p hp=>h p (List.mem_cons_of_mem _ hp)
  obtain⟨xs,x,hq,hx⟩:=h (q.1,q.2.2) List.mem_cons_self
  obtain⟨its,rv,sq⟩:=I.seqB hq
  obtain⟨u,hu,ru⟩:=rv.get hx
  refine⟨u::us,x::ys,.cons ru v,⟨by simp[d1],fun j r hj=>?_⟩,.cons (fun zs hz=>by rw[I.seqB_inj hz hq];exact hx) p⟩
  cases j with
  | zero=>simp at hj;subst hj;exact⟨_,u,sq,by simpa using hu,rfl⟩
  | succ j=>exact d2 j r (by simpa using hj)
end
theorem zHD {P:Program} {w:World} {K:W.Frag} {tg:Expr} {z TI TO:Addr} {qs:List (Bool × Addr × Addr)} (D:Apart z TI TO qs):Turn P w K tg (Itz K (zK6 qs)) (z::TI::TO::Ql qs) z
  (fun i h=>∃ f0 f1,Zp h z TI TO qs i f0 f1/\(f0=.none\/∃ T:Addr,f0=rawInt T)) where
 mem:=List.mem_cons_self
 obj:=fun i h st b hb=>by
  obtain⟨f0,f1,Z,_⟩:=st
  rcases List.mem_cons.mp hb with e | hb
  ·subst e;exact⟨_,Z.hz,fun v z=>by cases z⟩
  rcases List.mem_cons.mp hb with e | hb
  ·subst e;exact⟨_,Z.ti,fun v z=>by cases z⟩
  rcases List.mem_cons.mp hb with e | hb
  ·subst e
   obtain⟨ws,_,h2⟩:=Z.to
   exact⟨_,h2,fun v z=>by cases z⟩
  ·obtain⟨q,hq,rfl⟩:=List.mem_map.mp hb
   exact (Z.it q hq).obj
 keep:=fun i h h' st k=>by
  obtain⟨f0,f1,Z,f⟩:=st
  obtain⟨ws,h1,h2⟩:=Z.to
  exact⟨f0,f1,⟨k _ (by simp) _ Z.hz,k _ (by simp) _ Z.ti,⟨ws,h1,k _ (by simp) _ h2⟩,fun q hq=>(Z.it q hq).at fun o e=>k _ (by
   have m:q.2.1∈Ql qs:=List.mem_map.mpr ⟨q,hq,rfl⟩
   simp[m]) o e⟩,f⟩
 item:=by
  intro X hP hw hK hc i pins s σ H E I hf st hg
  subst hP hw hK
  obtain⟨f0,f1,Z,f⟩:=st
  obtain⟨us,ys,rv,du,pa⟩:=zIC I hg
  refine Je D Z f du fun h1 g0 g1 Z1 hg1 ht hsz hk=>?_
  refine⟨_,rfl,zKl Z1.hz fun h2 k0 hk0 hz2 hs2=>?_⟩
  have zlt:z < s.heap.objs.size:=Heap.lt_size Z.hz
  have hlt:∀ b∈(z::TI::TO::Ql qs),b < s.heap.objs.size:=fun b hb=>by
   rcases List.mem_cons.mp hb with e | hb
   ·subst e;exact zlt
   rcases List.mem_cons.mp hb with e | hb
   ·subst e;exact Heap.lt_size Z.ti
   rcases List.mem_cons.mp hb with e | hb
   ·subst e
    obtain⟨ws,_,h2⟩:=Z.to
    exact Heap.lt_size h2
   ·obtain⟨q,hq,rfl⟩:=List.mem_map.mp hb
    obtain⟨o,e,_⟩:=(Z.it q hq).obj
    exact Heap.lt_size e
  have hk2:∀ b o,b ∉ (z::TI::TO::Ql qs)->s.heap.get? b=some o->h2.get? b=some o:=fun b o nb e=>hs2.extBut _ _ (fun x=>nb (by rw[x];simp)) (hk b o (fun x=>nb (by rw[x];simp)) (fun x=>nb (by rw[x];simp)) (fun x=>nb (by simp[x])) e)
  have ht2:h2.get? s.heap.objs.size=some (zAH us.toArray):=hs2.extBut _ _ (Nat.ne_of_gt zlt) ht
  obtain⟨zi,zo,io⟩:=D.zz
  obtain⟨ws,w1,w2⟩:=Z1.to
  refine⟨.ref s.heap.objs.size,_,Inv.turnedNT (s:=s) (t':=s.toks) I hk2 hf ⟨_,ht2,rfl,_,rfl⟩ rv ?_,rfl,⟨_,ys,rfl,I.hok.fresh (Nat.le_refl _),rfl,pa⟩,?_,fun b hb=>?_⟩
  ·have e1:=rv.length
   have e2:=du.1
   have e3:=D.few
   exact zHM (by omega)
  ·refine⟨k0,g1,⟨hz2,hs2.extBut _ _ (Ne.symm zi) Z1.ti,⟨ws,w1,hs2.extBut _ _ (Ne.symm zo) w2⟩,fun q hq=>(Z1.it q hq).at fun o e=>hs2.extBut _ _ (Ne.symm (D.zit hq).1) e⟩,?_⟩
   rcases hk0 with e | e
   ·rw[e];exact hg1
   ·exact .inl e
  ·rw[QH (Nat.ne_of_lt (hlt b hb))]
   exact (hf b hb).1
 done:=by
  intro X hP hw hK hc i pins s σ H E I hf st hg
  subst hP hw hK
  obtain⟨f0,f1,Z,f⟩:=st
  obtain⟨p,xs,hp,hq,hx⟩:=hg
  cases qs with
  | nil=>cases hp
  | cons q qr =>
   have e:(q.1,q.2.2)=p:=by simpa using hp
   subst e
   obtain⟨its,rv,sq⟩:=I.seqB hq
   have hl:=rv.length
   refine J5 (I.ok.hd hc) D Z f sq (by simp;omega) fun h' hk=>⟨rfl,I.turnedN (t':=s.toks) (fun b o nb e=>hk b o (fun x=>nb (by rw[x];simp)) (fun x=>nb (by
    have z:=List.mem_cons_of_mem z (List.mem_cons_of_mem TI (List.mem_cons_of_mem TO x))
    exact z)) e) hf⟩
 self:=fun _ _ _ _ _ st h=>by
  obtain⟨f0,f1,Z,_⟩:=st
  exact zAT Z.hz h
section
variable {X:Cx} {tg:Expr}
def zKI (K:W.Frag) (b1 b2 b3:Bool) (ta:TA):TI:=fun σ H R=>ta σ H fun vs H1=>∃ a b c,vs=[.ref a,.ref b,.ref c]/\(∃ xs,SqB K b1 H1 a xs)/\(∃ ys,SqB K b2 H1 b ys)/\(∃ zs,SqB K b3 H1 c zs)/\R (Itz K [(b1,a),(b2,b),(b3,c)]) H1
theorem Paired.invL {α β:Type} {R:α->β->Prop} {a:α} {l:List α} {m:List β} (h:Paired R (a::l) m):∃ b m',m=b::m'/\R a b/\Paired R l m':=by
 cases h with
 | cons r t=>exact⟨_,_,rfl,r,t⟩
theorem Paired.invN {α β:Type} {R:α->β->Prop} {m:List β} (h:Paired R [] m):m=[]:=by
 cases h;rfl
theorem Paired.invR {α β:Type} {R:α->β->Prop} {b:β} {l:List β} {m:List α} (h:Paired R m (b::l)):∃ a m',m=a::m'/\R a b/\Paired R m' l:=by
 cases h with
 | cons r t=>exact⟨_,_,rfl,r,t⟩
theorem Paired.invM {α β:Type} {R:α->β->Prop} {m:List α} (h:Paired R m ([]:List β)):m=[]:=by
 cases h;rfl
theorem Vals.three {x y z:V} {us:List Value} (h:Vals [x,y,z] us):∃ u v w,us=[u,v,w]/\RelV x u/\RelV y v/\RelV z w:=by
 obtain⟨u,_,rfl,r,h⟩:=Paired.invL h
 obtain⟨v,_,rfl,q,h⟩:=Paired.invL h
 obtain⟨w,_,rfl,t,h⟩:=Paired.invL h
 obtain rfl:=Paired.invN h
 exact⟨_,_,_,rfl,r,q,t⟩
theorem zJC (b1 b2 b3:Bool) {e1 e2 e3:Expr} {ta:TA} {p pos:Pos} (hg:Gl X "zip") (hm:X.mg "zip" = none) (ha:PA X [e1,e2,e3] ta)
  (he:starEach [e1,e2,e3] X.env=(false,eval e1 X.env)::starEach [e2,e3] X.env:=by rfl) (hpl:(backTo pos (starEach [e2,e3] X.env)).any (·.1)=false:=by rfl):PI X tg (.Call (.Name "zip" p) [e1,e2,e3] [] pos) (zKI X.K b1 b2 b3 ta):=by
 intro pins s σ H R I h
 refine wpAny_Call_Name_kw (Zn I hg hm boot_zip ?_ (by decide) (by decide))
 refine PyProof.Rows.callWith_type1 (thn (ha pos pins s σ H _ I h) fun us s1 ⟨vs,H1,I1,r1,q1⟩=>?_) he hpl
 obtain⟨a,b,c,rfl,⟨xs,hx⟩,⟨ys,hy⟩,⟨zs,hz⟩,q⟩:=q1
 obtain⟨u,v,w',rfl,ru,rv,rw'⟩:=r1.three
 cases ru
 cases rv
 cases rw'
 obtain⟨ix,rx,sx⟩:=I1.seqB hx
 obtain⟨iy,ry,sy⟩:=I1.seqB hy
 obtain⟨iz,rz,sz⟩:=I1.seqB hz
 have lx:=sx.lt
 have ly:=sy.lt
 have lz:=sz.lt
 refine zGj sx sy sz fun h' Z hk=>?_
 have I2:Inv X pins σ H1 { s1 with heap:=h' }:=I1.kept (t':=s1.toks) hk
 refine zAT Z.hz ?_
 refine⟨s1.heap.objs.size+5,_,_,_,H1,rfl,I2,zHD (z:=s1.heap.objs.size+5) (TI:=s1.heap.objs.size+3) (TO:=s1.heap.objs.size+4) (qs:=[(b1,s1.heap.objs.size,a),(b2,s1.heap.objs.size+1,b),(b3,s1.heap.objs.size+2,c)]) ⟨?_,?_,Nat.succ_pos _,by show (_:List _).length<=8;simp⟩,⟨_,_,Z,.inl rfl⟩,fun b hb=>?_,q⟩
 ·generalize s1.heap.objs.size=n
  refine List.nodup_cons.mpr ⟨?_,List.nodup_cons.mpr ⟨?_,List.nodup_cons.mpr ⟨?_,List.nodup_cons.mpr ⟨?_,List.nodup_cons.mpr ⟨?_,List.nodup_cons.mpr ⟨List.not_mem_nil,List.nodup_nil⟩⟩⟩⟩⟩⟩ <;>
   (intro m;simp only[Ql,List.map_cons,List.map_nil,List.mem_cons,List.not_mem_nil,or_false] at m;revert m;show ¬ _;unfold Addr;omega)
 ·intro q hq m
  have hb:q.2.2 < s1.heap.objs.size:=by
   rcases List.mem_cons.mp hq with rfl | hq
   ·exact lx
   rcases List.mem_cons.mp hq with rfl | hq
   ·exact ly
   ·rw[List.mem_singleton.mp hq];exact lz
  have hm:s1.heap.objs.size<=q.2.2:=by
   simp only[Ql,List.map_cons,List.map_nil,List.mem_cons,List.not_mem_nil,or_false] at m
   rcases m with m | m | m | m | m | m <;> rw[m] <;> first | exact Nat.le_add_right _ _ | exact Nat.le_refl _
  exact absurd hb (Nat.not_lt.mpr hm)
 ·have hm:s1.heap.objs.size<=b:=by
   simp only[Ql,List.map_cons,List.map_nil,List.mem_cons,List.not_mem_nil,or_false] at hb
   rcases hb with m | m | m | m | m | m <;> rw[m] <;> first | exact Nat.le_add_right _ _ | exact Nat.le_refl _
  exact I1.fpOk hm (I1.hok.fresh hm)
end
end L2
namespace L2
open PySem PySem.Spec PyProof.Rows
theorem zCf {prog:Program} {w:World} {A:Around} {R:Result->Shared->Prop} {s:Shared} {elt target iter:Expr} {ifs:List Expr} {scope:Scope} {pos:Pos} {it acc:Value} {env:Env} (I:Nat->Shared->Prop)
  (turn:∀ n s,I n s->wpAny (model prog w) A (pyNext it) (fun r s₁=>match r with
   | none=>R (.ok .next) s₁
   | some v => wpAny (model prog w) A (letOwnedTupleGo target it v) (fun _ s₁ => wpAny (model prog w) A (assign target env v) (fun _ s₂ =>
     wpAny (model prog w) A (forIn ifs true fun c r=>if r=true then do let ok ← isTrue c env (eval c env);pure (ForInStep.yield ok) else pure (ForInStep.yield r)) (fun ok s₃ =>
      if ok=true then wpAny (model prog w) A (eval elt env) (fun x s₄ =>
       wpAny (model prog w) A (call (.builtin "list.append") [acc,x]) (fun _ s₅=>∃ m,m < n/\I m s₅) (notedBy (model prog w) A env fun e s'=>R (.error e) s') s₄) (notedBy (model prog w) A env fun e s'=>R (.error e) s') s₃
      else ∃ m,m < n/\I m s₃) (notedBy (model prog w) A env fun e s'=>R (.error e) s') s₂) (notedBy (model prog w) A env fun e s'=>R (.error e) s') s₁) (notedBy (model prog w) A env fun e s'=>R (.error e) s') s₁) (notedBy (model prog w) A env fun e s'=>R (.error e) s') s)
  (n:Nat) (h:I n s):codeAny (model prog w) A (.compLoop (.ListComp elt [⟨target,iter,ifs,0⟩] scope pos) 0 it acc env) R s:=by
 refine codeAny_loop rfl I (fun n s hI=>?_) n h
 show wpAny _ A ((compTurn (.ListComp elt [⟨target,iter,ifs,0⟩] scope pos) 0 it acc env).onRaise (fun x=>do noteFrame x env;theTreesLotGoes x)) _ _ s
 refine wpAny_noted ?_
 rw[compTurn_list]
 refine wpAny_bind (wpAny_standAt (wpAny_bind (wpAny_mono (turn n s hI) (fun r s₁ h₁=>?_) fun _ _ h'=>h')))
 cases r with
 | none=>exact wpAny_pure h₁
 | some v =>
  refine wpAny_bind (wpAny_mono h₁ (fun _ s₁' h₁=>?_) fun _ _ h'=>h')
  refine wpAny_bind (wpAny_mono h₁ (fun _ s₂ h₂=>wpAny_bind (wpAny_mono h₂ (fun ok s₃ h₃=>?_) fun _ _ h'=>h')) fun _ _ h'=>h')
  cases ok with
  | false=>exact wpAny_pure ⟨rfl,h₃⟩
  | true =>
   exact wpAny_bind (wpAny_bind (wpAny_mono h₃ (fun x s₄ h₄=>wpAny_bind (wpAny_mono h₄ (fun _ s₅ h₅=>wpAny_pure (wpAny_pure ⟨rfl,h₅⟩)) fun _ _ h'=>h')) fun _ _ h'=>h'))
def cxN (X:Cx) (scope:Scope) (cl:List (Str × Addr)) (xs:List Str) (cs:List Str) (C:Addr) (s₀:Shared) (H₀:Hp) (fp:List Addr):Cx where
 prog:=X.prog
 w:=X.w
 K:=X.K
 mg:=X.mg
 base:=X.base
 A:=X.A
 N:=xs++cs
 s₀:=s₀
 H₀:=H₀
 env:=compEnvC scope cl C X.env
 outer:=X.stack
 stack:=X.stack
 ex:=fp
 fn:=fun y=>xs.contains y
 calm:=X.calm
 pn:=[]
 xe:=fun _ _=>False
structure CScopeN (X:Cx) (scope:Scope) (cl:List (Str × Addr)) (xs:List Str) (cs:List Str) (js:List Nat):Prop where
 clos:closureFor scope X.env=pure cl
 kind:scope.kind=.function
 nocell:∀ y∈scope.names,y.2 ≠ .cell
 names:∀ y∈scope.names,y.2=.local->scope.names.lookup y.1=some .local
 sub:∀ y c,cl.lookup y=some c->X.env.cells.lookup y=some c
 has:∀ y,((relabel scope X.env).names.lookup y=some .cell\/(relabel scope X.env).names.lookup y=some .free)->∃ c,cl.lookup y=some c
 nox:∀ x∈xs,cl.lookup x=none
 nd:(xs++cs).Nodup
 cap:Paired (fun y j=>X.N[j]? = some y) cs js
 capk:∀ y∈cs,(X.env.kindOf y=some .cell\/X.env.kindOf y=some .free)/\((relabel scope X.env).names.lookup y=some .cell\/(relabel scope X.env).names.lookup y=some .free)
def zBo (J:It) (g:TG) (tc:TT) (te:TE) (n:Nat) (τ:St) (fin:List V->Hp->Prop) (H1:Hp):Prop:=∃ W:Nat->Nat->List V->Hp->Prop,(∃ m,W 0 m [] H1)/\∀ i m ys H,W i m ys H ->
 (J.stop i H/\fin ys H)\/(J.go i H/\ys.length < sizeLine/\∃ N:List V->Hp->Prop,(∀ ys' H',N ys' H'->∃ m',m' < m/\W (i+1) m' ys' H')/\∀ v H',J.yld i H v H'->∀ ρ:St,ρ.length=n ->
  g v (ρ++τ) H' fun σ2 H2=>(∃ ρ2:St,ρ2.length=n/\σ2=ρ2++τ)/\tc σ2 H2 fun b H3=>if b=true then te σ2 H3 (fun y H4=>N (ys++[y]) H4) else N ys H3)
def zEc (n:Nat) (wi:TI) (g:TG) (js:List Nat) (tc:TT) (te:TE):TE:=fun σ H Q=>wi σ H fun J H1=>zBo J g tc te n (Yq σ js) (fun ys H2=>∀ p,H2 p=none->Q (.ref p) (upd H2 p (.lst ys))) H1
section
variable {X:Cx} {scope:Scope} {cl:List (Str × Addr)} {xs:List Str} {cs:List Str} {js:List Nat} {pins:List (Addr × Obj)} {σ:St} {H:Hp} {s:Shared}
theorem zKv {C:Addr} {fp:List Addr} (S:CScopeN X scope cl xs cs js) (I:Inv X pins σ H s) (hC:s.heap.objs.size<=C) (hf:∀ b∈fp,Zd X pins H b) (hlt:∀ b∈fp,b < s.heap.objs.size) :
  (cxN X scope cl xs cs C s H fp).Ok where
 mod:=I.ok.mod
 kind:=S.kind
 glob:=I.ok.glob
 blt:=I.ok.blt
 above:=hC
 inj:=fun y z c h1 h2=>I.ok.inj y z c (S.sub y c h1) (S.sub z c h2)
 has:=fun y h=>S.has y h
 cab:=fun y c h1 h2=>by
  have e:y∈xs:=List.contains_iff_mem.mp h1
  have h2':cl.lookup y=some c:=h2
  rw[S.nox y e] at h2'
  cases h2'
 hd:=I.ok.hd
 frames:=I.ok.frames
 stk:=.inl rfl
 exf:=fun b hb=>⟨fun e=>absurd (hlt b hb) (Nat.not_lt.mpr (by rw[show b=C from e];exact hC)),fun y c h=>(hf b hb).2.2.2.2.1 y c (S.sub y c h)⟩
 bs:=fun b o e=>⟨(I.bs b o e).1,(I.bs b o e).2⟩
 bsz:=Nat.le_trans I.ok.bsz I.sz
 noex:=fun b o e hb=>by
  rcases (hf b hb).2.2.2.1 with z | z
  ·exact I.ok.noex b o e z
  ·exact absurd (Nat.lt_of_lt_of_le (Heap.lt_size e) (Nat.le_trans I.ok.bsz z)) (Nat.lt_irrefl _)
 exfs:=fun b hb z=>by
  rcases List.mem_cons.mp (I.stkSub b z) with e | e
  ·exact (hf b hb).2.1 e
  ·exact (hf b hb).2.2.1 e
 funs:=I.stack
 frf:=fun b hb=>I.stkFree b hb
theorem zEB {C D:Addr} {fp:List Addr} {h₁:Heap} {tk:Nat} {oD:Obj} (S:CScopeN X scope cl xs cs js) (I:Inv X pins σ H s) (hf:∀ b∈fp,Zd X pins H b) (hlt:∀ b∈fp,b < s.heap.objs.size)
  (hD:s.heap.objs.size<=D) (hC:s.heap.objs.size<=C) (hDC:D ≠ C) (hns:h₁.Ns C (fun _=>none)) (keep:∀ b o,s.heap.get? b=some o->h₁.get? b=some o) (eD:h₁.get? D=some oD) (hoD:∀ v,oD.data ≠ .cell v) (htk:1<=tk:=by first | assumption | exact Nat.le_trans (Inv.tk (by assumption)) (Nat.le_add_right _ _) | omega) :
  Inv (cxN X scope cl xs cs C s H fp) [(D,oD)] (List.replicate xs.length none++Yq σ js) H { s with heap:=h₁,toks:=tk }:=by
 refine⟨zKv S I hC hf hlt,rfl,I.bare,Un.kept keep,⟨_,hns,fun i y v h1 h2 h3=>?_⟩,fun y c e=>?_,I.hok.fresh hC,fun y c e=>I.freeC y c (S.sub y c e),fun p hp=>?_,I.hok.kept keep,?_,htk⟩
 ·by_cases hi:i < xs.length
  ·rw[List.getElem?_append_left (by simp;exact hi),List.getElem?_replicate,if_pos hi] at h2
   simp at h2
  ·have h1':cs[i - xs.length]? = some y:=by
    have z:(xs++cs)[i]? = some y:=h1
    rw[List.getElem?_append_right (by omega)] at z
    exact z
   have h2':(Yq σ js)[i - xs.length]? = some (some v):=by
    rw[List.getElem?_append_right (by simp;omega)] at h2
    simpa using h2
   generalize i - xs.length=k at h1' h2'
   obtain⟨j,ej,ey⟩:=Yo S.cap h1'
   have e2:σ[j]? = some (some v):=by
    unfold Yq at h2'
    rw[List.getElem?_map,ej] at h2'
    have h3':(σ[j]?).getD none=some v:=by simpa using h2'
    cases q:σ[j]? with
    | none=>rw[q] at h3';cases h3'
    | some w'=>rw[q] at h3';exact congrArg some h3'
   obtain⟨k1,k2⟩:=S.capk y (List.mem_of_getElem? h1')
   obtain⟨m,hn,hl⟩:=I.loc
   obtain⟨u,r,l⟩:=hl j y v ey e2 (by
    rcases k1 with z | z
    ·exact .inr (.inl z)
    ·exact .inr (.inr z))
   refine⟨u,r,.inr ⟨k2,?_⟩⟩
   obtain⟨c',e'⟩:=S.has y k2
   rcases l with ⟨z,_⟩ | ⟨_,c,ec,z⟩
   ·rcases k1 with k1 | k1 <;> (rw[k1] at z;cases z)
   ·have e3:=S.sub y c' e'
    rw[ec] at e3
    cases e3
    obtain⟨o,eo,d⟩:=z
    exact⟨_,e',o,keep _ _ eo,d⟩
 ·obtain⟨v,o,eo,d⟩:=I.cell y c (S.sub y c e)
  exact⟨v,o,keep _ _ eo,d⟩
 ·have e:p=(D,oD):=by
   rcases List.mem_append.mp hp with z | z
   ·exact absurd z (by show p ∉ ([]:List (Addr × Obj));simp)
   ·simpa using z
  subst e
  exact⟨eD,I.hok.fresh hD,hDC,I.newfs hD,hoD⟩
 ·show (List.replicate xs.length none++Yq σ js).length=(xs++cs).length
  rw[List.length_append,List.length_append,zC7,Paired.length S.cap,List.length_replicate]
theorem zED {elt iter tg:Expr} {pos:Pos} {ifs:List Expr} {g:TG} {tc:TT} {te:TE} {C D it:Addr} {fp:List Addr} {tn:Nat->Heap->Prop} {J:It} {s₂:Shared} {H₂:Hp} {R:Result->Shared->Prop} {fin:List V->Hp->Prop} {s₃:Shared} {ρ₀:St}
  (hc:X.calm=true) (S:CScopeN X scope cl xs cs js) (hC:s₂.heap.objs.size<=C) (hD:s₂.heap.objs.size<=D) (hDC:D ≠ C) (hlt:∀ b∈fp,b < s₂.heap.objs.size)
  (T:Turn X.prog X.w X.K tg J fp it tn)
  (hcells:∀ y c,cl.lookup y=some c->c < s₂.heap.objs.size)
  (hfs:∀ b∈fp,b ∉ frs X.stack) (hDfs:D ∉ frs X.stack)
  (hcf:∀ b∈fp,∀ y c,cl.lookup y=some c->c ≠ b)
  (hg:PG (cxN X scope cl xs cs C s₂ H₂ fp) tg g) (ht:zCX (cxN X scope cl xs cs C s₂ H₂ fp) ifs tc) (he:PE (cxN X scope cl xs cs C s₂ H₂ fp) elt te)
  (I₃:Inv (cxN X scope cl xs cs C s₂ H₂ fp) [] (ρ₀++Yq σ js) H₂ s₃) (hρ:ρ₀.length=xs.length) (st:tn 0 s₃.heap) (hn:∀ b∈fp,H₂ b=none) (eD:s₃.heap.get? D=some (Q9 [] 0)) (hDn:H₂ D=none)
  (hW:zBo J g tc te xs.length (Yq σ js) fin H₂)
  (hR:∀ s' σ' H' ys us n,Inv (cxN X scope cl xs cs C s₂ H₂ fp) [] σ' H' s'->Vals ys us->ys.length<=sizeLine->s'.heap.get? D=some (Q9 us n)->H' D=none->fin ys H'->R (.ok .next) s') :
  codeAny (model X.prog X.w) X.A (.compLoop (.ListComp elt [⟨tg,iter,ifs,0⟩] scope pos) 0 (.ref it) (.ref D) (compEnvC scope cl C X.env)) R s₃:=by
 obtain⟨W,⟨m0,w0⟩,turn⟩:=hW
 have bC:∀ b∈fp,b ≠ C:=fun b hb e=>absurd (hlt b hb) (Nat.not_lt.mpr (by rw[e];exact hC))
 have bD:∀ b∈fp,b ≠ D:=fun b hb e=>absurd (hlt b hb) (Nat.not_lt.mpr (by rw[e];exact hD))
 have cD:∀ y c,cl.lookup y=some c->c ≠ D:=fun y c h e=>absurd (hcells y c h) (Nat.not_lt.mpr (by rw[e];exact hD))
 have pinD:∀ {τ:St} {H':Hp} {s':Shared} {us:List Value} {k:Nat},Inv (cxN X scope cl xs cs C s₂ H₂ fp) [] τ H' s'->s'.heap.get? D=some (Q9 us k)->H' D=none->Inv (cxN X scope cl xs cs C s₂ H₂ fp) [(D,Q9 us k)] τ H' s' :=
  fun {τ H' s' us k} I e hn=>I.pins_of fun p hp=>by
   have ep:p=(D,Q9 us k):=by simpa using hp
   subst ep
   exact⟨e,hn,hDC,hDfs,fun v z=>by
    have z':Data.seq us.toArray k=Data.cell v:=z
    cases z'⟩
 have fpk:∀ {H':Hp} {us:List Value} {k:Nat},(∀ b∈fp,H' b=none)->∀ b∈fp,Zd (cxN X scope cl xs cs C s₂ H₂ fp) [(D,Q9 us k)] H' b:=fun {H' us k} hn b hb =>
  ⟨hn b hb,bC b hb,hfs b hb,.inl hb,fun y c e=>hcf b hb y c e,fun p hp=>by
   have ep:p=(D,Q9 us k):=by
    rcases List.mem_append.mp hp with z | z
    ·exact absurd (show p∈([]:List (Addr × Obj)) from z) (by simp)
    ·simpa using z
   subst ep
   exact Ne.symm (bD b hb)⟩
 refine zCf (env:=compEnvC scope cl C X.env) (fun n s'=>∃ i ρ H' ys us k,Inv (cxN X scope cl xs cs C s₂ H₂ fp) [] (ρ++Yq σ js) H' s'/\ρ.length=xs.length/\tn i s'.heap/\(∀ b∈fp,H' b=none)/\Vals ys us/\ys.length<=sizeLine/\s'.heap.get? D=some (Q9 us k)/\H' D=none/\W i n ys H') ?_ m0
  ⟨0,ρ₀,H₂,[],[],0,I₃,hρ,st,hn,.nil,Nat.zero_le _,eD,hDn,w0⟩
 rintro n s4 ⟨i,ρ,H4,ys,us,k,I4,hρ4,st4,fr4,rv,hz,eD4,hD4,w4⟩
 have I4':=pinD I4 eD4 hD4
 rcases turn i n ys H4 w4 with ⟨stop,f⟩ | ⟨go,hlen,N,hN,step⟩
 ·refine wpAny_mono (T.done (cxN X scope cl xs cs C s₂ H₂ fp) rfl rfl rfl hc i [(D,Q9 us k)] s4 _ H4 (fun _ _=>False) I4' (fpk fr4) st4 stop) (fun r s5 ⟨hr,I5⟩=>?_) (fun _ _ z=>z.elim)
  subst hr
  show R (.ok .next) s5
  exact hR s5 _ H4 ys us k (I5.pins_of fun p hp=>absurd hp (by simp)) rv hz (I5.pin (D,Q9 us k) (List.mem_append_right _ (by simp))).1 hD4 f
 ·refine wpAny_mono (T.item (cxN X scope cl xs cs C s₂ H₂ fp) rfl rfl rfl hc i [(D,Q9 us k)] s4 _ H4 (fun _ _=>False) I4' (fpk fr4) st4 go) (fun r s5 ⟨u,hr,h5⟩=>?_) (fun _ _ z=>z.elim)
  subst hr
  show wpAny _ _ (letOwnedTupleGo tg (.ref it) u) _ _ s5
  refine wpAny_mono h5 (fun _ s6 ⟨v,H6,I6,r6,y6,st6,fr6⟩=>?_) (fun _ _ z=>z.elim)
  have I6':=I6.pinned (fpk fr6) (T.obj _ _ st6)
  refine wpAny_mono (hg _ s6 _ H6 v u _ I6' r6 (step v H6 y6 ρ hρ4)) (fun _ s7 ⟨σ7,H7,I7,⟨ρ7,hρ7,e7⟩,q7⟩=>?_) (fun _ _ z=>False.elim z)
  subst e7
  have st7:∀ {τ:St} {H':Hp} {s':Shared},Inv (cxN X scope cl xs cs C s₂ H₂ fp) ([(D,Q9 us k)]++Zx fp s6.heap) τ H' s'->tn (i+1) s'.heap/\∀ b∈fp,H' b=none:=fun {τ H' s'} I=>by
   refine⟨T.keep _ _ _ st6 fun b hb o e=>(I.pin (b,o) (List.mem_append_right _ (List.mem_append_right _ (YX hb e)))).1,fun b hb=>?_⟩
   obtain⟨o,e,d⟩:=T.obj _ _ st6 b hb
   exact (I.pin (b,o) (List.mem_append_right _ (List.mem_append_right _ (YX hb e)))).2.1
  have dD:∀ {τ:St} {H':Hp} {s':Shared},Inv (cxN X scope cl xs cs C s₂ H₂ fp) ([(D,Q9 us k)]++Zx fp s6.heap) τ H' s'->s'.heap.get? D=some (Q9 us k)/\H' D=none:=fun {τ H' s'} I=>by
   have q:=I.pin (D,Q9 us k) (List.mem_append_right _ (List.mem_append_left _ (by simp)))
   exact⟨q.1,q.2.1⟩
  refine wpAny_mono (ht _ s7 _ H7 _ I7 q7) (fun ok s8 ⟨H8,I8,q8⟩=>?_) (fun _ _ z=>False.elim z)
  cases ok with
  | false =>
   obtain⟨m',hm,w8⟩:=hN _ _ q8
   exact⟨m',hm,i+1,ρ7,H8,ys,us,k,I8.pins_of fun p hp=>absurd hp (by simp),hρ7,(st7 I8).1,(st7 I8).2,rv,hz,(dD I8).1,(dD I8).2,w8⟩
  | true =>
   rw[if_pos rfl]
   refine wpAny_mono (he _ s8 _ H8 _ I8 q8) (fun xv s9 ⟨y,H9,I9,r9,n9⟩=>?_) (fun _ _ z=>False.elim z)
   obtain⟨m',hm,w9⟩:=hN _ _ n9
   obtain⟨eD9,hD9⟩:=dD I9
   have hl:=rv.length
   refine call_meets F.slot_list_append ⟨_,eD9,rfl⟩ F.entry_list_append (F.args_list_append_2 _ _) (PySem.list_append D us.toArray k xv (by rw[List.size_toArray];omega)) ⟨eD9,?_⟩
   have I9':Inv (cxN X scope cl xs cs C s₂ H₂ fp) [] (ρ7++Yq σ js) H9 s9:=I9.pins_of fun p hp=>absurd hp (by simp)
   have q:=PySem.IsL.update eD9 (·.push xv)
   have e1:us.toArray.push xv=(us++[xv]).toArray:=by simp
   rw[e1] at q
   have I10:=I9'.turned (h':=s9.heap.update D (Obj.mapSeq (·.push xv))) (t':=s9.toks) (it:=D) (fun b o hb e=>(Heap.get?_update_other s9.heap _ (Ne.symm hb)).trans e) hD9 hDC (.inr hD) (fun y c e=>cD y c e) (fun p hp=>absurd (show p∈([]:List (Addr × Obj)) from hp) (by simp))
   refine⟨m',hm,i+1,ρ7,H9,ys++[y],us++[xv],_,I10,hρ7,?_,(st7 I9).2,rv.append (.cons r9 .nil),?_,q,hD9,w9⟩
   ·exact T.keep _ _ _ (st7 I9).1 fun b hb o e=>(Heap.get?_update_other s9.heap _ (Ne.symm (bD b hb))).trans e
   ·rw[List.length_append,List.length_singleton]
    omega
theorem zCx {elt iter tg:Expr} {pos:Pos} {ifs:List Expr} {g:TG} {tc:TT} {te:TE} {it:Addr} {fp:List Addr} {tn:Nat->Heap->Prop} {J:It} {E:Value->Shared->Prop} {fin:List V->Hp->Prop} {RR:Value->Addr->Result->Shared->Prop}
  (hc:X.calm=true) (S:CScopeN X scope cl xs cs js) (I:Inv X pins σ H s) (T:Turn X.prog X.w X.K tg J fp it tn) (st:tn 0 s.heap) (hf:∀ b∈fp,Zd X pins H b)
  (hg:∀ C s₁ H₁,PG (cxN X scope cl xs cs C s₁ H₁ fp) tg g) (ht:∀ C s₁ H₁,zCX (cxN X scope cl xs cs C s₁ H₁ fp) ifs tc) (he:∀ C s₁ H₁,PE (cxN X scope cl xs cs C s₁ H₁ fp) elt te) (hW:zBo J g tc te xs.length (Yq σ js) fin H)
  (hRR:∀ D C s' ys H' m,Inv X pins σ (upd H' D (.lst ys)) s'->s'.heap.Ns C m->Off X pins (upd H' D (.lst ys)) C->H' D=none->fin ys H'->RR (.ref D) C (.ok .next) s') :
  wpAny (model X.prog X.w) X.A (newList []) (fun acc s₃=>wpAny (model X.prog X.w) X.A (newFunctionEnv scope X.env.globals cl [] X.env.qual none .none (some X.env)) (fun cenv s₄ =>
   codeAny (model X.prog X.w) X.A (.compStart (.ListComp elt [⟨tg,iter,ifs,0⟩] scope pos) 0 (.ref it) acc { cenv with scope:=relabel scope X.env }) (RR acc cenv.locals) s₄) E s₃) E s:=by
 have hlt:∀ b∈fp,b < s.heap.objs.size:=fun b hb=>by
  obtain⟨o,e,_⟩:=T.obj _ _ st b hb
  exact Heap.lt_size e
 refine wpAny_newObj_type (wpAny_newFunctionEnv S.nocell (by intro y hy;simp at hy) (fun h₁ hns₁ hsb₁=>?_) S.kind)
 dsimp only at hns₁ hsb₁ ⊢
 generalize hH2:s.heap.push { cls:=.type "list",dict:=none,data:=.seq ([]:List Value).toArray }=H2 at hns₁ hsb₁ ⊢
 have hC:H2.objs.size=s.heap.objs.size+1:=by rw[← hH2,Heap.size_push]
 have hDC:s.heap.objs.size ≠ H2.objs.size:=by rw[hC];exact Nat.ne_of_lt (Nat.lt_succ_self _)
 have hCle:s.heap.objs.size<=H2.objs.size:=by rw[hC];exact Nat.le_succ _
 have below:∀ b,b < s.heap.objs.size->b ≠ H2.objs.size/\b ≠ s.heap.objs.size:=fun b hb=>⟨by rw[hC];exact Nat.ne_of_lt (Nat.lt_succ_of_lt hb),Nat.ne_of_lt hb⟩
 have old:∀ b o,s.heap.get? b=some o->h₁.get? b=some o:=fun b o e=>hsb₁.extBut b o (below b (Heap.lt_size e)).1 (Heap.get?_push_of_some _ (hH2 ▸ Heap.get?_push_of_some _ e))
 have hacc:h₁.get? s.heap.objs.size=some (Q9 [] 0):=hsb₁.extBut _ _ hDC (Heap.get?_push_of_some _ (hH2 ▸ Heap.get?_push_size _ rfl))
 have hDn:H s.heap.objs.size=none:=I.hok.fresh (Nat.le_refl _)
 have I₁:=zEB (C:=H2.objs.size) (D:=s.heap.objs.size) (tk:=s.toks+([]:List (Str × Value)).length) (oD:=Q9 [] 0) S I hf hlt (Nat.le_refl _) hCle hDC hns₁ old hacc (fun v z=>by
  have z':Data.seq ([]:List Value).toArray 0=Data.cell v:=z
  cases z')
 have I₁':=I₁.pins_of (pins':=[]) fun p hp=>absurd hp (by simp)
 have stk:tn 0 h₁:=T.keep _ _ _ st fun b _ o e=>old b o e
 have zGm:codeAny (model X.prog X.w) X.A (.compLoop (.ListComp elt [⟨tg,iter,ifs,0⟩] scope pos) 0 (.ref it) (.ref s.heap.objs.size) (compEnvC scope cl H2.objs.size X.env)) (RR (.ref s.heap.objs.size) H2.objs.size)
   { s with heap:=h₁,toks:=s.toks+([]:List (Str × Value)).length }:=by
  refine zED (s₂:=s) (H₂:=H) (fp:=fp) (fin:=fin) hc S hCle (Nat.le_refl _) hDC hlt T (fun y c e=>?_) (fun b hb z=>?_) (I.newfs (Nat.le_refl _)) (fun b hb y c e=>(hf b hb).2.2.2.2.1 y c (S.sub y c e)) (hg _ _ _) (ht _ _ _) (he _ _ _) I₁' (by rw[List.length_replicate]) stk (fun b hb=>(hf b hb).1) hacc hDn hW ?_
  ·obtain⟨v,q⟩:=I.cell y c (S.sub y c e)
   exact q.lt
  ·rcases List.mem_cons.mp (I.stkSub b z) with e | e
   ·exact (hf b hb).2.1 e
   ·exact (hf b hb).2.2.1 e
  ·intro s' σ' H' ys us n I' rv hz eD hDn' hfin
   have u':Un (frs X.stack) fp H H' s.heap s'.heap:=I'.base
   have u:Un (frs X.stack) fp H (upd H' s.heap.objs.size (.lst ys)) s.heap s'.heap:=⟨u'.keep,u'.slot,fun b o e n hx=>by rw[QH (below b (Heap.lt_size e)).2];exact u'.free b o e n hx,u'.there,
    fun b xs e=>by rw[QH (QJ e hDn)];exact u'.tups b xs e,fun b o w' e=>by rw[QH (QJ e hDn)];exact u'.frzs b o w' e,fun b ps e=>by
     obtain⟨more,q⟩:=u'.tbls b ps e
     exact⟨more,by rw[QH (QJ e hDn)];exact q⟩⟩
   have hok:HOk X.prog X.w (upd H' s.heap.objs.size (.lst ys)) s'.heap:=HOk.track I'.hok hDn' ⟨hz,us,n,rv,eD⟩
   have I2:Inv X pins σ (upd H' s.heap.objs.size (.lst ys)) s':=I.call' (ch:=fp) I'.os u hok I'.bare I'.tk fun b hb=>⟨(hf b hb).2.2.2.1,(hf b hb).2.1,(hf b hb).2.2.2.2.1,(hf b hb).2.2.2.2.2⟩
   obtain⟨m,hm,_⟩:=I'.loc
   refine hRR _ _ s' ys H' m I2 hm ⟨?_,Ne.symm (below _ I.lt).1,Nat.le_trans I.sz hCle,fun y c e=>?_,fun p hp=>?_⟩ hDn' hfin
   ·rw[QH (Ne.symm hDC)];exact I'.free
   ·obtain⟨v,q⟩:=I.cell y c e
    exact (below _ q.lt).1
   ·exact (below _ (Heap.lt_size (I.pin p hp).1)).1
 exact codeAny_compStart_list zGm (T.self X.A 0 _ _ _ stk zGm)
theorem zF8 {elt iter tg:Expr} {pos:Pos} {ifs:List Expr} {wi:TI} {g:TG} {tc:TT} {te:TE} (hc:X.calm=true) (S:CScopeN X scope cl xs cs js) (hi:PI X tg iter wi)
  (hg:∀ C s₁ H₁ fp,PG (cxN X scope cl xs cs C s₁ H₁ fp) tg g) (ht:∀ C s₁ H₁ fp,zCX (cxN X scope cl xs cs C s₁ H₁ fp) ifs tc) (he:∀ C s₁ H₁ fp,PE (cxN X scope cl xs cs C s₁ H₁ fp) elt te)
  (hs:∀ x,foldedSetIterable iter X.env x=pure x:=by intro _;rfl):PE X (.ListComp elt [⟨tg,iter,ifs,0⟩] scope pos) (zEc xs.length wi g js tc te):=by
 intro pins s σ H Q I h
 rw[eval_ListComp]
 refine wpAny_comprehension_free (use:=none) rfl hs S.clos S.kind S.names (thn (hi pins s σ H _ I h) fun v s1 h1=>thn h1 fun itv s2 h2=>?_)
 obtain⟨it,fp,tn,J,H2,e,I2,T,st2,f2,hW⟩:=h2
 subst e
 refine zCx (RR:=fun acc C=>compPost (model X.prog X.w) X.A X.xe none (EP X pins σ Q) acc C) hc S I2 T st2 f2 (fun C s₁ H₁=>hg C s₁ H₁ fp) (fun C s₁ H₁=>ht C s₁ H₁ fp) (fun C s₁ H₁=>he C s₁ H₁ fp) hW ?_
 intro D C s' ys H' m I' hm O hD hfin
 exact⟨m,hm,fun h' k=>⟨.ref D,_,I'.off (t':=s'.toks) O k,rfl,hfin D hD⟩⟩
end
structure CompOkN (sc scope:Scope) (N:List Str) (xs:List Str) (cs:List Str) (js:List Nat):Prop where
 k1:scope.kind=.function
 k2:sc.kind=.function
 nocell:∀ y∈scope.names,y.2 ≠ .cell
 names:∀ y∈scope.names,y.2=.local->scope.names.lookup y.1=some .local
 fr:∀ y∈scope.names,y.2=.free->sc.names.lookup y.1=some .cell/\y.1 ∉ xs
 nd:(xs++cs).Nodup
 cap:js.map (fun j=>N[j]?)=cs.map some
 capk:∀ y∈cs,sc.names.lookup y=some .cell/\scope.names.lookup y=some .free
theorem zDJ {X:Cx} {sc scope:Scope} {xs:List Str} {cs:List Str} {js:List Nat} {qual:Str} {L f:Addr} {cd:Value} (hE:X.env=envOfC qual sc L f cd) (c:CompOkN sc scope X.N xs cs js):CScopeN X scope (YQ X.env scope.names []) xs cs js:=by
 have hcs:∀ y,sc.names.lookup y=some .cell->(X.env.cells.lookup y).isSome=true:=fun y h=>by
  rw[hE]
  exact PySem.W.cellsFrom_some _ _ _ (.inl h)
 have hn:∀ y∈scope.names,y.2=.free->(X.env.cells.lookup y.1).isSome=true:=fun y hy h=>hcs _ (c.fr y hy h).1
 have hk:X.env.scope.kind=.function:=by rw[hE];exact c.k2
 have kd:∀ y,X.env.kindOf y=sc.names.lookup y:=fun y=>by rw[hE];rfl
 refine⟨WG hn,c.k1,c.nocell,c.names,fun y d h=>Zy _ _ hn (fun z d h=>by cases h) h,fun y h=>?_,fun x hx=>Z8 _ _ (fun z hz h e=>(c.fr z hz h).2 (by rw[e];exact hx)) rfl,c.nd,W8 c.cap,fun y hy=>?_⟩
 ·exact Option.isSome_iff_exists.mp (Wi _ _ (.inl (ZF c.nocell h)))
 ·have q:=c.capk y hy
  have q1:X.env.kindOf y=some .cell:=(kd y).trans q.1
  exact⟨.inl q1,.inl (ZP hk q1 q.2)⟩
section
variable {X:Cx}
abbrev zHz (K:W.Frag):TG:=zKW K 2 (zFF (Wz 0) (zFF (Wz 1) zKo))
theorem zIf {scope:Scope} {cl:List (Str × Addr)} {x y:Str} {cs:List Str} {C:Addr} {s₁:Shared} {H₁:Hp} {fp:List Addr} {px py tp:Pos} {k:Nat} (hc:X.calm=true) (nd:([x,y]++cs).Nodup) (lx:scope.names.lookup x=some .local) (ly:scope.names.lookup y=some .local) :
  PG (cxN X scope cl [x,y] cs C s₁ H₁ fp) (.Tuple [.Name x px,.Name y py] k tp) (zHz X.K) :=
 zHv (X:=cxN X scope cl [x,y] cs C s₁ H₁ fp) hc (W5 (Qt (i:=0) nd rfl (.inl (lookup_relabel_local lx)) (.inl (by show List.contains [x,y] x=true;simp))) (W5 (Qt (i:=1) nd rfl (.inl (lookup_relabel_local ly)) (.inl (by show List.contains [x,y] y=true;simp))) zEx))
theorem zEk {K:W.Frag} {b1 b2 b3:Bool} {a b c:Addr} {xs ys zs:List V} {tc:TT} {te:TE} {τ:St} {fin:List V->Hp->Prop} {H:Hp} (hl:xs.length=ys.length) (hl2:xs.length=zs.length) (hz:xs.length<=sizeLine) (Pv:Nat->List V->Hp->Prop) (h0:Pv 0 [] H)
  (hk:∀ i vs H,i<=xs.length->Pv i vs H->SqB K b1 H a xs/\SqB K b2 H b ys/\SqB K b3 H c zs/\vs.length<=i)
  (hs:∀ (i:Nat) x y z p vs H,xs[i]? = some x->ys[i]? = some y->zs[i]? = some z->Pv i vs H->H p=none->tc (some (.ref p)::τ) (upd H p (.tup [x,y,z])) fun b H3=>if b=true then te (some (.ref p)::τ) H3 (fun y H4=>Pv (i+1) (vs++[y]) H4) else Pv (i+1) vs H3)
  (hd:∀ vs H,Pv xs.length vs H->fin vs H):J9 (Itz K [(b1,a),(b2,b),(b3,c)]) tc te τ fin H:=by
 refine⟨fun i m vs H=>m=xs.length - i/\i<=xs.length/\Pv i vs H,⟨xs.length,by simp,Nat.zero_le _,h0⟩,?_⟩
 rintro i m vs H ⟨rfl,hi,p⟩
 obtain⟨q1,q2,q3,q4⟩:=hk i vs H hi p
 by_cases hlt:i < xs.length
 ·refine .inr ⟨fun r hr=>?_,by omega,Pv (i+1),fun ys' H' p'=>⟨xs.length - (i+1),by omega,rfl,hlt,p'⟩,fun x H' y=>?_⟩
  ·rcases List.mem_cons.mp hr with rfl | hr
   ·exact⟨xs,xs[i],q1,by simp[hlt]⟩
   rcases List.mem_cons.mp hr with rfl | hr
   ·exact⟨ys,ys[i],q2,by simp[hl ▸ hlt]⟩
   ·rw[List.mem_singleton.mp hr]
    exact⟨zs,zs[i],q3,by simp[hl2 ▸ hlt]⟩
  ·obtain⟨d,us,rfl,hc,rfl,pa⟩:=y
   obtain⟨u,_,rfl,p1,pa⟩:=Paired.invR pa
   obtain⟨v,_,rfl,p2,pa⟩:=Paired.invR pa
   obtain⟨t,_,rfl,p3,pa⟩:=Paired.invR pa
   obtain rfl:=Paired.invM pa
   exact hs i u v t d vs H (p1 xs q1) (p2 ys q2) (p3 zs q3) p hc
 ·have e:i=xs.length:=by omega
  subst e
  exact .inl ⟨⟨_,xs,rfl,q1,Nat.le_refl _⟩,hd vs H p⟩
end
end L2
open PySem PyProof.Rows
namespace SM
section
variable {prog:Program} {w:World} {A:Around} {E:Value->Shared->Prop} {s:Shared}
def PK (x:Keyed):Prop:=(∃ n t,x.1=.int n t)/\∃ n t,x.2=.int n t
def AllP (xs:Array Keyed):Prop:=∀ x∈xs.toList,PK x
theorem AllP.at {xs:Array Keyed} (h:AllP xs) {i:Nat} (hi:i < xs.size):PK xs[i]:=h _ (by rw[← Array.getElem_toList];exact List.getElem_mem _)
theorem AllP.push {xs:Array Keyed} {x:Keyed} (h:AllP xs) (hx:PK x):AllP (xs.push x):=fun y hy=>by
 rw[Array.toList_push,List.mem_append,List.mem_singleton] at hy
 exact hy.elim (h y) fun z=>z ▸ hx
theorem AllP.app {xs ys:Array Keyed} (h:AllP xs) (h':AllP ys):AllP (xs++ys):=fun y hy=>by
 rw[Array.toList_append,List.mem_append] at hy
 exact hy.elim (h y) (h' y)
theorem AllP.one {x:Keyed} (h:PK x):AllP #[x]:=fun y hy=>by
 rw[List.mem_singleton.mp hy];exact h
theorem AllP.set {xs:Array Keyed} {i:Nat} {x:Keyed} (h:AllP xs) (hx:PK x):AllP (xs.setIfInBounds i x):=fun y hy=>by
 rw[Array.toList_setIfInBounds] at hy
 rcases List.mem_or_eq_of_mem_set hy with z | z
 ·exact h y z
 ·exact z ▸ hx
theorem zGm {β:Type} {a b:Nat} {f:Nat->β->StateT SortSt Sem (ForInStep β)} {c:β} {st:SortSt} {Q:β->SortSt->Prop} (I:β->SortSt->Prop) (J:β->SortSt->Prop) (h0:I c st)
  (hs:∀ i c st,a<=i->i < b->I c st->wpS (model prog w) A E s (f i c) (fun r st'=>match r with | .done c'=>J c' st' | .yield c'=>I c' st') st) (hd:∀ c st,I c st->J c st) (q:∀ c st',J c st'->Q c st'):wpS (model prog w) A E s (forIn [a:b] c f) Q st :=
 wpS_mono (wpS_forRange (fun _ c st=>I c st) (Q:=J) hs hd h0) q
def Sm (st st':SortSt):Prop:=kindOf st'=kindOf st/\arrOf st'=arrOf st/\pendingOf st'=pendingOf st/\failedOf st'=failedOf st
theorem Sm.trans {a b c:SortSt} (h:Sm a b) (h':Sm b c):Sm a c:=⟨h'.1.trans h.1,h'.2.1.trans h.2.1,h'.2.2.1.trans h.2.2.1,h'.2.2.2.trans h.2.2.2⟩
end
end SM
open PySem PyProof.Rows
namespace SM
def Chain:List (Nat × Nat × Nat)->Nat->Nat->Prop
 | [],a,e=>a=e
 | (x,n,_)::r,a,e=>x=a/\0 < n/\Chain r (a+n) e
theorem Chain.le:∀ {l:List (Nat × Nat × Nat)} {a e:Nat},Chain l a e->a<=e
 | [],_,_,h=>Nat.le_of_eq h
 | (x,n,_)::r,a,e,h=>by have:=Chain.le h.2.2;omega
theorem Chain.at:∀ {l:List (Nat × Nat × Nat)} {a e i sa na sb nb p p':Nat},Chain l a e->l[i]? = some (sa,na,p)->l[i+1]? = some (sb,nb,p')->sa+na=sb/\0 < na/\0 < nb/\sb+nb<=e
 | [],_,_,_,_,_,_,_,_,_,_,h1,_=>by simp at h1
 | (x,n,q)::r,a,e,0,sa,na,sb,nb,p,p',h,h1,h2=>by
  simp at h1
  obtain⟨rfl,rfl,rfl⟩:=h1
  match r,h,h2 with
  | [],_,h2=>simp at h2
  | (y,m,q2)::r2,h,h2 =>
   simp at h2
   obtain⟨rfl,rfl,rfl⟩:=h2
   obtain⟨rfl,h3,rfl,h4,h5⟩:=h
   have:=Chain.le h5
   exact⟨rfl,h3,h4,this⟩
 | (x,n,q)::r,a,e,i+1,sa,na,sb,nb,p,p',h,h1,h2=>Chain.at h.2.2 (by simpa using h1) (by simpa using h2)
theorem Chain.mark:∀ {l:List (Nat × Nat × Nat)} {a e:Nat} (i:Nat) (pw:Nat),Chain l a e->Chain (l.modify i fun x=>(x.1,x.2.1,pw)) a e
 | [],_,_,_,_,h=>by simpa using h
 | (x,n,q)::r,a,e,0,pw,h=>h
 | (x,n,q)::r,a,e,i+1,pw,h=>⟨h.1,h.2.1,Chain.mark i pw h.2.2⟩
section
variable {prog:Program} {w:World} {A:Around} {E:Value->Shared->Prop} {s:Shared}
structure Gd (n:Nat) (st:SortSt):Prop where
 kind:kindOf st=oneType'
 failed:failedOf st=none
 size:(arrOf st).size=n
 all:AllP (arrOf st)
theorem Gd.sm {n:Nat} {st st':SortSt} (h:Gd n st) (g:Sm st st'):Gd n st':=⟨g.1.trans h.kind,g.2.2.2.trans h.failed,by rw[g.2.1];exact h.size,by rw[g.2.1];exact h.all⟩
end
end SM
open PySem PyProof.Rows
namespace SM
end SM
namespace L2
open PySem PySem.Spec PyProof.Rows
theorem get?_upd_ne {h:Heap} {a b:Addr} {f:Obj->Obj} (n:b ≠ a):(h.update a f).get? b=h.get? b:=Heap.get?_update_ne _ _ _ _ n
theorem zAO {h:Heap} {vs:List Value} {out:Array Value} {b:Addr} {o:Obj} (e:h.get? b=some o):(sortedAll h vs out).get? b=some o:=by
 have hb:=Heap.lt_size e
 have n0:b ≠ h.objs.size:=Nat.ne_of_lt hb
 have n1:b ≠ h.objs.size+1:=Nat.ne_of_lt (Nat.lt_succ_of_lt hb)
 unfold sortedAll sortedHeap
 rw[get?_upd_ne n1]
 refine Heap.get?_push_of_some _ (Heap.get?_push_of_some _ ?_)
 rw[get?_upd_ne n1]
 refine Heap.get?_push_of_some _ ?_
 rw[get?_upd_ne n0]
 exact Heap.get?_push_of_some _ e
theorem zCm {h:Heap} {vs:List Value} {out:Array Value}:∃ n,(sortedAll h vs out).get? (h.objs.size+1)=some (seqObj "list" out n):=by
 unfold sortedAll sortedHeap
 have sz:((h.push (seqObj "list" #[] 0)).update h.objs.size (Obj.mapSeq fun x=>x++vs.toArray)).objs.size=h.objs.size+1:=by
  rw[Heap.size_update,size_push']
 have e0:(((h.push (seqObj "list" #[] 0)).update h.objs.size (Obj.mapSeq fun x=>x++vs.toArray)).push (seqObj "list" vs.toArray 0)).get? (h.objs.size+1)=some (seqObj "list" vs.toArray 0):=by
  rw[← sz]
  exact Heap.get?_push_size _ rfl
 have e1:=get?_update_seq e0 (fun _ => #[])
 exact⟨_,get?_update_seq (Heap.get?_push_of_some _ (Heap.get?_push_of_some _ e1)) (fun _=>out)⟩
section
variable {X:Cx}
def srt (a:Addr) (ns:List Int):HO:=.ext fun h=>∃ (vs:List Value) (n:Nat),h.get? a=some (seqObj "list" vs.toArray n)/\IntsAre vs ns
def zJ3 (K:W.Frag):List V->Hp->VK->Prop:=fun xs H Q=>∃ (l:Addr) (ns:List Int),xs=[.ref l]/\SqL K H l (ns.map V.int)/\ns.length < 64/\∀ p ns',H p=none->ns'.Perm ns->ns'.Pairwise (· <= ·)->Q (.ref p) (upd H p (srt p ns'))
theorem zEX (hc:X.calm=true):Yf X (.builtin "sorted") (zJ3 X.K):=by
 intro pins s σ H xs us Q I r h
 obtain⟨l,ns,rfl,hq,hb,q⟩:=h
 obtain⟨u,rfl,rx⟩:=Ww r
 cases rx
 obtain⟨its,r',pl,hz⟩:=I.list hq
 have hi:IntsAre its ns:=zAp (by simpa using r')
 have hvn:its.length=ns.length:=IntsAre.length hi
 refine sorted_ints pl.isList hi (by omega) fun out ns' h1 h2 h3=>?_
 obtain⟨n,hn⟩:=zCm (h:=s.heap) (vs:=its) (out:=out)
 exact⟨.ref (s.heap.objs.size+1),_,I.laid (o:=srt _ ns') (t':=s.toks) (fun b o e=>zAO e) (Nat.le_succ _) ⟨⟨out.toList,n,hn,h1⟩,⟨_,hn⟩,fun h4 h5 ⟨vs,n,e,z⟩ k=>⟨vs,n,k _ e,z⟩⟩ I.tk,rfl,q _ ns' (I.hok.fresh (Nat.le_succ _)) h2 h3⟩
theorem zBu:∀ {vs:List Value} {ns:List Int},IntsAre vs ns->∀ j (h1:j < vs.length) (h2:j < ns.length),∃ t,vs[j]=.int ns[j] t
 | _::_,_::_,.cons ..,0,_,_=>⟨_,rfl⟩
 | _::_,_::_,.cons _ _ r,j+1,h1,h2=>zBu r j (Nat.lt_of_succ_lt_succ h1) (Nat.lt_of_succ_lt_succ h2)
def zLp:R2:=fun x y H Q=>∃ (a b:Addr) (is js:List Int),x=.ref a/\y=.ref b/\H a=some (srt a is)/\H b=some (.lst (js.map V.int))/\is.length<=100/\Q (.bl (decide (is=js))) H
theorem zI3 (hu:X.A.units < cLine):OpR X (compareOp .Eq) zLp:=by
 intro pins s σ H x y v u Q I rx ry h
 obtain⟨a,b,is,js,rfl,rfl,ha,hb,hl,q⟩:=h
 cases rx
 cases ry
 obtain⟨⟨its,n,e,r⟩,_,_⟩:=I.hok a _ ha
 obtain⟨_,its2,n2,r2,hl2,e2⟩:=I.lstM hb
 rw[List.length_map] at hl2
 have hl1:its.length=is.length:=IntsAre.length r
 have r2':IntsAre its2 js:=zAp (by simpa using r2)
 have L1:s.heap.IsList a its.toArray:=⟨_,e,rfl,n,rfl⟩
 have L2:s.heap.IsList b its2.toArray:=⟨_,e2,rfl,n2,rfl⟩
 have sm:(100:Nat)<=sizeLine:=by decide
 by_cases hz:is.length=js.length
 ·refine SeqAt.eq_listAt (e:=fun j=>decide (is[j]? = js[j]?)) L1 L2 (by simp;omega) hu (fun j h1 h2=>?_) ?_
  ·rw[List.size_toArray] at h1 h2
   obtain⟨t1,g1⟩:=zBu r j h1 (by omega)
   obtain⟨t2,g2⟩:=zBu r2' j h2 (by omega)
   have w1:its.toArray[j]=.int is[j] t1:=g1
   have w2:its2.toArray[j]=.int js[j] t2:=g2
   rw[w1,w2]
   have:=SeqAt.EqAt.int_int (A:=X.A.in1) (s:=s) is[j] t1 js[j] t2
   have e:decide (is[j]? = js[j]?)=(is[j] == js[j]):=by
    rw[List.getElem?_eq_getElem (by omega),List.getElem?_eq_getElem (by omega),Bool.eq_iff_iff]
    simp
   rw[e]
   exact this
  ·have e:(List.range its.toArray.size).all (fun j=>decide (is[j]? = js[j]?))=decide (is=js):=by
    rw[Bool.eq_iff_iff,List.all_eq_true,decide_eq_true_eq]
    constructor
    ·intro h
     refine List.ext_getElem? fun j=>?_
     by_cases hj:j < its.length
     ·exact of_decide_eq_true (h j (by rw[List.size_toArray];exact List.mem_range.mpr hj))
     ·rw[List.getElem?_eq_none (by omega),List.getElem?_eq_none (by omega)]
    ·intro h j _
     rw[h]
     exact decide_eq_true rfl
   rw[e]
   exact⟨.bl _,H,I,rfl,q⟩
 ·refine SeqAt.eq_list_lengthsAt L1 L2 (by simp;omega) hu ?_
  rw[decide_eq_false (fun z=>hz (by rw[z]))] at q
  exact⟨.bl false,H,I,rfl,q⟩
theorem zGQ (x y:Str) (cs:List Str) (js:List Nat) {sc scope:Scope} {qual:Str} {L f:Addr} {cd:Value} {elt iter t:Expr} {px py tp pos:Pos} {k:Nat} {wi:TI} {tc:TT} {te:TE} (hE:X.env=envOfC qual sc L f cd) (c:CompOkN sc scope X.N [x,y] cs js) (lx:scope.names.lookup x=some .local) (ly:scope.names.lookup y=some .local) (hc:X.calm=true) (hi:PI X (.Tuple [.Name x px,.Name y py] k tp) iter wi)
  (ht:∀ C s₁ H₁ fp,PT (cxN X scope (YQ X.env scope.names []) [x,y] cs C s₁ H₁ fp) t tc) (he:∀ C s₁ H₁ fp,PE (cxN X scope (YQ X.env scope.names []) [x,y] cs C s₁ H₁ fp) elt te)
  (hs:∀ x,foldedSetIterable iter X.env x=pure x:=by intro _;rfl):PE X (.ListComp elt [⟨.Tuple [.Name x px,.Name y py] k tp,iter,[t],0⟩] scope pos) (zEc 2 wi (zHz X.K) js tc te) :=
 zF8 hc (zDJ hE c) hi (fun _ _ _ _=>zIf hc c.nd lx ly) (fun _ _ _ _=>zAK (ht _ _ _ _)) he hs
theorem zEl {K:W.Frag} {a:Addr} {xs:List V} {tc:TT} {te:TE} {τ:St} {fin:List V->Hp->Prop} {H:Hp} (hz:xs.length<=sizeLine) (Pv:Nat->List V->Hp->Prop) (h0:Pv 0 [] H)
  (hk:∀ i zs H,i<=xs.length->Pv i zs H->SqL K H a xs/\zs.length<=i)
  (hs:∀ (i:Nat) x p zs H,xs[i]? = some x->Pv i zs H->H p=none->tc (some (.int (i:Nat))::some x::τ) (upd H p (.tup [.int (i:Nat),x])) fun b H3=>if b=true then te (some (.int (i:Nat))::some x::τ) H3 (fun y H4=>Pv (i+1) (zs++[y]) H4) else Pv (i+1) zs H3)
  (hd:∀ zs H,Pv xs.length zs H->fin zs H):zBo (Ite K a) (zHz K) tc te 2 τ fin H:=by
 refine⟨fun i m zs H=>m=xs.length - i/\i<=xs.length/\Pv i zs H,⟨xs.length,by simp,Nat.zero_le _,h0⟩,?_⟩
 rintro i m zs H ⟨rfl,hi,p⟩
 obtain⟨q1,q3⟩:=hk i zs H hi p
 by_cases hlt:i < xs.length
 ·refine .inr ⟨⟨xs,xs[i],q1,by simp[hlt]⟩,by omega,Pv (i+1),fun ys' H' p'=>⟨xs.length - (i+1),by omega,rfl,hlt,p'⟩,fun x H' y ρ hρ=>?_⟩
  obtain⟨c,u,rfl,hc,rfl,pa⟩:=y
  obtain⟨r1,r2,rfl⟩:∃ r1 r2,ρ=[r1,r2]:=by
   cases ρ with
   | nil=>cases hρ
   | cons r1 ρ =>
    cases ρ with
    | nil=>cases hρ
    | cons r2 ρ =>
     cases ρ with
     | nil=>exact⟨_,_,rfl⟩
     | cons _ _=>cases hρ
  refine⟨c,[.int (i:Nat),u],rfl,SqT.of QF,rfl,_,[u],rfl,u,[],rfl,rfl,⟨[some (.int (i:Nat)),some u],rfl,rfl⟩,?_⟩
  exact hs i u c zs H (pa xs q1) p hc
 ·have e:i=xs.length:=by omega
  subst e
  exact .inl ⟨⟨xs,q1,Nat.le_refl _⟩,hd zs H p⟩
def zKR:R2:=fun x y H Q=>∃ o k,IsKo H o x/\IsK H k y/\Yn 20 o/\Q (.bl (decide (o=some k))) H
theorem zIe (hu:X.A.units+64 < cLine):OpR X (compareOp .Eq) zKR:=by
 intro pins s σ H x y v u Q I rx ry h
 obtain⟨o,k,h1,h2,hs,q⟩:=h
 cases o with
 | some k1 =>
  have e:decide (some k1=some k)=k1.eqb k:=by
   rw[Kd.eqb_dec]
   exact decide_eq_decide.mpr ⟨fun z=>by cases z;rfl,fun z=>by rw[z]⟩
  rw[e] at q
  exact zId I (n:=20) hs h1 h2 rx ry (by omega) X.prog X.w _ _ ⟨.bl (k1.eqb k),H,I,rfl,q⟩
 | none =>
  cases (show x=.non from h1)
  cases rx
  rw[decide_eq_false (by intro z;cases z)] at q
  cases k with
  | num j=>unfold IsK at h2;subst h2;obtain⟨t',rfl⟩:=ry;exact SeqAt.RcAt.none_int _ _ X.prog X.w _ _ ⟨.bl false,H,I,rfl,q⟩
  | txt j=>unfold IsK at h2;subst h2;obtain⟨t',rfl⟩:=ry;exact SeqAt.RcAt.none_str _ _ X.prog X.w _ _ ⟨.bl false,H,I,rfl,q⟩
  | tup ls =>
   unfold IsK at h2;obtain⟨b,ws,rfl,hb,_,_⟩:=h2;cases ry
   obtain⟨its',r2,p2,_⟩:=I.tuple (SqT.of hb)
   exact SeqAt.RcAt.none_tuple p2 (by omega) X.prog X.w _ _ ⟨.bl false,H,I,rfl,q⟩
end
end L2
namespace L2
open PySem PySem.Spec PyProof.Rows
section
variable {X:Cx}
def zJ7 (neg:Bool):R2:=fun x y H Q=>∃ a b a1 a2 b1 b2 xs xs' ys ys' os os' ps ps',x=.ref a/\y=.ref b/\H a=some (.tup [.ref a1,.ref a2])/\H b=some (.tup [.ref b1,.ref b2])/\a1 ≠ b1/\a2 ≠ b2 /\
 H a1=some (.lst xs)/\H a2=some (.lst xs')/\H b1=some (.lst ys)/\H b2=some (.lst ys')/\IsKos H os xs/\IsKos H os' xs'/\IsKos H ps ys/\IsKos H ps' ys'/\(∀ o∈os,Yn 20 o)/\(∀ o∈os',Yn 20 o) /\
 Q (.bl (if neg then !(decide (os=ps) && decide (os'=ps')) else (decide (os=ps) && decide (os'=ps')))) H
theorem zC6 {pins:List (Addr × Obj)} {σ:St} {H:Hp} {s:Shared} (I:Inv X pins σ H s) {A:Around} {a b a1 a2 b1 b2:Addr} {xs xs' ys ys':List V} {os os' ps ps':List (Option Kd)} (ha:H a=some (.tup [.ref a1,.ref a2])) (hb:H b=some (.tup [.ref b1,.ref b2])) (n1:a1 ≠ b1) (n2:a2 ≠ b2)
  (h1:H a1=some (.lst xs)) (h2:H a2=some (.lst xs')) (h3:H b1=some (.lst ys)) (h4:H b2=some (.lst ys')) (i1:IsKos H os xs) (i2:IsKos H os' xs') (i3:IsKos H ps ys) (i4:IsKos H ps' ys') (d1:∀ o∈os,Yn 20 o) (d2:∀ o∈os',Yn 20 o) (hu:A.units+40 < cLine) :
  ∃ its its2,s.heap.IsTuple a its/\s.heap.IsTuple b its2/\its.size=its2.size/\its.size=2/\∀ j (h1:j < its.size) (h2:j < its2.size),SeqAt.EqAt A.in1 s its[j] its2[j] (if j=0 then decide (os=ps) else decide (os'=ps')):=by
 obtain⟨its,r,L1,_⟩:=I.tuple (SqT.of ha)
 obtain⟨its2,r2,L2,_⟩:=I.tuple (SqT.of hb)
 obtain⟨u1,u2,rfl,q1,q2⟩:=r.two
 obtain⟨v1,v2,rfl,p1,p2⟩:=r2.two
 cases q1;cases q2;cases p1;cases p2
 refine⟨_,_,L1,L2,rfl,rfl,fun j j1 j2=>?_⟩
 match j,j1 with
 | 0,_=>exact SeqAt.EqAt.of_refs n1 (zE6 I h1 h3 i1 i3 d1 (by show A.units+1+21 < cLine;omega))
 | 1,_=>exact SeqAt.EqAt.of_refs n2 (zE6 I h2 h4 i2 i4 d2 (by show A.units+1+21 < cLine;omega))
theorem zJt (hu:X.A.units+64 < cLine):OpR X (compareOp .NotEq) (zJ7 true):=by
 intro pins s σ H x y v u Q I rx ry h
 obtain⟨a,b,a1,a2,b1,b2,xs,xs',ys,ys',os,os',ps,ps',rfl,rfl,ha,hb,n1,n2,h1,h2,h3,h4,i1,i2,i3,i4,d1,d2,q⟩:=h
 cases rx
 cases ry
 obtain⟨its,its2,L1,L2,z,z2,he⟩:=zC6 I (A:=X.A) ha hb n1 n2 h1 h2 h3 h4 i1 i2 i3 i4 d1 d2 (by omega)
 have w:=SeqAt.RcNeAt.tuples (A:=X.A) (s:=s) L1 L2 (by omega) he
 rw[← z,z2] at w
 exact w X.prog X.w _ _ ⟨.bl _,H,I,rfl,by simpa [List.range_succ] using q⟩
theorem zJr (hu:X.A.units+64 < cLine):OpR X (compareOp .Eq) (zJ7 false):=by
 intro pins s σ H x y v u Q I rx ry h
 obtain⟨a,b,a1,a2,b1,b2,xs,xs',ys,ys',os,os',ps,ps',rfl,rfl,ha,hb,n1,n2,h1,h2,h3,h4,i1,i2,i3,i4,d1,d2,q⟩:=h
 cases rx
 cases ry
 obtain⟨its,its2,L1,L2,z,z2,he⟩:=zC6 I (A:=X.A) ha hb n1 n2 h1 h2 h3 h4 i1 i2 i3 i4 d1 d2 (by omega)
 have w:=SeqAt.RcAt.tuples (A:=X.A) (s:=s) L1 L2 (by omega) he
 rw[← z,z2] at w
 exact w X.prog X.w _ _ ⟨.bl _,H,I,rfl,by simpa [List.range_succ] using q⟩
def zLl:R2:=fun x y H Q=>∃ c,y=.bl c/\(x=.non\/∃ b,x=.bl b)/\Q (.bl (decide (x=.bl c))) H
theorem zI4:OpR X (compareOp .Is) zLl:=by
 intro pins s σ H x y v u Q I rx ry h
 obtain⟨c,rfl,hx,q⟩:=h
 cases ry
 rcases hx with rfl | ⟨b,rfl⟩
 ·cases rx
  rw[decide_eq_false (fun z=>by cases z)] at q
  exact wpAny_pure ⟨.bl false,H,I,rfl,q⟩
 ·cases rx
  refine is_bool ⟨.bl (b == c),H,I,rfl,?_⟩
  have e:(b == c)=decide (V.bl b=V.bl c):=by cases b <;> cases c <;> rfl
  rw[e]
  exact q
end
end L2
namespace L2
open PySem PySem.Spec PyProof.Rows
inductive Od where
 | bl (b:Bool) | non | lst | dct
inductive Th where
 | num (i:Int)
 | txt (x:Str)
 | tup (ts:List Th)
 | odd (o:Od)
mutual
def Th.ok:Th->Nat->Bool
 | .num i,_=>decide (-10 ^ 60 < i) && decide (i < 10 ^ 60)
 | .txt x,_=>decide (x.length<=60)
 | .tup ts,n=>decide (0 < n) && (decide (ts.length<=6) && Th.okL ts (n - 1))
 | .odd _,_=>false
def Th.okL:List Th->Nat->Bool
 | [],_=>true
 | t::r,n=>t.ok n && Th.okL r n
end
def Th.isNum:Th->Bool
 | .num _=>true
 | .txt _=>false
 | .tup _=>false
 | .odd _=>false
def IsO (B:Hp):Od->V->Prop
 | .bl b,v=>v=.bl b
 | .non,v=>v=.non
 | .lst,v=>∃ a xs,v=.ref a/\B a=some (.lst xs)
 | .dct,v=>∃ a xs,v=.ref a/\B a=some (.dK xs)
mutual
def IsT (B H:Hp):Th->V->Prop
 | .num i,v=>v=.int i
 | .txt x,v=>v=.str x/\x.length<=1000
 | .tup ts,v=>∃ a vs,v=.ref a/\H a=some (.tup vs)/\vs.length<=1000/\IsTs B H ts vs
 | .odd o,v=>IsO B o v
def IsTs (B H:Hp):List Th->List V->Prop
 | [],vs=>vs=[]
 | k::r,vs=>∃ v vr,vs=v::vr/\IsT B H k v/\IsTs B H r vr
end
mutual
theorem IsT.same {B H H':Hp} (s:TupS H H'):∀ {k:Th} {v:V},IsT B H k v->IsT B H' k v
 | .num _,_,h=>by unfold IsT at h ⊢;exact h
 | .txt _,_,h=>by unfold IsT at h ⊢;exact h
 | .odd _,_,h=>by unfold IsT at h ⊢;exact h
 | .tup ts,_,h=>by
  unfold IsT at h ⊢
  obtain⟨a,vs,e,h1,h2,h3⟩:=h
  exact⟨a,vs,e,s _ _ h1,h2,IsTs.same s h3⟩
theorem IsTs.same {B H H':Hp} (s:TupS H H'):∀ {ks:List Th} {vs:List V},IsTs B H ks vs->IsTs B H' ks vs
 | [],_,h=>by unfold IsTs at h ⊢;exact h
 | k::r,_,h=>by
  unfold IsTs at h ⊢
  obtain⟨v,vr,e,h1,h2⟩:=h
  exact⟨v,vr,e,IsT.same s h1,IsTs.same s h2⟩
end
theorem IsTs.length {B H:Hp}:∀ {ks:List Th} {vs:List V},IsTs B H ks vs->vs.length=ks.length
 | [],_,h=>by unfold IsTs at h;subst h;rfl
 | k::r,_,h=>by
  unfold IsTs at h
  obtain⟨v,vr,rfl,_,h2⟩:=h
  rw[List.length_cons,List.length_cons,h2.length]
theorem IsTs.get {B H:Hp}:∀ {ks:List Th} {vs:List V} {i:Nat} {v:V},IsTs B H ks vs->vs[i]? = some v->∃ k,ks[i]? = some k/\IsT B H k v
 | [],_,i,v,h,e=>by unfold IsTs at h;subst h;simp at e
 | k::r,_,0,v,h,e=>by
  unfold IsTs at h
  obtain⟨v',vr,rfl,h1,_⟩:=h
  rw[List.getElem?_cons_zero] at e
  cases e
  exact⟨k,rfl,h1⟩
 | k::r,_,i+1,v,h,e=>by
  unfold IsTs at h
  obtain⟨v',vr,rfl,_,h2⟩:=h
  rw[List.getElem?_cons_succ] at e
  obtain⟨k',e1,e2⟩:=h2.get e
  exact⟨k',by rw[List.getElem?_cons_succ];exact e1,e2⟩
theorem zFm (n:Nat):∀ ts:List Th,Th.okL ts n=(ts.map fun t=>t.ok n).all id
 | []=>by unfold Th.okL;rfl
 | t::r=>by unfold Th.okL;rw[List.map_cons,List.all_cons,zFm n r];rfl
mutual
def Kd.th:Kd->Th
 | .num i=>.num i
 | .txt x=>.txt x
 | .tup ks=>.tup (Kd.thL ks)
def Kd.thL:List Kd->List Th
 | []=>[]
 | k::r=>k.th::Kd.thL r
end
theorem Kd.thL_length:∀ ks:List Kd,(Kd.thL ks).length=ks.length
 | []=>by unfold Kd.thL;rfl
 | k::r=>by unfold Kd.thL;rw[List.length_cons,List.length_cons,Kd.thL_length r]
mutual
theorem IsK.th {B H:Hp}:∀ {k:Kd} {v:V} {n:Nat},IsK H k v->k.th.ok n=true->IsT B H k.th v
 | .num _,_,_,h,_=>by unfold IsK at h;unfold Kd.th IsT;exact h
 | .txt x,_,_,h,q=>by
  unfold IsK at h;unfold Kd.th at q ⊢;unfold Th.ok at q;unfold IsT
  have:=of_decide_eq_true q
  exact⟨h,by omega⟩
 | .tup ks,_,_,h,q=>by
  unfold IsK at h;unfold Kd.th at q ⊢;unfold Th.ok at q;unfold IsT
  obtain⟨a,vs,e,h1,h2,h3⟩:=h
  rw[Bool.and_eq_true,Bool.and_eq_true] at q
  exact⟨a,vs,e,h1,h2,IsKs.th h3 q.2.2⟩
theorem IsKs.th {B H:Hp}:∀ {ks:List Kd} {vs:List V} {n:Nat},IsKs H ks vs->Th.okL (Kd.thL ks) n=true->IsTs B H (Kd.thL ks) vs
 | [],_,_,h,_=>by unfold IsKs at h;unfold Kd.thL IsTs;exact h
 | k::r,_,_,h,q=>by
  unfold IsKs at h;unfold Kd.thL at q ⊢;unfold Th.okL at q;unfold IsTs
  obtain⟨v,vr,e,h1,h2⟩:=h
  rw[Bool.and_eq_true] at q
  exact⟨v,vr,e,IsK.th h1 q.1,IsKs.th h2 q.2⟩
end
def Emp:Hp:=fun _=>none
theorem zHs {H:Hp}:Same Emp H:=fun b o h=>by cases h
end L2
namespace L2
open PySem PySem.Spec PyProof.Rows
structure Pair (d:Nat) (k k':Kd):Prop where
 st:k.st=k'.st
 ne:k ≠ k'
 ok:k.th.ok d=true
 ok':k'.th.ok d=true
def YR (ns:List Int) (k:Int):Int:=(ns[k.toNat]?).getD 0
end L2
namespace L2
open PySem PySem.Spec PyProof.Rows
end L2
namespace L2
open PySem PySem.Spec PyProof.Rows
structure Fly (B h:Heap) (l:List Env) (e:Addr) (cls fl:Value):Prop where
 stays:B.StaysIn h
 new:B.get? e=none
 frames:h.FunFrames B l
 trc:∃ oe vs T oT ts,h.get? e=some oe/\oe.cls=cls/\oe.data=.fields vs/\vs[2]? = some .none/\vs[1]? = some (.ref T)/\B.get? T=none/\T ≠ e/\h.get? T=some oT/\oT.data=.fields ts/\ts[3]? = some fl
section
variable {M:Model} {A:Around} {E:Value->Shared->Prop} {s:Shared} {B:Heap} {env:Env} {outer l:List Env} {L e T:Addr} {oe oT:Obj} {vs ts:Array Value} {head cls fl:Value} {Q:Unit->Shared->Prop}
theorem zBg {hadNext:Bool} (hfr:A.frames=some (env::outer)) (hl:s.heap.FunFrames B (env::outer)) (hf:env.frame=some L) (he:s.heap.get? e=some oe) (hkb:B.StaysIn s.heap) (hen:B.get? e=none)
  (hd:oe.data=.fields vs) (hsz:1 < vs.size) (h2:vs[2]? = some .none)
  (h:∀ h',Fly B h' (env::outer) e oe.cls (rawInt L)->s.heap.UpToSlots h'->Q () { s with heap:=h' }) :
  wpAny M A (do let a ← frameOf env;let pl ← entryPlaceOf L hadNext;let b ← EntryCells.newEntry head a .none (rawInt L) .none pl;setField (.ref e) 1 b) Q E s:=by
 have hne:e ∉ (env::outer).filterMap (·.frame):=fun hm=>by
  obtain⟨_,o,ho,hnf⟩:=hl.mem hm
  rw[he] at ho
  cases ho
  exact hnf vs hd
 refine wpAny_bind (wpAny_frameOf_fun hfr hl hf fun h₁ hs=>?_)
 refine wpAny_bind (wpAny_entryPlaceOf fun pl hpl=>?_)
 unfold EntryCells.newEntry newFields
 refine wpAny_bind (wpAny_newObj_type ?_ (hpl.sizeOk5 _ _ _ _ _))
 have e1:h₁.get? e=some oe:=(hs.2.1 e hne).trans he
 generalize hob:({ cls:=.type "traceback",dict:=none,data:=.fields _ }:Obj)=ob
 have hts:∃ ts,ob.data=.fields ts/\ts[3]? = some (rawInt L):=by
  subst hob
  exact⟨_,rfl,by simp⟩
 have hfr':ob.isFreed=false:=by
  obtain⟨ts,q,_⟩:=hts
  exact Obj.isFreed_of_fields q
 have e2:(h₁.push ob).get? e=some oe:=Heap.get?_push_of_some _ e1
 refine wpAny_setField e2 hd hsz (h _ ?_ ?_)
 ·have hTe:h₁.objs.size ≠ e:=Nat.ne_of_gt (Heap.lt_size e1)
  have old:∀ b o,b ≠ e->h₁.get? b=some o->((h₁.push ob).update e (Obj.mapFields (·.setIfInBounds 1 (Value.ref h₁.objs.size)))).get? b=some o:=fun b o hb q =>
   (Heap.get?_update_other _ _ (Ne.symm hb)).trans (Heap.get?_push_of_some _ q)
  have kb:B.StaysIn h₁:=fun b o q=>(hs.2.1 b fun hm=>by rw[(hl.mem hm).1] at q;cases q).trans (hkb b o q)
  refine⟨fun b o q=>old b o (fun z=>by rw[z,hen] at q;cases q) (kb b o q),hen,hl.of_keeps fun b o q hnf=>?_,?_⟩
  ·obtain⟨sl,q2⟩:=hs.2.2 b o q
   refine⟨_,old b _ (fun z=>?_) q2,rfl⟩
   rw[z,he] at q
   cases q
   exact hnf vs hd
  ·obtain⟨ts,q1,q2⟩:=hts
   have hd3:=Obj.data_mapFields hd (·.setIfInBounds 1 (Value.ref h₁.objs.size))
   exact⟨_,_,h₁.objs.size,ob,ts,Heap.get?_update_self _ e2 (Obj.isFreed_of_fields hd3),Obj.cls_mapFields _ _,hd3,by rw[Array.getElem?_setIfInBounds_ne (by decide)];exact h2,by simp[hsz],kb.fresh,hTe,
    (Heap.get?_update_other _ _ (Ne.symm hTe)).trans (Heap.get?_push_size h₁ hfr'),q1,q2⟩
 ·intro b o q hnf
  obtain⟨sl,q2⟩:=hs.2.2 b o q
  refine⟨sl,(Heap.get?_update_other _ _ fun z=>?_).trans (Heap.get?_push_of_some _ q2)⟩
  rw[← z,he] at q
  cases q
  exact hnf vs hd
theorem zF7 (hfr:A.frames=some (env::outer)) (hl:s.heap.FunFrames B (env::outer)) (hf:env.frame=some L) (he:s.heap.get? e=some oe) (hkb:B.StaysIn s.heap) (hen:B.get? e=none)
  (hd:oe.data=.fields vs) (h1:vs[1]? = some .none) (h2:vs[2]? = some .none)
  (h:∀ h',Fly B h' (env::outer) e oe.cls (rawInt L)->s.heap.UpToSlots h'->Q () { s with heap:=h' }):wpAny M A (noteFrame (.ref e) env) Q E s:=by
 unfold noteFrame
 simp only[hf]
 refine wpAny_bind (wpAny_field he hd h1 ?_)
 rw[if_neg (by decide)]
 exact zBg hfr hl hf he hkb hen hd (Array.getElem?_eq_some_iff.mp h1).1 h2 h
theorem zDC (hfr:A.frames=some (env::outer)) (hf:env.frame=some L) (x:Fly B s.heap (env::outer) e cls .none)
  (h:∀ h',Fly B h' (env::outer) e cls (rawInt L)->s.heap.UpToSlots h'->Q () { s with heap:=h' }):wpAny M A (noteFrame (.ref e) env) Q E s:=by
 obtain⟨oe,vs,T,oT,ts,he,rfl,hd,h2,h1,hnT,hTe,hT,hdT,h3⟩:=x.trc
 unfold noteFrame
 simp only[hf]
 refine wpAny_bind (wpAny_field he hd h1 ?_)
 rw[if_pos (show (Value.ref T != Value.none)=true from by simp)]
 refine wpAny_bind (wpAny_field hT hdT h3 ?_)
 rw[if_neg (show ¬ ((Value.none == rawInt L)=true) from by simp[rawInt])]
 refine wpAny_bind (wpAny_setField hT hdT (Array.getElem?_eq_some_iff.mp h3).1 ?_)
 have oth:∀ b,b ≠ T->(s.heap.update T (Obj.mapFields (·.setIfInBounds 3 Value.none))).get? b=s.heap.get? b:=fun b hb=>Heap.get?_update_other _ _ (Ne.symm hb)
 have nr:∀ b o,s.heap.get? b=some o->(∀ vs,o.data ≠ .fields vs)->b ≠ T:=fun b o q hnf z=>by
  rw[z,hT] at q
  cases q
  exact hnf ts hdT
 refine zBg (s:={ s with heap:=s.heap.update T (Obj.mapFields (·.setIfInBounds 3 Value.none)) }) hfr (x.frames.of_keeps fun b o q hnf=>⟨o,(oth b (nr b o q hnf)).trans q,rfl⟩) hf ((oth e (Ne.symm hTe)).trans he)
  (fun b o q=>(oth b fun z=>by rw[z,hnT] at q;cases q).trans (x.stays b o q)) x.new hd (Array.getElem?_eq_some_iff.mp h1).1 h2 fun h' y u=>h h' y fun b o q hnf=>u b o ((oth b (nr b o q hnf)).trans q) hnf
theorem Zl (x:Fly B s.heap l e cls fl) (h:∀ h',Fly B h' l e cls .none->s.heap.UpToSlots h'->Q () { s with heap:=h' }):wpAny M A (setFlight (.ref e) none) Q E s:=by
 obtain⟨oe,vs,T,oT,ts,he,rfl,hd,h2,h1,hnT,hTe,hT,hdT,h3⟩:=x.trc
 unfold setFlight
 refine wpAny_bind (wpAny_field he hd h1 ?_)
 rw[if_pos (show (Value.ref T != Value.none)=true from by simp)]
 have hsz:=(Array.getElem?_eq_some_iff.mp h3).1
 have oth:∀ b,b ≠ T->(s.heap.update T (Obj.mapFields (·.setIfInBounds 3 ((none:Option Addr).elim Value.none fun f=>rawInt f)))).get? b=s.heap.get? b:=fun b hb=>Heap.get?_update_other _ _ (Ne.symm hb)
 have nr:∀ b o,s.heap.get? b=some o->(∀ vs,o.data ≠ .fields vs)->b ≠ T:=fun b o q hnf z=>by
  rw[z,hT] at q
  cases q
  exact hnf ts hdT
 refine wpAny_setField hT hdT hsz (h _ ⟨fun b o q=>(oth b fun z=>by rw[z,hnT] at q;cases q).trans (x.stays b o q),x.new,x.frames.of_keeps fun b o q hnf=>⟨o,(oth b (nr b o q hnf)).trans q,rfl⟩,?_⟩ fun b o q hnf=>⟨o.slots,(oth b (nr b o q hnf)).trans q⟩)
 have hd3:=Obj.data_mapFields hdT (·.setIfInBounds 3 ((none:Option Addr).elim Value.none fun f=>rawInt f))
 exact⟨oe,vs,T,_,_,(oth e (Ne.symm hTe)).trans he,rfl,hd,h2,h1,hnT,hTe,Heap.get?_update_self _ hT (Obj.isFreed_of_fields hd3),hd3,by simp[hsz]⟩
theorem Fly.tail {h:Heap} (x:Fly B h (env::outer) e cls fl):Fly B h outer e cls fl:=⟨x.stays,x.new,x.frames.2.2,x.trc⟩
theorem zGi (hfr:A.frames=some (env::outer)) (hf:env.frame=some L) (x:Fly B s.heap (env::outer) e cls .none)
  (h:∀ h',Fly B h' outer e cls .none->s.heap.UpToSlots h'->Q () { s with heap:=h' }):wpAny M A (leaving env (.ref e)) Q E s:=by
 unfold leaving
 refine wpAny_bind (zDC hfr hf x fun h1 y u=>?_)
 exact Zl (s:={ s with heap:=h1 }) y fun h2 z v=>h h2 z.tail (u.trans v)
theorem zEP {h₀:Heap} {args:List Value} (hfr:A.frames=some (env::outer)) (hf:env.frame=some L) (hkb:B.StaysIn h₀) (hl:h₀.FunFrames B (env::outer)) (hx:Heap.MadeExcOf h₀ s.heap e cls args)
  (h:∀ h',Fly B h' outer e cls .none->s.heap.UpToSlots h'->Q () { s with heap:=h' }):wpAny M A (leaving env (.ref e)) Q E s:=by
 obtain⟨t,he,htn,ht⟩:=hx.there
 have hen:B.get? e=none:=by
  cases q:B.get? e with
  | none=>rfl
  | some o=>have:=hkb e o q;rw[hx.new] at this;cases this
 unfold leaving
 refine wpAny_bind (zF7 hfr (hl.of_keeps fun b o q _=>⟨o,hx.keeps b o q,rfl⟩) hf he (fun b o q=>hx.keeps b o (hkb b o q)) hen rfl rfl rfl fun h1 y u=>?_)
 exact Zl (s:={ s with heap:=h1 }) y fun h2 z v=>h h2 z.tail (u.trans v)
end
end L2
namespace L2
open PySem PySem.Spec PyProof.Rows
structure ToB (fs:List Addr) (H H':Hp) (h B:Heap):Prop where
 keep:∀ b o,h.get? b=some o->H b=none->b ∉ fs->B.get? b=some o
 free:∀ b o,h.get? b=some o->H b=none->H' b=none
 there:∀ b o,h.get? b=some o->b ∉ fs->∃ o',B.get? b=some o'
 tups:∀ b xs,H b=some (.tup xs)->H' b=some (.tup xs)
 frzs:∀ b o u,H b=some (.frz o u)->H' b=some (.frz o u)
 tbls:∀ b ps,H b=some (.tbl ps)->∃ more,H' b=some (.tbl (ps++more))
def CXe (P:Program) (w:World):CXT:=fun outer H s E e s' =>
 ∃ (ea:Addr) (cls:Value) (B:Heap) (H':Hp),e=.ref ea/\(s'.os=s.os/\1<=s'.toks)/\AllBare s'.gens/\Fly B s'.heap outer ea cls .none/\HOk P w H' B/\ToB (frs outer) H H' s.heap B /\
  (∀ b o,s.heap.get? b=some o->b∈frs outer->∃ sl,s'.heap.get? b=some { o with slots:=sl })/\E cls (some ea) H'
theorem ToB.un {fs:List Addr} {H H':Hp} {h B h':Heap} (x:ToB fs H H' h B) (k:B.StaysIn h') (sl:∀ b o,h.get? b=some o->b∈fs->∃ sl,h'.get? b=some { o with slots:=sl }):Un fs [] H H' h h' where
 keep:=fun b o q n hb _=>k b o (x.keep b o q n hb)
 slot:=fun b o q _ hb _=>sl b o q hb
 free:=fun b o q n _=>x.free b o q n
 there:=fun b o q _=>by
  by_cases hb:b∈fs
  ·obtain⟨s,e⟩:=sl b o q hb
   exact⟨_,e⟩
  ·obtain⟨o',e⟩:=x.there b o q hb
   exact⟨o',k b o' e⟩
 tups:=x.tups
 frzs:=x.frzs
 tbls:=x.tbls
section
variable {X:Cx} {pins:List (Addr × Obj)} {σ:St} {H H':Hp} {s s':Shared} {e:Value} {E E':XK}
structure Own (X:Cx):Prop where
 stk:X.stack=X.env::X.outer
 fr:X.env.frame=some X.env.locals
 ex:X.ex=[]
theorem ToB.out {B:Heap} (I:Inv X pins σ H s) (O:Own X) (x:ToB (frs X.stack) H H' s.heap B):ToB X.fs X.H₀ H' X.s₀.heap B where
 keep:=fun b o q n hb=>by
  have q2:=I.base.keep b o q n hb (by rw[O.ex];simp)
  refine x.keep b o q2 (I.base.free b o q n (by rw[O.ex];simp)) fun hm=>?_
  rw[O.stk] at hm
  unfold frs at hm
  rw[List.filterMap_cons,O.fr] at hm
  rcases List.mem_cons.mp hm with z | z
  ·exact Nat.ne_of_lt (Nat.lt_of_lt_of_le (Heap.lt_size q) I.ok.above) z
  ·exact hb z
 free:=fun b o q n=>by
  obtain⟨o',q2⟩:=I.base.there b o q (by rw[O.ex];simp)
  exact x.free b o' q2 (I.base.free b o q n (by rw[O.ex];simp))
 there:=fun b o q hb=>by
  obtain⟨o',q2⟩:=I.base.there b o q (by rw[O.ex];simp)
  refine x.there b o' q2 fun hm=>?_
  rw[O.stk] at hm
  unfold frs at hm
  rw[List.filterMap_cons,O.fr] at hm
  rcases List.mem_cons.mp hm with z | z
  ·exact Nat.ne_of_lt (Nat.lt_of_lt_of_le (Heap.lt_size q) I.ok.above) z
  ·exact hb z
 tups:=fun b xs q=>x.tups b xs (I.base.tups b xs q)
 frzs:=fun b o u q=>x.frzs b o u (I.base.frzs b o u q)
 tbls:=fun b ps q=>by
  obtain⟨m1,e1⟩:=I.base.tbls b ps q
  obtain⟨m2,e2⟩:=x.tbls b _ e1
  exact⟨m1++m2,by rw[e2,Array.append_assoc]⟩
theorem zBl {h':Heap} (I:Inv X pins σ H s) (O:Own X) (sl:∀ b o,s.heap.get? b=some o->b∈X.fs->∃ sl,h'.get? b=some { o with slots:=sl }):∀ b o,X.s₀.heap.get? b=some o->b∈X.fs->∃ sl,h'.get? b=some { o with slots:=sl }:=fun b o q hb=>by
 obtain⟨s1,q1⟩:=I.base.slot b o q (I.ok.frf b hb) hb (by rw[O.ex];simp)
 obtain⟨s2,q2⟩:=sl b _ q1 hb
 exact⟨s2,q2⟩
theorem Jq {h B:Heap}:∀ {l:List Env} {b:Addr} {o:Obj},h.FunFrames B l->b∈frs l->h.get? b=some o->∀ vs,o.data ≠ .fields vs:=fun hl hb q vs z=>by
 obtain⟨_,o',ho,hn⟩:=hl.mem hb
 rw[q] at ho
 cases ho
 exact hn vs z
end
abbrev cxE (P:Program) (w:World) (K:W.Frag) (mg:Str->Option Value) (base:Heap) (N:List Str) (qual:Str) (scope:Scope) (f:Addr) (cd:Value) (A:Around) (outer:List Env) (s:Shared) (H:Hp) (E:XK):Cx:=zA4 (CXe P w) P w K mg base N qual scope f cd A outer s H E
section
variable {P:Program} {w:World} {K:W.Frag} {mg:Str->Option Value} {base:Heap} {N:List Str} {qual:Str} {scope:Scope} {f:Addr} {cd:Value} {A:Around} {outer:List Env} {s₀:Shared} {H₀:Hp} {E E':XK}
theorem Ji {CX:CXT}:Own (zA4 CX P w K mg base N qual scope f cd A outer s₀ H₀ E):=⟨rfl,rfl,rfl⟩
theorem zFK (h:∀ c a H,E' c a H->E c a H):ZN (CXe P w) (cxE P w K mg base N qual scope f cd A outer s₀ H₀ E) E':=by
 intro pins σ H s e s' I x
 obtain⟨ea,cls,B,H',rfl,h1,h2,h3,h6,h7,h8,h9⟩:=x
 refine zGi (s:=s') I.ok.frames rfl h3 fun h' y u=>?_
 refine⟨ea,cls,B,H',rfl,⟨h1.1.trans I.os,h1.2⟩,h2,y,h6,h7.out I Ji,zBl I Ji fun b o q hb=>?_,h _ _ _ h9⟩
 have hb':b∈frs (cxE P w K mg base N qual scope f cd A outer s₀ H₀ E).stack:=by
  show b∈frs (_::outer)
  unfold frs
  exact List.mem_filterMap.mpr (by
   obtain⟨env,h1,h2⟩:=List.mem_filterMap.mp hb
   exact⟨env,List.mem_cons_of_mem _ h1,h2⟩)
 obtain⟨s1,q1⟩:=h8 b o q hb'
 obtain⟨s2,q2⟩:=u b _ q1 (Jq h3.frames hb' q1)
 exact⟨s2,q2⟩
end
end L2
namespace L2
open PySem PySem.Spec PyProof.Rows
abbrev VE:List Value:=[.type "ValueError",.type "Exception",.type "BaseException",.type "object"]
structure XC (K:W.Frag) (C:Addr) (bm:List Value):Prop where
 ex:PySem.W.excIn K C VE "ValueError.__new__" = true
 ob:∃ nm q N bs hdct sn sub ab col dd k0 k1 k2 k3 k5 newId,K.lookup C=some (excClassObj nm q C N bs bm hdct sn sub ab col dd k0 k1 k2 k3 k5 newId)
theorem XC.at {K:W.Frag} {C:Addr} {bm:List Value} {h:Heap} (c:XC K C bm) (X:K.In h):∃ N nm q bs hdct sn sub ab col dd k0 k1 k2 k3 k5 mN,
  h.get? C=some (excClassObj nm q C N bs bm hdct sn sub ab col dd k0 k1 k2 k3 k5 "ValueError.__new__")/\h.Ns N mN/\mN "__init__" = none/\OwnTail h VE bm:=by
 obtain⟨nm,q,N,bs,hdct,sn,sub,ab,col,dd,k0,k1,k2,k3,k5,newId,lk⟩:=c.ob
 have ex:=c.ex
 unfold PySem.W.excIn at ex
 rw[lk] at ex
 simp only[Bool.and_eq_true,beq_iff_eq,Bool.not_eq_true'] at ex
 obtain⟨⟨⟨⟨⟨_,rfl⟩,_⟩,ht⟩,hok⟩,hni⟩:=ex
 exact⟨N,nm,q,bs,hdct,sn,sub,ab,col,dd,k0,k1,k2,k3,k5,_,X _ _ lk,.of_isNs (PySem.W.isNs_of_in X hok),PySem.W.nsMap_none_of_in X hok hni,PySem.W.tail_of_in X ht⟩
end L2
namespace L2
open PySem PySem.Spec PyProof.Rows
def ExO (ea:Addr) (cls:Value):HO:=.ext fun h=>∃ oe vs,h.get? ea=some oe/\oe.cls=cls/\oe.data=.fields vs/\vs[2]? = some .none
theorem zLO {P:Program} {w:World} {H:Hp} {B h:Heap} {l:List Env} {ea:Addr} {cls fl:Value} (x:Fly B h l ea cls fl):ObjOk P w H h ea (ExO ea cls):=by
 obtain⟨oe,vs,T,oT,ts,he,hc,hd,h2,_⟩:=x.trc
 exact⟨⟨oe,vs,he,hc,hd,h2⟩,⟨oe,he⟩,fun h1 h2 ⟨oe,vs,a,b⟩ k=>⟨oe,vs,k _ a,b⟩⟩
theorem ObjOk.got {P:Program} {w:World} {H:Hp} {h:Heap} {a:Addr} {o:HO} (x:ObjOk P w H h a o):∃ ob,h.get? a=some ob:=by
 cases o with
 | lst xs=>obtain⟨_,_,_,_,e⟩:=x;exact⟨_,e⟩
 | tup xs=>obtain⟨_,_,_,o,e,_⟩:=x;exact⟨o,e⟩
 | dK kvs=>obtain⟨_,_,_,_,o,_,_,e,_⟩:=x;exact⟨o,e⟩
 | dT kvs=>obtain⟨_,_,_,_,o,_,_,e,_⟩:=x;exact⟨o,e⟩
 | set S n=>obtain⟨o,_,_,_,e,_⟩:=x;exact⟨o,e⟩
 | ins C dx fs=>obtain⟨_,_,_,e,_⟩:=x;exact⟨_,e⟩
 | own y=>exact x
 | xd fs=>obtain⟨_,⟨o,_,_,e,_⟩,_⟩:=x;exact⟨o,e⟩
 | rng lo hi=>obtain⟨_,_,_,e⟩:=x;exact⟨_,e⟩
 | frz ob u=>obtain⟨e,_⟩:=x;exact⟨ob,e⟩
 | tbl ps=>exact⟨_,(show h.get? a=some _ from x)⟩
 | met f y=>exact⟨_,(show h.get? a=some _ from x)⟩
 | ext φ=>obtain⟨_,e,_⟩:=x;exact e
abbrev Cx.bear (X:Cx) (pl:List (Addr × Obj)):Cx:={ X with pn:=X.pn++pl }
abbrev Cx.inH (X:Cx) (ea:Addr):Cx:={ X with A:=X.A.mark (some (.ref ea)),calm:=false,xe:=fun _ _=>False }
def xeR (X:Cx) (RX:St->Hp->XK):Value->Shared->Prop:=fun e s'=>∃ pins σ H s,Inv X pins σ H s/\CXe X.prog X.w X.stack H s (RX σ H) e s'
section
variable {X:Cx} {pins pl:List (Addr × Obj)} {σ:St} {H:Hp} {s:Shared} {E:Value->Shared->Prop} {ea:Addr}
theorem Inv.bear (I:Inv X pl σ H s):Inv (X.bear pl) [] σ H s :=
 ⟨⟨I.ok.mod,I.ok.kind,I.ok.glob,I.ok.blt,I.ok.above,I.ok.inj,I.ok.has,I.ok.cab,I.ok.hd,I.ok.frames,I.ok.stk,I.ok.exf,I.ok.bs,I.ok.bsz,I.ok.noex,I.ok.exfs,I.ok.funs,I.ok.frf⟩,
  I.os,I.bare,I.base,I.loc,I.cell,I.free,I.freeC,fun p hp=>I.pin p (by simpa using hp),I.hok,I.len,I.tk⟩
theorem Inv.unbear (I:Inv (X.bear pl) pins σ H s):Inv X pl σ H s :=
 ⟨⟨I.ok.mod,I.ok.kind,I.ok.glob,I.ok.blt,I.ok.above,I.ok.inj,I.ok.has,I.ok.cab,I.ok.hd,I.ok.frames,I.ok.stk,I.ok.exf,I.ok.bs,I.ok.bsz,I.ok.noex,I.ok.exfs,I.ok.funs,I.ok.frf⟩,
  I.os,I.bare,I.base,I.loc,I.cell,I.free,I.freeC,fun p hp=>I.pin p (List.mem_append_left _ hp),I.hok,I.len,I.tk⟩
theorem Inv.inH (I:Inv X pins σ H s) (ea:Addr):Inv (X.inH ea) pins σ H s :=
 ⟨⟨I.ok.mod,I.ok.kind,I.ok.glob,I.ok.blt,I.ok.above,I.ok.inj,I.ok.has,I.ok.cab,(fun z=>nomatch z),I.ok.frames,I.ok.stk,I.ok.exf,I.ok.bs,I.ok.bsz,I.ok.noex,I.ok.exfs,I.ok.funs,I.ok.frf⟩,
  I.os,I.bare,I.base,I.loc,I.cell,I.free,I.freeC,I.pin,I.hok,I.len,I.tk⟩
theorem Inv.outH (J:Inv (X.inH ea) pins σ H s) (ok:X.Ok):Inv X pins σ H s:=⟨ok,J.os,J.bare,J.base,J.loc,J.cell,J.free,J.freeC,J.pin,J.hok,J.len,J.tk⟩
end
theorem JT {M:Model} {A:Around} {E:Value->Shared->Prop} {K:W.Frag} {C D e:Addr} {bm bmC:List Value} {s:Shared} {oe:Obj} {Q:Bool->Shared->Prop} (X:K.In s.heap) (cD:XC K D bm) (cC:XC K C bmC) (he:s.heap.get? e=some oe) (hcls:oe.cls=.ref D)
  (h:Q ((Value.ref D::bm).contains (.ref C)) s):wpAny M A (excMatches (.ref e) (.ref C)) Q E s:=by
 obtain⟨N,nm,q,bs,hdct,sn,sub,ab,col,dd,k0,k1,k2,k3,k5,mN,hD,_,_,_⟩:=cD.at X
 obtain⟨N',nm',q',bs',hdct',sn',sub',ab',col',dd',j0,j1,j2,j3,j5,mN',hC,_,_,TL⟩:=cC.at X
 have hb:(Value.ref C::bmC).contains (.type "BaseException")=true:=by rw[List.contains_cons,TL.hasType (X := "BaseException") (b:=true) rfl,Bool.or_true]
 obtain⟨hp,g,d,t,os⟩:=s
 have f:=tc_notTuple
 unfold excMatches
 have hD':hp.get? D=some (excClassObj nm q D N bs bm hdct sn sub ab col dd k0 k1 k2 k3 k5 "ValueError.__new__"):=hD
 have hC':hp.get? C=some (excClassObj nm' q' C N' bs' bmC hdct' sn' sub' ab' col' dd' j0 j1 j2 j3 j5 "ValueError.__new__"):=hC
 have he':hp.get? e=some oe:=he
 repeat (first | (with_reducible refine wpAny_loadPart_at he' ?_;rw[hcls]) | with_reducible refine wpAny_loadPart_at hC' ?_ | (with_reducible refine wpAny_isSubtype_exc hC' ?_;rw[hb]) | with_reducible refine wpAny_isSubtype_exc hD' ?_ | wp_step)
 cases e1:(Value.ref D::bm).contains (Value.ref C) with
 | true=>rw[e1] at h;rw[if_pos rfl];exact wpAny_pure (wpAny_pure (wpAny_pure h))
 | false=>rw[e1] at h;rw[if_neg Bool.false_ne_true];exact wpAny_pure (wpAny_pure (wpAny_pure h))
end L2
namespace L2
open PySem PySem.Spec PyProof.Rows
section
variable {X:Cx} {pins:List (Addr × Obj)} {σ:St} {H H':Hp} {s s':Shared} {B h':Heap} {ea:Addr} {cls fl:Value}
theorem Inv.landed (I:Inv X pins σ H s) (ho:s'.os=s.os) (htk:1<=s'.toks) (hg:AllBare s'.gens) (x:Fly B h' X.stack ea cls fl) (hok:HOk X.prog X.w H' B) (tb:ToB (frs X.stack) H H' s.heap B)
  (sl:∀ b o,s.heap.get? b=some o->b∈frs X.stack->∃ sl,h'.get? b=some { o with slots:=sl }):Inv X pins σ (upd H' ea (ExO ea cls)) { s' with heap:=h' }:=by
 have hn:H' ea=none:=by
  cases q:H' ea with
  | none=>rfl
  | some o =>
   obtain⟨ob,e⟩:=(hok ea o q).got
   rw[x.new] at e
   cases e
 have u:=tb.un x.stays sl
 have hne:∀ b o,s.heap.get? b=some o->b ≠ ea:=fun b o q z=>by
  by_cases hb:b∈frs X.stack
  ·obtain⟨s1,q1⟩:=sl b o q hb
   obtain⟨oe,vs,T,oT,ts,he,_,hd,_⟩:=x.trc
   have:=Jq x.frames hb q1 vs
   rw[z,he] at q1
   cases q1
   exact this hd
  ·obtain⟨o',q1⟩:=tb.there b o q hb
   rw[z,x.new] at q1
   cases q1
 refine Inv.call' (s':={ s' with heap:=h' }) (ch:=[]) I ho ⟨u.keep,u.slot,fun b o q n hb=>?_,u.there,fun b xs q=>?_,fun b o w q=>?_,fun b ps q=>?_⟩ ?_ hg htk (fun b hb=>by cases hb)
 ·rw[QH (hne b o q)];exact u.free b o q n hb
 ·have:=u.tups b xs q
  rw[QH (QJ this hn)];exact this
 ·have:=u.frzs b o w q
  rw[QH (QJ this hn)];exact this
 ·obtain⟨m,e⟩:=u.tbls b ps q
  exact⟨m,by rw[QH (QJ e hn)];exact e⟩
 ·exact (hok.kept x.stays).track hn (zLO x)
end
end L2
namespace L2
open PySem PySem.Spec PyProof.Rows
end L2
namespace L2
open PySem PySem.Spec PySem.W PySem.Calls PyProof.Rows Builtin Builtin.ObjectAttr Builtin.Getset_descriptor
structure XI (K:Frag) (D:Addr):Prop where
 ga:findIn K (.ref D) "__getattribute__" = some (some (.builtin "BaseException.__getattribute__"))
 gh:findIn K (.ref D) "__getattr__" = some none
 fc:findIn K (.ref D) "__class__" = some (some (.builtin "object.__class__"))
 sg:specialIn K (.builtin "object.__class__") "__get__" = some (some (.builtin "getset_descriptor.__get__"))
 tk:takesIn K (.builtin "object.__class__")=some true
 mo:mroIn K D (.type "object")=some true
 mb:mroIn K D (.type "BaseException")=some true
end L2
namespace L2
open PySem PySem.Spec PyProof.Rows
section
variable {X:Cx}
inductive ClsV:V->Value->Prop where
 | ty (T:String):ClsV (.ty T) (.type T)
 | own (C:Addr):ClsV (.ref C) (.ref C)
end
structure RoomH (ea:Addr) (k:Nat) (A:Around):Prop where
 hd:A.handled=some (.ref ea)
 dp:A.depth+3*k+5 < recursionLimit
 un:A.units+16*k+200 < cLine
abbrev noX:XK:=fun _ _ _=>False
structure FnH (P:Program) (w:World) (K:W.Frag) (mg:Str->Option Value) (base:Heap) (ea:Addr) (k:Nat) (f:Addr) (fd:FuncData) (ps:List Str) (sp:Sp):Prop where
 len:∀ vs H Q E,sp vs H Q E->vs.length=ps.length
 run:∀ (A:Around) (outer:List Env) (s:Shared) (H:Hp) (args:Args) (us:List Value) (vs:List V) (Q:VK),RoomH ea k A->Env0 P w K mg base A outer s H->BindsTo s fd args (ps.zip us)->Vals vs us->sp vs H Q noX ->
  codeAny (model P w) A (.call (.ref f) args) (fun r s'=>match r with | .ok (.ret u)=>CE outer P w H s Q u s' | _=>False) s
section
variable {P:Program} {w:World} {K:W.Frag} {mg:Str->Option Value} {base:Heap} {N ps:List Str} {qual:Str} {scope:Scope} {f:Addr} {cd:Value} {A:Around} {outer:List Env} {s s₀:Shared} {H H₀:Hp} {ea:Addr} {pins:List (Addr × Obj)} {σ:St}
theorem Fun.okE {x qual:Str} {st:Stmt} {f:Addr} {fd:FuncData} {N ps:List Str} {k:Nat} {sp:Sp} (F:Fun K x qual st f fd) (S:FnScope N ps (QI st)) (len:∀ vs H Q E,sp vs H Q E->vs.length=ps.length)
  (hbody:∀ (cdv:Value) (A:Around) (outer:List Env) (s:Shared) (H:Hp) (vs:List V) (Q:VK) (E:XK),Room k (A.deeper (envOfC qual (QI st) s.heap.objs.size f cdv))->sp vs H Q E ->
   ∃ t,PSs (cxE P w K mg base N qual (QI st) f cdv A outer s H E) (Qr st) t/\t { nx:=fun _ H'=>Q .non H',rt:=Q } (Zq N vs) H):FnOk P w K mg base (CXe P w) (k+1) f fd ps sp:=by
 obtain⟨oc,od,kV,doc,pm,an,cdv,ct,osl,rfl,lk,hcd⟩:=F.ex
 exact zG2 lk hcd S len fun A outer s H vs Q E hr hsp=>hbody cdv A outer s H vs Q E hr hsp
end
end L2
namespace L2
open PySem PySem.Spec PyProof.Rows
end L2
namespace L2
open PySem PySem.Spec PyProof.Rows
def NN (x:V):Bool := !decide (x=V.non)
end L2
namespace L2
theorem zFg {s:Int} (hs:s % 2=1):∀ (k:Nat) (d:Int),(2:Int) ^ k ∣ d*s->(2:Int) ^ k ∣ d
 | 0,d,_=>by rw[Int.pow_zero];exact Int.one_dvd d
 | k+1,d,h=>by
  have h1:(2:Int) ^ k ∣ d*s:=Int.dvd_trans ⟨2,by rw[Int.pow_succ]⟩ h
  obtain⟨t,rfl⟩:=zFg hs k d h1
  have hp:(2:Int) ^ k ≠ 0:=Int.ne_of_gt (Int.pow_pos (by decide))
  rw[Int.pow_succ,Int.mul_assoc] at h
  have h2:(2:Int) ∣ t*s:=Int.dvd_of_mul_dvd_mul_left hp h
  obtain⟨u,hu⟩:∃ u,s=2*u+1:=⟨s / 2,by omega⟩
  have h3:(2:Int) ∣ t:=by
   rw[hu,Int.mul_add,Int.mul_one] at h2
   have e:t*(2*u)=2*(t*u):=by rw[← Int.mul_assoc,Int.mul_comm t 2,Int.mul_assoc]
   rw[e] at h2
   generalize t*u=z at h2
   omega
  obtain⟨w,rfl⟩:=h3
  exact⟨w,by rw[Int.pow_succ,Int.mul_assoc]⟩
theorem zIl {s:Int} (hs:s % 2=1) {k:Nat} {m i j:Int} (h0:0<=i) (h1:i < 2 ^ k) (h2:0<=j) (h3:j < 2 ^ k) (h:(m+i*s) % 2 ^ k=(m+j*s) % 2 ^ k):i=j:=by
 have e:((m+i*s) - (m+j*s)) % 2 ^ k=0:=Int.emod_eq_emod_iff_emod_sub_eq_zero.mp h
 have e2:(m+i*s) - (m+j*s)=(i - j)*s:=by rw[Int.sub_mul];omega
 rw[e2] at e
 obtain⟨t,ht⟩:=zFg hs k _ (Int.dvd_of_emod_eq_zero e)
 have hp:(0:Int) < 2 ^ k:=Int.pow_pos (by decide)
 generalize (2:Int) ^ k=M at *
 have ht0:t=0:=by
  by_cases c:0 < t
  ·have:M*1<=M*t:=Int.mul_le_mul_of_nonneg_left (by omega) (by omega)
   omega
  ·by_cases c2:t < 0
   ·have:M*t<=M*(-1):=Int.mul_le_mul_of_nonneg_left (by omega) (by omega)
    omega
   ·omega
 rw[ht0,Int.mul_zero] at ht
 omega
theorem zDH {s:Int} (hs:s % 2=1) (m r:Int):∀ k:Nat,∃ c:Int,0<=c/\c < 2 ^ k/\(2:Int) ^ k ∣ m+c*s - r
 | 0=>⟨0,by omega,by decide,by rw[Int.pow_zero];exact Int.one_dvd _⟩
 | k+1=>by
  obtain⟨c,h0,h1,t,ht⟩:=zDH hs m r k
  have hp:(0:Int) < 2 ^ k:=Int.pow_pos (by decide)
  by_cases e:t % 2=0
  ·refine⟨c,h0,by rw[Int.pow_succ];omega,t / 2,?_⟩
   rw[ht,Int.pow_succ,Int.mul_assoc]
   congr 1
   omega
  ·refine⟨c+2 ^ k,by omega,by rw[Int.pow_succ];omega,(t+s) / 2,?_⟩
   have e1:m+(c+2 ^ k)*s - r=2 ^ k*(t+s):=by
    rw[Int.add_mul,Int.mul_add,← ht]
    omega
   rw[e1,Int.pow_succ,Int.mul_assoc]
   congr 1
   omega
end L2
namespace L2
open PySem
theorem zDs (n:Nat):n ||| 1=n+1 - n % 2:=by
 have e1:n=2 ^ 1*(n / 2)+n % 2:=by omega
 have e2:2 ^ 1*(n / 2)+n % 2=2 ^ 1*(n / 2) ||| n % 2:=Nat.two_pow_add_eq_or_of_lt (by omega) _
 have e3:2 ^ 1*(n / 2)+1=2 ^ 1*(n / 2) ||| 1:=Nat.two_pow_add_eq_or_of_lt (by omega) _
 have e4:n % 2 ||| 1=1:=by
  have:n % 2=0\/n % 2=1:=by omega
  rcases this with h | h <;> rw[h] <;> rfl
 have e5:n ||| 1=2 ^ 1*(n / 2)+1:=by
  calc n ||| 1=(2 ^ 1*(n / 2)+n % 2) ||| 1:=by rw[← e1]
   _=(2 ^ 1*(n / 2) ||| n % 2) ||| 1:=by rw[e2]
   _=2 ^ 1*(n / 2) ||| (n % 2 ||| 1):=Nat.or_assoc ..
   _=2 ^ 1*(n / 2) ||| 1:=by rw[e4]
   _=2 ^ 1*(n / 2)+1:=e3.symm
 omega
theorem zFz {z:Int} (h:0<=z):Builtin.bitOr z 1=z+1 - z % 2:=by
 unfold Builtin.bitOr Builtin.bitAnd Builtin.bitNot
 rw[decide_eq_false (by omega)]
 have e:(-(-z - 1) - 1:Int).toNat=z.toNat:=by omega
 have e2:(-(-1 - 1) - 1:Int).toNat=1:=by decide
 show -(-((((-(-z - 1) - 1:Int).toNat ||| (-(-1 - 1) - 1:Int).toNat:Nat)):Int) - 1) - 1=_
 rw[e,e2,zDs]
 omega
def std (m:Int):Int:=m / 32+1 - m / 32 % 2
theorem zFk (m:Int):std m % 2=1:=by unfold std;omega
def pr (m s:Int) (c:Nat):Int:=(m+(c:Int)*std m) % s
theorem zDW {m s:Int} {c:Nat} (hs:0 < s):0<=pr m s c/\pr m s c < s:=⟨Int.emod_nonneg _ (by omega),Int.emod_lt_of_pos _ hs⟩
def IsP2 (s:Int):Prop:=∃ k:Nat,s=2 ^ k
theorem IsP2.pos {s:Int} (h:IsP2 s):0 < s:=by obtain⟨k,rfl⟩:=h;exact Int.pow_pos (by decide)
theorem zLU {m s:Int} (h:IsP2 s) {i j:Nat} (hi:(i:Int) < s) (hj:(j:Int) < s) (e:pr m s i=pr m s j):i=j:=by
 obtain⟨k,rfl⟩:=h
 have:=zIl (zFk m) (m:=m) (k:=k) (i:=i) (j:=j) (by omega) hi (by omega) hj e
 omega
theorem zIz {m s:Int} (h:IsP2 s) (r:Int):∃ c:Nat,(c:Int) < s/\pr m s c=r % s:=by
 obtain⟨k,rfl⟩:=h
 obtain⟨c,h0,h1,h2⟩:=zDH (zFk m) m r k
 refine⟨c.toNat,by omega,?_⟩
 unfold pr
 rw[Int.toNat_of_nonneg h0]
 exact Int.emod_eq_emod_iff_emod_sub_eq_zero.mpr (Int.emod_eq_zero_of_dvd h2)
theorem zJq {m s:Int}:pr m s 0=m % s:=by unfold pr;simp
theorem zJZ {m s:Int} (c:Nat):pr m s (c+1)=(pr m s c+std m) % s:=by
 unfold pr
 rw[Int.emod_add_emod]
 congr 1
 rw[Int.natCast_add,Int.add_mul,Int.natCast_one,Int.one_mul]
 omega
theorem Q0 {n:Nat} (h:n<=5000):n < sizeLine:=by
 have:5000 < sizeLine:=by decide
 omega
def S8 (i:Int):Prop:=i=8\/i=16\/i=32\/i=64\/i=128\/i=256\/i=512\/i=1024\/i=2048\/i=4096
instance (i:Int):Decidable (S8 i):=by unfold S8;infer_instance
theorem S8.p2 {i:Int} (h:S8 i):IsP2 i:=by
 unfold S8 at h
 rcases h with rfl | rfl | rfl | rfl | rfl | rfl | rfl | rfl | rfl | rfl
 ·exact⟨3,rfl⟩
 ·exact⟨4,rfl⟩
 ·exact⟨5,rfl⟩
 ·exact⟨6,rfl⟩
 ·exact⟨7,rfl⟩
 ·exact⟨8,rfl⟩
 ·exact⟨9,rfl⟩
 ·exact⟨10,rfl⟩
 ·exact⟨11,rfl⟩
 ·exact⟨12,rfl⟩
theorem S8.range {i:Int} (h:S8 i):8<=i/\i<=4096/\i % 2=0:=by unfold S8 at h;omega
theorem zME:∀ n:Nat,n < 4097->8<=n->(decide (Builtin.bitAnd (n:Int) ((n:Int) - 1)=0)=decide (S8 (n:Int))):=by decide +kernel
theorem zLf {i:Int} (h1:8<=i) (h2:i<=4096):decide (Builtin.bitAnd i (i - 1)=0)=decide (S8 i):=by
 have e:i=((i.toNat:Nat):Int):=by omega
 have h:=zME i.toNat (by omega) (by omega)
 rwa [← e] at h
theorem S8.of_pow {k:Nat} (h:k<=9):S8 (8*2 ^ k):=by
 match k,h with
 | 0,_=>decide +kernel
 | 1,_=>decide +kernel
 | 2,_=>decide +kernel
 | 3,_=>decide +kernel
 | 4,_=>decide +kernel
 | 5,_=>decide +kernel
 | 6,_=>decide +kernel
 | 7,_=>decide +kernel
 | 8,_=>decide +kernel
 | 9,_=>decide +kernel
end L2
namespace L2
open PySem
def sl (m:Int) (n c:Nat):Nat:=(pr m (n:Int) c).toNat
theorem Zw {m:Int} {n c:Nat} (hn:0 < n):((sl m n c:Nat):Int)=pr m n c:=by
 unfold sl
 exact Int.toNat_of_nonneg (zDW (by omega)).1
theorem JW {m:Int} {n c:Nat} (hn:0 < n):sl m n c < n:=by
 have h:=(zDW (m:=m) (s:=(n:Int)) (c:=c) (by omega)).2
 have h0:=Zw (m:=m) (c:=c) hn
 omega
theorem zKr {m:Int} {n i j:Nat} (h:IsP2 (n:Int)) (hi:i < n) (hj:j < n) (e:sl m n i=sl m n j):i=j:=by
 have hn:0 < n:=by omega
 refine zLU h (by omega) (by omega) ?_ (m:=m)
 rw[← Zw hn,← Zw hn,e]
theorem zI6 {m:Int} {n r:Nat} (h:IsP2 (n:Int)) (hr:r < n):∃ c,c < n/\sl m n c=r:=by
 obtain⟨c,h1,h2⟩:=zIz (m:=m) h (r:Int)
 refine⟨c,by omega,?_⟩
 unfold sl
 rw[h2,Int.emod_eq_of_lt (by omega) (by omega)]
 omega
theorem zI7 {m:Int} {n c:Nat} (hn:0 < n):((sl m n (c+1):Nat):Int)=(((sl m n c:Nat):Int)+std m) % (n:Int):=by
 rw[Zw hn,Zw hn,zJZ]
def cAt (cs:List Int) (m:Int) (c:Nat):Int:=(cs[sl m cs.length c]?).getD 0
theorem YZ {cs:List Int} {m:Int} {c:Nat} (h:0 < cs.length):cs[sl m cs.length c]? = some (cAt cs m c):=by
 unfold cAt
 rw[List.getElem?_eq_getElem (JW h)];rfl
theorem zJA {cs:List Int} {m:Int} {c:Nat} (h:0 < cs.length):cAt cs m c∈cs:=List.mem_of_getElem? (YZ h)
def IsFirst (P:Nat->Prop) (n c:Nat):Prop:=c < n/\P c/\∀ i,i < c->¬ P i
theorem WW {P:Nat->Prop} {n:Nat} (h:∃ c,c < n/\P c):∃ c,IsFirst P n c:=by
 classical
 obtain⟨c,hc,hp⟩:=h
 induction c using Nat.strongRecOn with
 | ind c ih =>
  by_cases q:∃ i,i < c/\P i
  ·obtain⟨i,hi,hpi⟩:=q
   exact ih i hi (by omega) hpi
  ·exact⟨c,hc,hp,fun i hi hpi=>q ⟨i,hi,hpi⟩⟩
theorem IsFirst.uniq {P:Nat->Prop} {n c d:Nat} (h:IsFirst P n c) (h':IsFirst P n d):c=d:=by
 obtain⟨h1,h2,h3⟩:=h
 obtain⟨g1,g2,g3⟩:=h'
 rcases Nat.lt_trichotomy c d with z | z | z
 ·exact absurd h2 (g3 c z)
 ·exact z
 ·exact absurd g2 (h3 d z)
theorem zAR {cs:List Int} {m v:Int} (h:IsP2 (cs.length:Int)) (hv:v∈cs):∃ c,c < cs.length/\cAt cs m c=v:=by
 obtain⟨i,hi,e⟩:=List.mem_iff_getElem.mp hv
 obtain⟨c,hc,hs⟩:=zI6 (m:=m) h hi
 refine⟨c,hc,?_⟩
 unfold cAt
 rw[hs,List.getElem?_eq_getElem hi,e];rfl
structure Laid (st:Nat->Option Int) (n i:Nat) (cs:List Int):Prop where
 len:cs.length=n
 old:∀ (j:Nat) (v:Int),cs[j]? = some v->v = -1\/∃ p,p < i/\v=(p:Int)/\∃ m,st p=some m
 has:∀ p m,p < i->st p=some m->∃ c,c < n/\cAt cs m c=(p:Int)/\∀ c',c' < c->0<=cAt cs m c'/\cAt cs m c' < (p:Int)
 one:∀ (j k:Nat) (v:Int),cs[j]? = some v->cs[k]? = some v->v ≠ -1->j=k
 few:cs.countP (fun v=>v != -1)<=i
theorem zGO {st:Nat->Option Int} {n:Nat}:Laid st n 0 (List.replicate n (-1)) where
 len:=List.length_replicate
 old:=fun j v h=>.inl (List.eq_of_mem_replicate (List.mem_of_getElem? h))
 has:=fun p m h=>absurd h (Nat.not_lt_zero _)
 one:=fun j k v h1 h2 h3=>absurd (List.eq_of_mem_replicate (List.mem_of_getElem? h1)) h3
 few:=by rw[List.countP_replicate];simp
theorem Laid.skip {st:Nat->Option Int} {n i:Nat} {cs:List Int} (h:Laid st n i cs) (e:st i=none):Laid st n (i+1) cs where
 len:=h.len
 old:=fun j v hv=>(h.old j v hv).imp id fun ⟨p,h1,h2⟩=>⟨p,by omega,h2⟩
 has:=fun p m hp hm=>by
  by_cases z:p=i
  ·subst z;rw[e] at hm;cases hm
  ·exact h.has p m (by omega) hm
 one:=h.one
 few:=Nat.le_succ_of_le h.few
theorem Wy {cs:List Int} (h:cs.countP (fun v=>v != -1) < cs.length):(-1:Int)∈cs:=by
 by_cases c:(-1:Int)∈cs
 ·exact c
 ·exfalso
  have:cs.countP (fun v=>v != -1)=cs.length:=List.countP_eq_length.mpr fun v hv=>by
   have:v ≠ -1:=fun e=>c (e ▸ hv)
   simpa using this
  omega
theorem Laid.put {st:Nat->Option Int} {n i c:Nat} {m:Int} {cs:List Int} (h:Laid st n i cs) (e:st i=some m) (hn:0 < n) (hc:IsFirst (fun c=>cAt cs m c = -1) n c):Laid st n (i+1) (cs.set (sl m n c) (i:Int)):=by
 have hlen:=h.len
 have hsl:sl m n c < cs.length:=by rw[hlen];exact JW hn
 obtain⟨c1,c2,c3⟩:=hc
 have hat:cs[sl m n c]? = some (-1):=by
  have:=YZ (cs:=cs) (m:=m) (c:=c) (by omega)
  rw[hlen,c2] at this
  exact this
 have get:∀ j v,(cs.set (sl m n c) (i:Int))[j]? = some v->(j=sl m n c/\v=(i:Int))\/(j ≠ sl m n c/\cs[j]? = some v):=by
  intro j v hv
  by_cases z:sl m n c=j
  ·subst z
   rw[List.getElem?_set_self hsl] at hv
   exact .inl ⟨rfl,(Option.some.inj hv).symm⟩
  ·rw[List.getElem?_set_ne z] at hv
   exact .inr ⟨fun y=>z y.symm,hv⟩
 have keepAt:∀ m' c',cAt cs m' c' ≠ -1->cAt (cs.set (sl m n c) (i:Int)) m' c'=cAt cs m' c':=by
  intro m' c' hne
  unfold cAt
  rw[List.length_set]
  have z:sl m n c ≠ sl m' cs.length c':=by
   intro z
   apply hne
   unfold cAt
   rw[← z,hat];rfl
  rw[List.getElem?_set_ne z]
 refine⟨by rw[List.length_set];exact hlen,fun j v hv=>?_,fun p m' hp hm'=>?_,fun j k v hj hk hv=>?_,?_⟩
 ·rcases get j v hv with ⟨_,rfl⟩ | ⟨_,hv⟩
  ·exact .inr ⟨i,by omega,rfl,m,e⟩
  ·exact (h.old j v hv).imp id fun ⟨p,h1,h2⟩=>⟨p,by omega,h2⟩
 ·by_cases z:p=i
  ·subst z
   rw[e] at hm'
   cases hm'
   refine⟨c,c1,?_,fun c' hc'=>?_⟩
   ·unfold cAt
    rw[List.length_set,hlen,List.getElem?_set_self hsl];rfl
   ·have hne:=c3 c' hc'
    rw[keepAt m c' hne]
    have hg:=YZ (cs:=cs) (m:=m) (c:=c') (by omega)
    rcases h.old _ _ hg with y | ⟨q,q1,q2,_⟩
    ·exact absurd y hne
    ·omega
  ·obtain⟨d,d1,d2,d3⟩:=h.has p m' (by omega) hm'
   refine⟨d,d1,?_,fun c' hc'=>?_⟩
   ·rw[keepAt m' d (by rw[d2];omega)];exact d2
   ·have:=d3 c' hc'
    rw[keepAt m' c' (by omega)];exact this
 ·rcases get j v hj with ⟨rfl,rfl⟩ | ⟨j1,hj⟩
  ·rcases get k _ hk with ⟨rfl,_⟩ | ⟨k1,hk⟩
   ·rfl
   ·rcases h.old k _ hk with y | ⟨q,q1,q2,_⟩
    ·exact absurd y hv
    ·omega
  ·rcases get k v hk with ⟨rfl,rfl⟩ | ⟨k1,hk⟩
   ·rcases h.old j _ hj with y | ⟨q,q1,q2,_⟩
    ·exact absurd y hv
    ·omega
   ·exact h.one j k v hj hk hv
 ·have h1:=h.few
  have e1:(cs.set (sl m n c) (i:Int)).countP (fun v=>v != -1)<=cs.countP (fun v=>v != -1)+1:=by
   rw[List.countP_set hsl]
   split <;> split <;> omega
  omega
inductive LB (st:Nat->Option Int) (n:Nat):Nat->List Int->Prop
 | zero:LB st n 0 (List.replicate n (-1))
 | skip {i:Nat} {cs:List Int}:LB st n i cs->st i=none->LB st n (i+1) cs
 | put {i c:Nat} {m:Int} {cs:List Int}:LB st n i cs->st i=some m->IsFirst (fun c=>cAt cs m c = -1) n c->LB st n (i+1) (cs.set (sl m n c) (i:Int))
theorem LB.laid {st:Nat->Option Int} {n i:Nat} {cs:List Int} (hn:0 < n) (h:LB st n i cs):Laid st n i cs:=by
 induction h with
 | zero=>exact zGO
 | skip _ e ih=>exact ih.skip e
 | put _ e hc ih=>exact ih.put e hn hc
theorem LB.uniq {st:Nat->Option Int} {n i:Nat} {cs cs':List Int} (h:LB st n i cs):LB st n i cs'->cs=cs':=by
 induction h generalizing cs' with
 | zero=>intro h';cases h';rfl
 | skip _ e ih =>
  intro h'
  cases h' with
  | skip h1 e1=>exact ih h1
  | put h1 e1 _=>rw[e] at e1;cases e1
 | put _ e hc ih =>
  intro h'
  cases h' with
  | skip h1 e1=>rw[e] at e1;cases e1
  | put h1 e1 hc1 =>
   rw[e] at e1
   cases e1
   have z:=ih h1
   subst z
   rw[hc.uniq hc1]
theorem LB.room {st:Nat->Option Int} {n i:Nat} {cs:List Int} (h:LB st n i cs) (hi:i < n) (h2:IsP2 (n:Int)) (m:Int):∃ c,IsFirst (fun c=>cAt cs m c = -1) n c:=by
 have L:=h.laid (by omega)
 have hl:=L.len
 refine WW ?_
 rw[← hl] at h2
 obtain⟨c,c1,c2⟩:=zAR (m:=m) h2 (Wy (cs:=cs) (by have:=L.few;omega))
 exact⟨c,by omega,c2⟩
end L2
namespace L2
open PySem PySem.Spec PyProof.Rows
def stO (os:List (Option Kd)) (p:Nat):Option Int:=match os[p]? with
 | some (some k)=>some k.st
 | _=>none
def Qx (os:List (Option Kd)) (k:Kd) (v:Int):Prop:=v = -1\/(0<=v/\os[v.toNat]? = some (some k))
instance (os:List (Option Kd)) (k:Kd) (v:Int):Decidable (Qx os k v):=by unfold Qx;infer_instance
def pap (cs:List Int) (m:Int) (c:Nat):List (Option Kd):=(List.range (c+1)).map fun i=>some (.tup [.num (sl m cs.length i:Nat),.num (cAt cs m i)])
structure Fm (n:Nat) (cs:List Int) (os:List (Option Kd)):Prop where
 len:cs.length=n
 p2:IsP2 (n:Int)
 few:cs.countP (fun v=>v != -1)=os.length
 room:os.length < n
 good:∀ (j:Nat) (v:Int),cs[j]? = some v->v = -1\/v = -2\/∃ (p:Nat) (k:Kd),v=(p:Int)/\os[p]? = some (some k)
 has:∀ (p:Nat) (k:Kd),os[p]? = some (some k)->∃ c,c < n/\cAt cs k.st c=(p:Int)/\∀ c',c' < c->cAt cs k.st c' ≠ -1
 one:∀ (i j:Nat) (v:Int),cs[i]? = some v->cs[j]? = some v->0<=v->i=j
 keys:∀ (p q:Nat) (k:Kd),os[p]? = some (some k)->os[q]? = some (some k)->p=q
section
variable {n:Nat} {cs:List Int} {os:List (Option Kd)} {k:Kd} {c p:Nat}
theorem Fm.zero (h2:IsP2 (n:Int)):Fm n (List.replicate n (-1)) [] where
 len:=List.length_replicate
 p2:=h2
 few:=by rw[List.countP_replicate];simp
 room:=by have:=h2.pos;show 0 < n;omega
 good:=fun j v h=>.inl (List.eq_of_mem_replicate (List.mem_of_getElem? h))
 has:=fun p k h=>by simp at h
 one:=fun i j v h1 h2 h3=>by
  have:=List.eq_of_mem_replicate (List.mem_of_getElem? h1)
  omega
 keys:=fun p q k h=>by simp at h
theorem Fm.pos (F:Fm n cs os):0 < n:=Nat.lt_of_le_of_lt (Nat.zero_le _) F.room
theorem Fm.at (F:Fm n cs os) (m:Int) (c:Nat):cs[sl m n c]? = some (cAt cs m c):=by
 have:=YZ (cs:=cs) (m:=m) (c:=c) (by rw[F.len];exact F.pos)
 rw[F.len] at this
 exact this
theorem Fm.there (F:Fm n cs os) (h:os[p]? = some (some k)):∃ c,IsFirst (fun c=>Qx os k (cAt cs k.st c)) n c/\cAt cs k.st c=(p:Int):=by
 obtain⟨c,h1,h2,h3⟩:=F.has p k h
 refine⟨c,⟨h1,.inr ⟨by omega,by rw[h2];simpa using h⟩,fun i hi hs=>?_⟩,h2⟩
 rcases hs with e | ⟨e1,e2⟩
 ·exact h3 i hi e
 ·have e3:=F.keys _ _ _ e2 h
  have e4:cAt cs k.st i=(p:Int):=by omega
  have a1:=F.at k.st i
  have a2:=F.at k.st c
  rw[e4] at a1
  rw[h2] at a2
  have e5:=F.one _ _ _ a1 a2 (by omega)
  have e6:=zKr F.p2 (by omega) h1 e5
  omega
theorem Fm.stops (F:Fm n cs os) (m:Int):∃ c,c < n/\cAt cs m c = -1:=by
 have h:=zAR (cs:=cs) (m:=m) (v := -1) (by rw[F.len];exact F.p2) (Wy (by rw[F.few,F.len];exact F.room))
 rw[F.len] at h
 exact h
theorem Fm.lacks (F:Fm n cs os) (h:∀ p:Nat,os[p]? ≠ some (some k)):∃ c,IsFirst (fun c=>Qx os k (cAt cs k.st c)) n c/\cAt cs k.st c = -1:=by
 obtain⟨c0,h0,e0⟩:=F.stops k.st
 obtain⟨c,hc⟩:=WW (P:=fun c=>Qx os k (cAt cs k.st c)) ⟨c0,h0,.inl e0⟩
 refine⟨c,hc,?_⟩
 rcases hc.2.1 with e | ⟨_,e⟩
 ·exact e
 ·exact absurd e (h _)
theorem ZL {cs:List Int} {j:Nat} {x:Int} (hj:j < cs.length) {i:Nat} {v:Int} (h:(cs.set j x)[i]? = some v):(i=j/\v=x)\/(i ≠ j/\cs[i]? = some v):=by
 by_cases z:j=i
 ·subst z
  rw[List.getElem?_set_self hj] at h
  exact .inl ⟨rfl,(Option.some.inj h).symm⟩
 ·rw[List.getElem?_set_ne z] at h
  exact .inr ⟨fun y=>z y.symm,h⟩
theorem Jk {cs:List Int} {j:Nat} {x:Int} {m:Int} {c:Nat}:cAt (cs.set j x) m c=if sl m cs.length c=j/\j < cs.length then x else cAt cs m c:=by
 unfold cAt
 rw[List.length_set]
 by_cases z:sl m cs.length c=j
 ·by_cases hj:j < cs.length
  ·rw[if_pos ⟨z,hj⟩,z,List.getElem?_set_self hj];rfl
  ·rw[if_neg (fun y=>hj y.2),z,List.getElem?_eq_none (by rw[List.length_set];omega),List.getElem?_eq_none (by omega)]
 ·rw[if_neg (fun y=>z y.1),List.getElem?_set_ne (fun y=>z y.symm)]
theorem Z5 {α:Type} {l:List α} {x y:α} {i:Nat} (h:(l++[x])[i]? = some y):l[i]? = some y\/(i=l.length/\y=x):=by
 rcases Nat.lt_trichotomy i l.length with z | z | z
 ·rw[List.getElem?_append_left z] at h;exact .inl h
 ·subst z
  rw[List.getElem?_append_right (Nat.le_refl _),Nat.sub_self] at h
  simp at h
  exact .inr ⟨rfl,h.symm⟩
 ·rw[List.getElem?_eq_none (by rw[List.length_append];simp;omega)] at h;cases h
theorem zGG {α:Type} {l:List α} {x y:α} {i:Nat} (h:l[i]? = some y):(l++[x])[i]? = some y:=by
 rw[List.getElem?_append_left (List.getElem?_eq_some_iff.mp h).1];exact h
theorem Fm.put (F:Fm n cs os) (h:∀ p:Nat,os[p]? ≠ some (some k)) (hc:IsFirst (fun c=>Qx os k (cAt cs k.st c)) n c) (hr:os.length+1 < n):Fm n (cs.set (sl k.st n c) (os.length:Int)) (os++[some k]):=by
 have hl:=F.len
 have hsl:sl k.st n c < cs.length:=by rw[hl];exact JW F.pos
 have e1:cAt cs k.st c = -1:=by
  rcases hc.2.1 with e | ⟨_,e⟩
  ·exact e
  ·exact absurd e (h _)
 have hat:cs[sl k.st n c]? = some (-1):=by have:=F.at k.st c;rw[e1] at this;exact this
 have keep:∀ m' c',cAt cs m' c' ≠ -1->cAt (cs.set (sl k.st n c) (os.length:Int)) m' c'=cAt cs m' c':=fun m' c' hne=>by
  rw[Jk,if_neg]
  rintro ⟨z,_⟩
  apply hne
  rw[hl] at z
  have:=F.at m' c'
  rw[z,hat] at this
  exact (Option.some.inj this).symm
 refine⟨by rw[List.length_set];exact hl,F.p2,?_,by rw[List.length_append];exact hr,fun j v hv=>?_,fun p k' hp=>?_,fun i j v hi hj h0=>?_,fun p q k' hp hq=>?_⟩
 ·rw[List.countP_set hsl,List.length_append]
  have e2:cs[sl k.st n c] = -1:=by
   rw[List.getElem?_eq_getElem hsl] at hat
   exact Option.some.inj hat
  rw[e2]
  have:=F.few
  have b1:((os.length:Int) != -1)=true:=by simp
  simp only[b1,if_true,bne_self_eq_false,Bool.false_eq_true,if_false,List.length_singleton]
  omega
 ·rcases ZL hsl hv with ⟨_,rfl⟩ | ⟨_,hv⟩
  ·exact .inr (.inr ⟨os.length,k,rfl,by simp⟩)
  ·rcases F.good j v hv with e | e | ⟨p,k',e,hp⟩
   ·exact .inl e
   ·exact .inr (.inl e)
   ·exact .inr (.inr ⟨p,k',e,zGG hp⟩)
 ·rcases Z5 hp with hp | ⟨e,ek⟩
  ·obtain⟨d,d1,d2,d3⟩:=F.has p k' hp
   refine⟨d,d1,?_,fun c' hc'=>?_⟩
   ·rw[keep _ _ (by rw[d2];omega)];exact d2
   ·rw[keep _ _ (d3 c' hc')];exact d3 c' hc'
  ·subst e
   cases ek
   refine⟨c,hc.1,?_,fun c' hc'=>?_⟩
   ·rw[Jk,if_pos ⟨by rw[hl],hsl⟩]
   ·have hne:cAt cs k.st c' ≠ -1:=fun e=>hc.2.2 c' hc' (.inl e)
    rw[keep _ _ hne];exact hne
 ·have lt:∀ (j:Nat) (v:Int),cs[j]? = some v->0<=v->v < os.length:=fun j v hv hv0=>by
   rcases F.good j v hv with e | e | ⟨p,k',e,hp⟩
   ·omega
   ·omega
   ·have:=(List.getElem?_eq_some_iff.mp hp).1;omega
  rcases ZL hsl hi with ⟨i1,i2⟩ | ⟨i1,hi⟩
  ·rcases ZL hsl hj with ⟨j1,j2⟩ | ⟨j1,hj⟩
   ·omega
   ·have:=lt j v hj h0;omega
  ·rcases ZL hsl hj with ⟨j1,j2⟩ | ⟨j1,hj⟩
   ·have:=lt i v hi h0;omega
   ·exact F.one i j v hi hj h0
 ·rcases Z5 hp with hp | ⟨ep,ek⟩
  ·rcases Z5 hq with hq | ⟨eq,ek⟩
   ·exact F.keys p q k' hp hq
   ·cases ek;exact absurd hp (h p)
  ·rcases Z5 hq with hq | ⟨eq,ek'⟩
   ·cases ek;exact absurd hq (h q)
   ·omega
theorem Fm.take (F:Fm n cs os) (h:os[p]? = some (some k)) (hc:IsFirst (fun c=>Qx os k (cAt cs k.st c)) n c):Fm n (cs.set (sl k.st n c) (-2)) (os.set p none):=by
 have hl:=F.len
 have hsl:sl k.st n c < cs.length:=by rw[hl];exact JW F.pos
 obtain⟨c',hc',e'⟩:=F.there h
 have ec:=hc.uniq hc'
 subst ec
 have hp:p < os.length:=(List.getElem?_eq_some_iff.mp h).1
 have hat:cs[sl k.st n c]? = some (p:Int):=by have:=F.at k.st c;rw[e'] at this;exact this
 have row:∀ (q:Nat) (k':Kd),(os.set p none)[q]? = some (some k')->q ≠ p/\os[q]? = some (some k'):=fun q k' hq=>by
  by_cases z:p=q
  ·subst z;rw[List.getElem?_set_self hp] at hq;cases hq
  ·rw[List.getElem?_set_ne z] at hq;exact⟨fun y=>z y.symm,hq⟩
 refine⟨by rw[List.length_set];exact hl,F.p2,?_,by rw[List.length_set];exact F.room,fun j v hv=>?_,fun q k' hq=>?_,fun i j v hi hj h0=>?_,fun q r k' hq hr=>?_⟩
 ·rw[List.countP_set hsl,List.length_set]
  have e2:cs[sl k.st n c]=(p:Int):=by
   rw[List.getElem?_eq_getElem hsl] at hat
   exact Option.some.inj hat
  rw[e2]
  have:=F.few
  have b1:((p:Int) != -1)=true:=by simp
  have b2:((-2:Int) != -1)=true:=by decide
  have pos:0 < cs.countP (fun v=>v != -1):=List.countP_pos_iff.mpr ⟨(p:Int),List.mem_of_getElem? hat,b1⟩
  simp only[b1,b2,if_true]
  omega
 ·rcases ZL hsl hv with ⟨_,rfl⟩ | ⟨hj,hv⟩
  ·exact .inr (.inl rfl)
  ·rcases F.good j v hv with e | e | ⟨q,k',e,hq⟩
   ·exact .inl e
   ·exact .inr (.inl e)
   ·refine .inr (.inr ⟨q,k',e,?_⟩)
    rw[List.getElem?_set_ne]
    ·exact hq
    ·intro z
     subst z
     exact hj (F.one _ _ _ hv (by rw[hat,e]) (by omega))
 ·obtain⟨hqp,hq⟩:=row q k' hq
  obtain⟨d,d1,d2,d3⟩:=F.has q k' hq
  refine⟨d,d1,?_,fun c' hc'=>?_⟩
  ·rw[Jk,if_neg]
   ·exact d2
   ·rintro ⟨z,_⟩
    rw[hl] at z
    have:=F.at k'.st d
    rw[z,hat,d2] at this
    have:=Option.some.inj this
    omega
  ·rw[Jk]
   split
   ·decide
   ·exact d3 c' hc'
 ·rcases ZL hsl hi with ⟨_,i2⟩ | ⟨_,hi⟩
  ·omega
  ·rcases ZL hsl hj with ⟨_,j2⟩ | ⟨_,hj⟩
   ·omega
   ·exact F.one i j v hi hj h0
 ·exact F.keys q r k' (row q k' hq).2 (row r k' hr).2
end
end L2
namespace L2
open PySem PySem.Spec PyProof.Rows
structure FunD (K:W.Frag) (x qual:Str) (st:Stmt) (f:Addr) (fd:FuncData) (ds:List Value):Prop where
 ex:∃ (oc:Value) (od:Option Addr) (kV doc pm:Value) (an:Option Addr) (cdv ct:Value) (osl:Array (Option Value)) (T:Addr) (o:Obj) (n:Nat),
  fd=W.fnOf x qual (YA st) (Qr st) (QI st) (.ref T) kV doc pm an cdv ct/\K.lookup f=some ⟨oc,od,.func fd,osl⟩/\W.codeIn K cdv qual=true/\K.lookup T=some o/\o.data=.seq ds.toArray n
 kp:W.keepIn K (.ref f)=true
section
variable {P:Program} {w:World} {K:W.Frag} {mg:Str->Option Value} {base:Heap}
theorem FunD.ok {x qual:Str} {st:Stmt} {f:Addr} {fd:FuncData} {ds:List Value} {N ps:List Str} {k:Nat} {sp:Sp} (F:FunD K x qual st f fd ds) (S:FnScope N ps (QI st)) (len:∀ vs H Q E,sp vs H Q E->vs.length=ps.length)
  (hbody:∀ (cdv:Value) (A:Around) (outer:List Env) (s:Shared) (H:Hp) (vs:List V) (Q:VK) (E:XK),Room k (A.deeper (envOfC qual (QI st) s.heap.objs.size f cdv))->sp vs H Q E ->
   ∃ t,PSs (zA4 CX0 P w K mg base N qual (QI st) f cdv A outer s H E).nox (Qr st) t/\t { nx:=fun _ H'=>Q .non H',rt:=Q } (Zq N vs) H):FnOk P w K mg base CX0 (k+1) f fd ps sp:=by
 obtain⟨oc,od,kV,doc,pm,an,cdv,ct,osl,T,o,n,rfl,lk,hcd,_,_⟩:=F.ex
 refine zG2 lk hcd S len fun A outer s H vs Q E hr hsp=>?_
 obtain⟨t,h,q⟩:=hbody cdv A outer s H vs Q E hr hsp
 exact⟨t,h.nox,q⟩
theorem FunD.binds {x qual:Str} {st:Stmt} {f:Addr} {fd:FuncData} {ds:List Value} {ps:List Str} (es:List Value) (F:FunD K x qual st f fd ds)
  (h:∀ (T:Addr) (kV doc pm:Value) (an:Option Addr) (cdv ct:Value) (us:List Value),(us++es).length=ps.length->∃ k:Option (Array Value)->Sem (List (Str × Value)),
   bindArgs (W.fnOf x qual (YA st) (Qr st) (QI st) (.ref T) kV doc pm an cdv ct) ⟨us,[]⟩=seqItems? (.ref T) >>= k/\k (some ds.toArray)=pure (ps.zip (us++es))):Binds K fd ps es:=by
 obtain⟨oc,od,kV,doc,pm,an,cdv,ct,osl,T,o,n,rfl,lk,hcd,lT,hT⟩:=F.ex
 intro s us KX hl
 obtain⟨k,h1,h2⟩:=h T kV doc pm an cdv ct us hl
 exact BindsTo.of_defaults rfl (KX _ _ lT) hT h1 h2
theorem zJN {x qual:Str} {st:Stmt} {f T:Addr} {oc:Value} {od an:Option Addr} {osl:Array (Option Value)} {kV doc pm cdv ct:Value} {o:Obj} {ds:List Value} {n:Nat} (l:K.lookup f=some ⟨oc,od,.func (W.fnOf x qual (YA st) (Qr st) (QI st) (.ref T) kV doc pm an cdv ct),osl⟩)
  (c:W.codeIn K cdv qual=true) (k:W.keepIn K (.ref f)=true) (lT:K.lookup T=some o) (hT:o.data=.seq ds.toArray n):FunD K x qual st f (W.fnOf x qual (YA st) (Qr st) (QI st) (.ref T) kV doc pm an cdv ct) ds:=⟨⟨oc,od,kV,doc,pm,an,cdv,ct,osl,T,o,n,rfl,l,c,lT,hT⟩,k⟩
end
end L2
namespace L2
open PySem PySem.Spec PyProof.Rows
def zAv (K:W.Frag) (f:Str):V->Hp->VK->Prop
 | .ref a,H,Q=>match H a with
  | some (.ins C _ fs)=>Cls K C/\NoAttr K C f/\(match fs.lookup f with | some v=>Q v H | none=>False)
  | _=>False
 | _,_,_=>False
def zG0 (K:W.Frag) (f:Str) (y:V):V->Hp->(Hp->Prop)->Prop
 | .ref a,H,N=>match H a with
  | some (.ins C dx fs)=>Cls K C/\NoAttr K C f/\fs.length < 1000/\N (upd H a (.ins C dx (Qu f y fs)))
  | _=>False
 | _,_,_=>False
def zBI (C:Addr) (m:Str):V->Hp->(Hp->Prop)->Prop
 | .ref a,H,N=>match H a with
  | some (.ins D _ fs)=>D=C/\fs.lookup m=none/\N H
  | _=>False
 | _,_,_=>False
def zKF (K:W.Frag) (ta:TE) (f:Str):TE:=fun σ H Q=>ta σ H fun x H1=>zAv K f x H1 Q
def zJ1 (K:W.Frag) (ta tv:TE) (f:Str):TS:=fun D σ H=>tv σ H fun y H1=>ta σ H1 fun x H2=>zG0 K f y x H2 (D.nx σ)
def zKT (K:W.Frag) (ta tv:TE) (rd:V->V->Hp->VK->Prop) (f:Str):TS:=fun D σ H=>ta σ H fun x H1=>zAv K f x H1 fun v H1'=>tv σ H1' fun y H2=>rd v y H2 fun z H3=>zG0 K f z x H3 (D.nx σ)
def JK (C:Addr) (m:Str) (sp:Sp) (dvs:List V) (E:XK) (ta:TE) (t:TA):TE:=fun σ H Q=>ta σ H fun x H1=>zBI C m x H1 fun H1=>t σ H1 fun vs H2=>sp (x::(vs++dvs)) H2 Q E
section
variable {K:W.Frag} {H:Hp} {Q:VK} {N:Hp->Prop} {p C dx:Addr} {fs:List (Str × V)} {f m:Str} {v y:V}
theorem zEw {x:V} (h:zAv K f x H Q):∃ a C dx fs v,x=.ref a/\H a=some (.ins C dx fs)/\Cls K C/\NoAttr K C f/\fs.lookup f=some v/\Q v H:=by
 match x,h with
 | .ref a,h =>
  have h':(match H a with | some (.ins C _ fs)=>Cls K C/\NoAttr K C f/\(match fs.lookup f with | some v=>Q v H | none=>False) | _=>False):=h
  cases e:H a with
  | none=>rw[e] at h';exact h'.elim
  | some o =>
   rw[e] at h'
   cases o with
   | ins C dx fs =>
    obtain⟨h1,h2,h3⟩:=(show Cls K C/\NoAttr K C f/\(match fs.lookup f with | some v=>Q v H | none=>False) from h')
    cases e2:fs.lookup f with
    | none=>rw[e2] at h3;exact h3.elim
    | some v=>rw[e2] at h3;exact⟨a,C,dx,fs,v,rfl,e,h1,h2,e2,h3⟩
   | _=>exact h'.elim
theorem zE0 {x:V} (h:zG0 K f y x H N):∃ a C dx fs,x=.ref a/\H a=some (.ins C dx fs)/\Cls K C/\NoAttr K C f/\fs.length < 1000/\N (upd H a (.ins C dx (Qu f y fs))):=by
 match x,h with
 | .ref a,h =>
  have h':(match H a with | some (.ins C dx fs)=>Cls K C/\NoAttr K C f/\fs.length < 1000/\N (upd H a (.ins C dx (Qu f y fs))) | _=>False):=h
  cases e:H a with
  | none=>rw[e] at h';exact h'.elim
  | some o =>
   rw[e] at h'
   cases o with
   | ins C dx fs=>exact⟨a,C,dx,fs,rfl,e,h'⟩
   | _=>exact h'.elim
theorem W1 {x:V} (h:zBI C m x H N):∃ a dx fs,x=.ref a/\H a=some (.ins C dx fs)/\fs.lookup m=none/\N H:=by
 match x,h with
 | .ref a,h =>
  have h':(match H a with | some (.ins D _ fs)=>D=C/\fs.lookup m=none/\N H | _=>False):=h
  cases e:H a with
  | none=>rw[e] at h';exact h'.elim
  | some o =>
   rw[e] at h'
   cases o with
   | ins D dx fs =>
    obtain⟨rfl,h2,h3⟩:=(show D=C/\fs.lookup m=none/\N H from h')
    exact⟨a,dx,fs,rfl,e,h2,h3⟩
   | _=>exact h'.elim
theorem Q3 (h:H p=some (.ins C dx fs)) (c:Cls K C) (n:NoAttr K C f) (l:fs.lookup f=some v):zAv K f (.ref p) H Q=Q v H:=by
 show (match H p with | some (.ins C _ fs)=>Cls K C/\NoAttr K C f/\(match fs.lookup f with | some v=>Q v H | none=>False) | _=>False)=_
 rw[h]
 show (Cls K C/\NoAttr K C f/\(match fs.lookup f with | some v=>Q v H | none=>False))=_
 rw[l]
 exact propext ⟨fun z=>z.2.2,fun z=>⟨c,n,z⟩⟩
theorem YN (h:H p=some (.ins C dx fs)) (c:Cls K C) (n:NoAttr K C f) (l:fs.length < 1000):zG0 K f y (.ref p) H N=N (upd H p (.ins C dx (Qu f y fs))):=by
 show (match H p with | some (.ins C dx fs)=>Cls K C/\NoAttr K C f/\fs.length < 1000/\N (upd H p (.ins C dx (Qu f y fs))) | _=>False)=_
 rw[h]
 exact propext ⟨fun z=>z.2.2.2,fun z=>⟨c,n,l,z⟩⟩
theorem zDV (h:H p=some (.ins C dx fs)) (l:fs.lookup m=none):zBI C m (.ref p) H N=N H:=by
 show (match H p with | some (.ins D _ fs)=>D=C/\fs.lookup m=none/\N H | _=>False)=_
 rw[h]
 exact propext ⟨fun z=>z.2.2,fun z=>⟨rfl,l,z⟩⟩
end
section
variable {X:Cx} {o e value:Expr} {f:Str} {pos pos' tpos:Pos} {ta tv:TE}
theorem Qd (he:PE X e ta) (hb:attributeBase e f X.env (eval e X.env)=eval e X.env):PE X (.Attribute e f pos) (zKF X.K ta f):=by
 intro pins s σ H Q I h
 refine zIk hb (thn (he pins s σ H _ I h) fun u s1 ⟨x,H1,I1,rx,q0⟩=>?_)
 obtain⟨a,C,dx,fs,v,ex,ea,c,n,l,q⟩:=zEw q0
 subst ex
 obtain rfl:u=Value.ref a:=rx
 exact zAE I1 ea c n l fun u' s2 I2 ru=>⟨v,H1,I2,ru,q⟩
theorem Yh (ha:PE X o ta) (hv:PE X value tv) (hs:swapsWith value (some (.Attribute o f pos')) pos.line X.env=pure false):PS X (.Assign [.Attribute o f pos'] value pos) (zJ1 X.K ta tv f):=by
 intro pins s σ H D I h
 refine plainObj_wpAny_Assign_Attribute (thn (hv pins s σ H _ I h) fun u s1 ⟨y,H1,I1,ry,q⟩=>thn (ha pins s1 σ H1 _ I1 q) fun ov s2 ⟨x,H2,I2,rx,q0⟩=>?_) hs
 obtain⟨a,C,dx,fs,ex,ea,c,n,l,q2⟩:=zE0 q0
 subst ex
 obtain rfl:ov=Value.ref a:=rx
 exact zAs I2 ea c n l ry fun s3 I3=>⟨σ,_,I3,q2⟩
theorem zEt {op:Operator} {rd:V->V->Hp->VK->Prop} (ha:PE X o ta) (hv:PE X value tv) (hop:zLj X op rd):PS X (.AugAssign (.Attribute o f tpos) op value pos) (zKT X.K ta tv rd f):=by
 intro pins s σ H D I h
 refine wpAny_AugAssign_AttributeAny (thn (ha pins s σ H _ I h) fun ov s1 ⟨x,H1,I1,rx,q0⟩=>?_)
 obtain⟨a,C,dx,fs,v,ex,ea,c,n,l,q⟩:=zEw q0
 subst ex
 obtain rfl:ov=Value.ref a:=rx
 refine zAE I1 ea c n l fun u s2 I2 ru=>thn (hv pins s2 σ H1 _ I2 q) fun w3 s3 ⟨y,H2,I3,ry,q3⟩=>thn (hop pins s3 σ H2 v y u w3 _ I3 ru ry q3) fun w4 s4 ⟨z,H3,I4,rz,q4⟩=>?_
 obtain⟨a',C',dx',fs',ex',ea',c',n',l',q5⟩:=zE0 q4
 cases ex'
 exact zAs I4 ea' c' n' l' rz fun s5 I5=>⟨σ,_,I5,q5⟩
end
section
variable {X:Cx} {CX:CXT} {k:Nat} {f C:Addr} {fd:FuncData} {ps:List Str} {sp:Sp} {dvs:List V} {ds:List Value} {E:XK} {x m:Str} {p pos apos:Pos} {e o:Expr} {es:List Expr} {ta:TE} {t:TA}
theorem Qi {pl:Sem Bool} (he:PE X o ta) (c:Cls X.K C) (hm:Meth X.K C m f) (F:FnOk X.prog X.w X.K X.mg X.base CX k f fd ps sp) (hr:Room k X.A) (hb:Binds X.K fd ps ds) (hd:Vals dvs ds) (hx:ZN CX X E) (ha:PA X (e::es) t)
  (hst:starEach (e::es) X.env=(false,eval e X.env)::starEach es X.env:=by rfl) (hpl:(backTo pos (starEach es X.env)).any (·.1)=false:=by rfl)
  (ht:eval (.Call (.Attribute o m apos) (e::es) [] pos) X.env=(do
   let ov ← eval o X.env
   standAt apos.atName
   let (f,first) ← holding [ov] (getMethod ov m pl)
   callWith pos f first (backTo pos (starEach (e::es) X.env)) (backToKw pos (keywordEach [] X.env))):=by rfl) :
  PE X (.Call (.Attribute o m apos) (e::es) [] pos) (JK C m sp dvs E ta t):=by
 intro pins s σ H Q I h
 refine PySem.W.methodCall_KW (pl:=pl) (thn (he pins s σ H _ I h) fun u s1 ⟨x,H1,I1,rx,q0⟩=>?_) ht
 obtain⟨a,dx,fs,ex,ea,l,q⟩:=W1 q0
 subst ex
 obtain rfl:u=Value.ref a:=rx
 refine ZA I1 ea c hm l ?_
 refine PySem.W.callWith_K (first:=[.ref a]) (h₀:=X.base) I.ok.mod.kin hm.kp (thn (ha pos pins s1 σ H1 _ I1 q) fun us s2 ⟨vs,H2,I2,r,q2⟩=>⟨I2.kIn,?_⟩) hst hpl
 exact zEM (us:=.ref a::us) (vs:=.ref a::vs) F hr hb hd hx I2 (.cons rfl r) q2
theorem Yj {pl:Sem Bool} (he:PE X o ta) (c:Cls X.K C) (hm:Meth X.K C m f) (F:FnOk X.prog X.w X.K X.mg X.base CX k f fd ps sp) (hr:Room k X.A) (hb:Binds X.K fd ps ds) (hd:Vals dvs ds) (hx:ZN CX X E)
  (ht:eval (.Call (.Attribute o m apos) [] [] pos) X.env=(do
   let ov ← eval o X.env
   standAt apos.atName
   let (f,first) ← holding [ov] (getMethod ov m pl)
   callWith pos f first (backTo pos (starEach [] X.env)) (backToKw pos (keywordEach [] X.env))):=by rfl) :
  PE X (.Call (.Attribute o m apos) [] [] pos) (JK C m sp dvs E ta zEZ):=by
 intro pins s σ H Q I h
 refine PySem.W.methodCall_KW (pl:=pl) (thn (he pins s σ H _ I h) fun u s1 ⟨x,H1,I1,rx,q0⟩=>?_) ht
 obtain⟨a,dx,fs,ex,ea,l,q⟩:=W1 q0
 subst ex
 obtain rfl:u=Value.ref a:=rx
 refine ZA I1 ea c hm l ?_
 exact PySem.W.callWith_K0 (first:=[.ref a]) I1.kIn hm.kp (zEM (us:=[.ref a]) (vs:=[.ref a]) F hr hb hd hx I1 (.cons rfl .nil) q)
end
end L2
namespace L2
open PySem PySem.Spec PyProof.Rows
theorem zBa {α:Type} {m:Str}:∀ {fs:List (Str × α)},(fs.map (·.1)).contains m=false->fs.lookup m=none
 | [],_=>rfl
 | (g,x)::r,h=>by
  rw[List.map_cons,List.contains_cons,Bool.or_eq_false_iff] at h
  rw[List.lookup_cons,h.1]
  exact zBa h.2
abbrev shK:List Str:=["cells", "size", "row", "held", "comings", "came", "went", "tidyings", "moved"]
def shF (pc:Addr) (n:Int) (pr ph pm:Addr) (ca we ti mo:Int):List (Str × V):=[("cells",.ref pc),("size",.int n),("row",.ref pr),("held",.ref ph),("comings",.ref pm),("came",.int ca),("went",.int we),("tidyings",.int ti),("moved",.int mo)]
section
variable {pc pr ph pm:Addr} {n ca we ti mo:Int}
theorem zGc:(shF pc n pr ph pm ca we ti mo).lookup ("cells" : Str)=some (.ref pc):=by kernel_rfl
theorem zG4:(shF pc n pr ph pm ca we ti mo).lookup ("size" : Str)=some (.int n):=by kernel_rfl
theorem zCM:(shF pc n pr ph pm ca we ti mo).lookup ("row" : Str)=some (.ref pr):=by kernel_rfl
theorem zAS:(shF pc n pr ph pm ca we ti mo).lookup ("held" : Str)=some (.ref ph):=by kernel_rfl
theorem JV:(shF pc n pr ph pm ca we ti mo).lookup ("comings" : Str)=some (.ref pm):=by kernel_rfl
theorem zAA:(shF pc n pr ph pm ca we ti mo).lookup ("came" : Str)=some (.int ca):=by kernel_rfl
theorem zCn {q:Int}:Qu "came" (.int q) (shF pc n pr ph pm ca we ti mo)=shF pc n pr ph pm q we ti mo:=by kernel_rfl
theorem zGt:(shF pc n pr ph pm ca we ti mo).lookup ("went" : Str)=some (.int we):=by kernel_rfl
theorem zCd {q:Int}:Qu "went" (.int q) (shF pc n pr ph pm ca we ti mo)=shF pc n pr ph pm ca q ti mo:=by kernel_rfl
theorem zFX:(shF pc n pr ph pm ca we ti mo).length < 1000:=by show 9 < 1000;decide
theorem zLA {m:Str} (h:shK.contains m=false):(shF pc n pr ph pm ca we ti mo).lookup m=none:=zBa h
end
def sh5 (pc:Addr) (n:Int) (pr ph pm:Addr):List (Str × V):=[("cells",.ref pc),("size",.int n),("row",.ref pr),("held",.ref ph),("comings",.ref pm)]
def sh6 (pc:Addr) (n:Int) (pr ph pm:Addr) (ca:Int):List (Str × V):=[("cells",.ref pc),("size",.int n),("row",.ref pr),("held",.ref ph),("comings",.ref pm),("came",.int ca)]
def sh7 (pc:Addr) (n:Int) (pr ph pm:Addr) (ca we:Int):List (Str × V):=[("cells",.ref pc),("size",.int n),("row",.ref pr),("held",.ref ph),("comings",.ref pm),("came",.int ca),("went",.int we)]
def sh8 (pc:Addr) (n:Int) (pr ph pm:Addr) (ca we ti:Int):List (Str × V):=[("cells",.ref pc),("size",.int n),("row",.ref pr),("held",.ref ph),("comings",.ref pm),("came",.int ca),("went",.int we),("tidyings",.int ti)]
section
variable {pc pr ph pm:Addr} {n ca we ti mo:Int}
theorem zJP:Qu "came" (.int ca) (sh5 pc n pr ph pm )=sh6 pc n pr ph pm ca:=by kernel_rfl
theorem zJF:(sh5 pc n pr ph pm ).length < 1000:=by show 5 < 1000;decide
theorem zI1:Qu "went" (.int we) (sh6 pc n pr ph pm ca)=sh7 pc n pr ph pm ca we:=by kernel_rfl
theorem zJu:(sh6 pc n pr ph pm ca).length < 1000:=by show 6 < 1000;decide
theorem zJJ:Qu "tidyings" (.int ti) (sh7 pc n pr ph pm ca we)=sh8 pc n pr ph pm ca we ti:=by kernel_rfl
theorem zJE:(sh7 pc n pr ph pm ca we).length < 1000:=by show 7 < 1000;decide
theorem zIo:Qu "moved" (.int mo) (sh8 pc n pr ph pm ca we ti)=shF pc n pr ph pm ca we ti mo:=by kernel_rfl
theorem zJW:(sh8 pc n pr ph pm ca we ti).length < 1000:=by show 8 < 1000;decide
end
structure Sh where
 dx:Addr
 pc:Addr
 pr:Addr
 ph:Addr
 pm:Addr
 n:Nat
 cs:List Int
 os:List (Option Kd)
 hs:List V
 ms:List Int
 ca:Int
 we:Int
 ti:Int
 mo:Int
structure ShAt (C:Addr) (H:Hp) (p:Addr) (S:Sh):Prop where
 ob:H p=some (.ins C S.dx (shF S.pc S.n S.pr S.ph S.pm S.ca S.we S.ti S.mo))
 hc:H S.pc=some (.lst (S.cs.map V.int))
 hr:∃ xs,H S.pr=some (.lst xs)/\IsKos H S.os xs
 hh:H S.ph=some (.lst S.hs)
 hm:H S.pm=some (.lst (S.ms.map V.int))
 ne:S.pc ≠ S.pr/\S.pc ≠ S.ph/\S.pc ≠ S.pm/\S.pr ≠ S.ph/\S.pr ≠ S.pm/\S.ph ≠ S.pm
 fm:Fm S.n S.cs S.os
 s8:S8 (S.n:Int)
 rm:3*S.os.length<=2*S.n
 l1:S.hs.length=S.os.length
 l2:S.ms.length=S.os.length
 dp:∀ o∈S.os,Yn 3 o
 cm:∀ m∈S.ms,m<=S.ca
def But (p:Addr) (S:Sh) (H H':Hp):Prop:=∀ b o,H b=some o->b ≠ p->b ≠ S.pc->b ≠ S.pr->b ≠ S.ph->b ≠ S.pm->H' b=some o
section
variable {C p:Addr} {H H' H2:Hp} {S:Sh}
theorem ShAt.same (A:ShAt C H p S) (g:Same H H'):ShAt C H' p S:=by
 obtain⟨xs,h1,h2⟩:=A.hr
 exact⟨g _ _ A.ob,g _ _ A.hc,⟨xs,g _ _ h1,h2.same g.tups⟩,g _ _ A.hh,g _ _ A.hm,A.ne,A.fm,A.s8,A.rm,A.l1,A.l2,A.dp,A.cm⟩
theorem ShAt.tups (A:ShAt C H p S) (b:But p S H H'):TupS H H':=fun c xs e=>by
 obtain⟨ys,h1,_⟩:=A.hr
 refine b c _ e (fun z=>?_) (fun z=>?_) (fun z=>?_) (fun z=>?_) (fun z=>?_)
 ·rw[z,A.ob] at e;cases e
 ·rw[z,A.hc] at e;cases e
 ·rw[z,h1] at e;cases e
 ·rw[z,A.hh] at e;cases e
 ·rw[z,A.hm] at e;cases e
theorem ShAt.lists (A:ShAt C H p S):p ≠ S.pc/\p ≠ S.pr/\p ≠ S.ph/\p ≠ S.pm:=by
 obtain⟨ys,h1,_⟩:=A.hr
 refine⟨fun z=>?_,fun z=>?_,fun z=>?_,fun z=>?_⟩
 ·have:=A.ob;rw[z,A.hc] at this;cases this
 ·have:=A.ob;rw[z,h1] at this;cases this
 ·have:=A.ob;rw[z,A.hh] at this;cases this
 ·have:=A.ob;rw[z,A.hm] at this;cases this
theorem ShAt.small (A:ShAt C H p S):S.os.length<=4096/\8<=S.n/\S.n<=4096:=by
 have:=A.s8.range
 have:=A.rm
 omega
end
end L2
namespace L2
open PySem PySem.Spec PyProof.Rows
def Plc (os:List (Option Kd)) (k:Kd) (F:Option Nat->Prop):Prop:=(∀ i:Nat,os[i]? = some (some k)->F (some i))/\((∀ i:Nat,os[i]? ≠ some (some k))->F none)
theorem zKU (os:List (Option Kd)) (k:Kd):(∃ i:Nat,os[i]? = some (some k))\/∀ i:Nat,os[i]? ≠ some (some k):=by
 by_cases h:∃ i:Nat,os[i]? = some (some k)
 ·exact .inl h
 ·exact .inr fun i e=>h ⟨i,e⟩
end L2
namespace L2
open PySem PySem.Spec PyProof.Rows
theorem FunD.bindsN {K:W.Frag} {x qual:Str} {st:Stmt} {f:Addr} {fd:FuncData} {ds:List Value} {ps:List Str} (es:List Value) (n:Nat) (hn:n+es.length=ps.length) (F:FunD K x qual st f fd ds)
  (h:∀ (T:Addr) (kV doc pm:Value) (an:Option Addr) (cdv ct:Value) (us:List Value),us.length=n->∃ k:Option (Array Value)->Sem (List (Str × Value)),
   bindArgs (W.fnOf x qual (YA st) (Qr st) (QI st) (.ref T) kV doc pm an cdv ct) ⟨us,[]⟩=seqItems? (.ref T) >>= k/\k (some ds.toArray)=pure (ps.zip (us++es))):Binds K fd ps es :=
 F.binds es fun T kV doc pm an cdv ct us hl=>h T kV doc pm an cdv ct us (by rw[List.length_append] at hl;omega)
end L2
namespace L2
open PySem PySem.Spec PyProof.Rows
def RowT (B H:Hp) (r:Addr) (ks:List Th):Prop:=∃ vs,H r=some (.lst vs)/\IsTs B H ks vs
structure StT (B H0 H:Hp) (R:Addr) (rs:List Addr) (kss:List (List Th)):Prop where
 hR:H R=some (.lst (rs.map V.ref))
 R0:H0 R=none
 rs0:∀ r∈rs,H0 r=none
 nR:R ∉ rs
 nd:rs.Nodup
 rows:Paired (RowT B H) rs kss
 same:Same H0 H
section
variable {B H0 H H':Hp} {R r:Addr} {rs:List Addr} {kss:List (List Th)} {ks:List Th} {k:Th} {v:V} {vs:List V}
theorem RowT.ts (h:RowT B H r ks) (e:∀ vs,H r=some (.lst vs)->H' r=some (.lst vs)) (t:TupS H H'):RowT B H' r ks:=by
 obtain⟨vs,h1,h2⟩:=h
 exact⟨vs,e vs h1,h2.same t⟩
end
structure ShT (tss:List (List Th)):Prop where
 lo:1<=tss.length
 hi:tss.length<=3
 len:∀ (j:Nat) ks,tss[j]? = some ks->ks.length<=6
 room:∀ (j:Nat) ks,tss[j]? = some ks->j+1 < tss.length->ks.length<=5
end L2
namespace L2
open PySem PySem.Spec PyProof.Rows
theorem XC.sub {K:W.Frag} {C:Addr} {bm:List Value} {b:Value} {r:Bool} (c:XC K C bm) (m:W.mroIn K C b=some r):(Value.ref C::bm).contains b=r:=by
 obtain⟨nm,q,N,bs,hdct,sn,sub,ab,col,dd,k0,k1,k2,k3,k5,newId,lk⟩:=c.ob
 unfold W.mroIn PySem.W.clsIn at m
 rw[lk] at m
 exact Option.some.inj m
theorem Jv {K:W.Frag} {D C:Addr} {b:Bool} (ty:PySem.W.typeIn K (.ref C)=some (.type "type")) (mo:W.mroIn K C (.type "object")=some true) (su:W.mroIn K D (.ref C)=some b) (sd:W.mroIn K D (.ref D)=some true) :
  W.kitOne K (.ref D) (.ref C)=some b:=by
 unfold W.kitOne
 by_cases e:D=C
 ·subst e
  rw[su] at sd
  rw[if_pos (beq_self_eq_true _),sd]
 ·rw[if_neg (fun z=>e (Value.ref.inj (beq_iff_eq.mp z)))]
  unfold PySem.W.kitCls
  obtain⟨cd,hc,_⟩:=Option.bind_eq_some_iff.mp mo
  dsimp only
  rw[hc,ty,if_pos (by rw[Option.isSome_some,Bool.true_and];exact beq_self_eq_true _)]
  exact su
theorem zHx {K:W.Frag} {D:Addr} {T:String} {b:Bool} (hm:PySem.W.kitMeta T=true) (su:W.mroIn K D (.type T)=some b):W.kitOne K (.ref D) (.type T)=some b:=by
 unfold W.kitOne PySem.W.kitCls
 rw[if_neg (show ¬ (Value.ref D == Value.type T)=true from fun z=>by cases (beq_iff_eq.mp z))]
 dsimp only
 rw[if_pos hm]
 exact su
end L2
namespace L2
open PySem PySem.Spec PyProof.Rows
section
variable {P:Program} {w:World} {K:W.Frag} {mg:Str->Option Value} {base:Heap} {N:List Str} {qual:Str} {scope:Scope} {f:Addr} {cd:Value} {A:Around} {outer:List Env} {s₀:Shared} {H₀:Hp} {E E':XK}
def zFQ (C:Addr) (E:XK) (t:TA):TS:=fun _ σ H=>t σ H fun vs H1=>vs.length<=sizeLine/\∀ ea,H1 ea=none->E (.ref C) (some ea) H1
theorem JO {x:Str} {C:Addr} {bm:List Value} {e:Expr} {es:List Expr} {t:TA} {np cpos pos:Pos} (hh:A.handled=none) (hg:Gl (cxE P w K mg base N qual scope f cd A outer s₀ H₀ E) x) (hm:mg x=some (.ref C)) (c:XC K C bm)
  (ha:PA (cxE P w K mg base N qual scope f cd A outer s₀ H₀ E) (e::es) t) (hdb:(x == ("__debug__" : Str))=false:=by decide)
  (he:starEach (e::es) (cxE P w K mg base N qual scope f cd A outer s₀ H₀ E).env=(false,eval e (cxE P w K mg base N qual scope f cd A outer s₀ H₀ E).env)::starEach es (cxE P w K mg base N qual scope f cd A outer s₀ H₀ E).env:=by rfl)
  (hpl:(backTo cpos (starEach es (cxE P w K mg base N qual scope f cd A outer s₀ H₀ E).env)).any (·.1)=false:=by rfl) :
  PS (cxE P w K mg base N qual scope f cd A outer s₀ H₀ E) (.Raise (some (.Call (.Name x np) (e::es) [] cpos)) none pos) (zFQ C E t):=by
 intro pins s σ H D I h
 obtain⟨N',nm,q,bs,hdct,sn,sub,ab,col,dd,k0,k1,k2,k3,k5,mN,hC,hN,hni,TL⟩:=c.at I.mod.kin
 refine wpAny_Raise_call_subT (C:=C) (nm:=nm) (q:=q) (N:=N') (bs:=bs) (bm:=bm) (hdct:=hdct) (sn:=sn) (sub:=sub) (ab:=ab) (col:=col) (dd:=dd) (k0:=k0) (k1:=k1) (k2:=k2) (k3:=k3) (k5:=k5)
  F.excBase_ValueError (mN:=mN) (TL.hasType rfl) hh (by rw[he];exact (Bool.false_or _).trans hpl) hni (Z3 I hg hm ⟨rfl,?_⟩ hdb)
 have z:=ha cpos pins s σ H _ I h
 rw[he] at z ⊢
 refine Calls.evalArgs_plain (thn z fun us s2 ⟨vs,H1,I2,r,hz,q⟩=>⟨rfl,by rw[← r.length];exact hz,I2.bk _ _ hC,hN.keeps I2.bk,TL.keeps I2.bk,fun h' ea mx=>?_⟩)
 show wpAny _ _ (leaving _ (.ref ea)) _ _ _
 have hl:=I2.stack
 refine zEP (s:={ s2 with heap:=h' }) (h₀:=s2.heap) (B:=W.hideAll s2.heap (frs (cxE P w K mg base N qual scope f cd A outer s₀ H₀ E).stack)) I2.ok.frames rfl (fun b o e=>PySem.W.of_hideAll _ e)
  (PySem.W.funFrames_hide hl fun env he b hb=>List.mem_filterMap.mpr ⟨env,he,hb⟩) mx fun h2 y u=>?_
 have tb:ToB (frs (cxE P w K mg base N qual scope f cd A outer s₀ H₀ E).stack) H1 H1 s2.heap (W.hideAll s2.heap (frs (cxE P w K mg base N qual scope f cd A outer s₀ H₀ E).stack)) :=
  ⟨fun b o e _ hb=>PySem.W.hideAll_get _ e hb,fun _ _ _ n=>n,fun b o e hb=>⟨o,PySem.W.hideAll_get _ e hb⟩,fun _ _ e=>e,fun _ _ _ e=>e,fun _ _ e=>⟨#[],by rw[e];simp⟩⟩
 have hok:HOk P w H1 (W.hideAll s2.heap (frs (cxE P w K mg base N qual scope f cd A outer s₀ H₀ E).stack)):=by
  intro b u e
  refine (I2.hok b u e).stay (fun b' u' hb' e'=>PySem.W.hideAll_get _ e' fun hm=>?_) (fun _ z=>z) fun _ _ z=>z
  have hn:=I2.stkFree b' hm
  rcases hb' with rfl | hb'
  ·rw[hn] at e;cases e
  ·rw[hn] at hb';cases hb'
 have hn:H1 ea=none:=by
  cases z:H1 ea with
  | none=>rfl
  | some o =>
   obtain⟨ob,e⟩:=(hok ea o z).got
   rw[y.new] at e
   cases e
 refine⟨ea,.ref C,_,H1,rfl,⟨I2.os,I2.tk⟩,I2.bare,y,hok,tb.out I2 Ji,zBl I2 Ji fun b o e hb=>?_,q ea hn⟩
 have hb':b∈frs (cxE P w K mg base N qual scope f cd A outer s₀ H₀ E).stack:=by
  obtain⟨env,h1,h2⟩:=List.mem_filterMap.mp hb
  exact List.mem_filterMap.mpr ⟨env,List.mem_cons_of_mem _ h1,h2⟩
 exact u b o (mx.keeps b o e) (Jq hl hb' e)
end
def zMN (K:W.Frag) (C:Addr) (tb:(St->Hp->XK)->TS) (ts:Addr->TS):TS:=fun D σ H=>tb (fun σ' _ cls a H'=>∃ ea Dc bm,a=some ea/\cls=.ref Dc/\XC K Dc bm/\(Value.ref Dc::bm).contains (.ref C)=true /\
 ts ea D σ' (upd H' ea (ExO ea (.ref Dc)))) D σ H
end L2
namespace L2
open PySem PySem.Spec PyProof.Rows
def zDq (C:Addr) (m:Str) (sp:Sp) (dvs:List V) (RX:St->Hp->XK) (ta:TE) (t:TA):TE:=fun σ H Q=>ta σ H fun x H1=>zBI C m x H1 fun H1=>t σ H1 fun vs H2=>sp (x::(vs++dvs)) H2 Q (RX σ H2)
section
variable {X:Cx} {RX:St->Hp->XK} {k:Nat} {f C:Addr} {fd:FuncData} {ps:List Str} {sp:Sp} {dvs:List V} {ds:List Value} {m:Str} {pos apos:Pos} {e o:Expr} {es:List Expr} {ta:TE} {t:TA}
theorem zFl {pins:List (Addr × Obj)} {σ:St} {H:Hp} {s:Shared} {Q:VK} {us:List Value} {vs:List V} (F:FnOk X.prog X.w X.K X.mg X.base (CXe X.prog X.w) k f fd ps sp) (hr:Room k X.A) (hb:Binds X.K fd ps ds) (hd:Vals dvs ds)
  (I:Inv (X.wish (xeR X RX)) pins σ H s) (r:Vals vs us) (q:sp (vs++dvs) H Q (RX σ H)):wpAny (model X.prog X.w) X.A (call (.ref f) us) (EP (X.wish (xeR X RX)) pins σ Q) (X.wish (xeR X RX)).xe s:=by
 have r2:Vals (vs++dvs) (us++ds):=r.append hd
 have hl:(us++ds).length=ps.length:=by rw[← r2.length];exact F.len _ _ _ _ q
 refine wpAny_call (codeAny_mono (F.run X.A X.stack s H ⟨us,[]⟩ (us++ds) (vs++dvs) Q (RX σ H) hr I.env0 (hb s us I.kIn hl) r2 q) fun r s' hq=>?_)
 cases r with
 | error e=>exact⟨pins,σ,H,s,I.unwish,hq⟩
 | ok fl =>
  cases fl with
  | ret u=>exact I.after hq
  | next=>exact False.elim hq
  | brk=>exact False.elim hq
  | cont=>exact False.elim hq
theorem zCv {pl:Sem Bool} (he:PE (X.wish (xeR X RX)) o ta) (c:Cls X.K C) (hm:Meth X.K C m f) (F:FnOk X.prog X.w X.K X.mg X.base (CXe X.prog X.w) k f fd ps sp) (hr:Room k X.A) (hb:Binds X.K fd ps ds) (hd:Vals dvs ds) (ha:PA (X.wish (xeR X RX)) (e::es) t)
  (hst:starEach (e::es) X.env=(false,eval e X.env)::starEach es X.env:=by rfl) (hpl:(backTo pos (starEach es X.env)).any (·.1)=false:=by rfl)
  (ht:eval (.Call (.Attribute o m apos) (e::es) [] pos) X.env=(do
   let ov ← eval o X.env
   standAt apos.atName
   let (f,first) ← holding [ov] (getMethod ov m pl)
   callWith pos f first (backTo pos (starEach (e::es) X.env)) (backToKw pos (keywordEach [] X.env))):=by rfl) :
  PE (X.wish (xeR X RX)) (.Call (.Attribute o m apos) (e::es) [] pos) (zDq C m sp dvs RX ta t):=by
 intro pins s σ H Q I h
 refine PySem.W.methodCall_KW (pl:=pl) (thn (he pins s σ H _ I h) fun u s1 ⟨x,H1,I1,rx,q0⟩=>?_) ht
 obtain⟨a,dx,fs,ex,ea,l,q⟩:=W1 q0
 subst ex
 obtain rfl:u=Value.ref a:=rx
 refine ZA I1 ea c hm l ?_
 refine PySem.W.callWith_K (first:=[.ref a]) (h₀:=X.base) I.ok.mod.kin hm.kp (thn (ha pos pins s1 σ H1 _ I1 q) fun us s2 ⟨vs,H2,I2,r,q2⟩=>⟨I2.kIn,?_⟩) hst hpl
 exact zFl (us:=.ref a::us) (vs:=.ref a::vs) F hr hb hd I2 (.cons rfl r) q2
theorem zGS {pl:Sem Bool} (he:PE (X.wish (xeR X RX)) o ta) (c:Cls X.K C) (hm:Meth X.K C m f) (F:FnOk X.prog X.w X.K X.mg X.base (CXe X.prog X.w) k f fd ps sp) (hr:Room k X.A) (hb:Binds X.K fd ps ds) (hd:Vals dvs ds)
  (ht:eval (.Call (.Attribute o m apos) [] [] pos) X.env=(do
   let ov ← eval o X.env
   standAt apos.atName
   let (f,first) ← holding [ov] (getMethod ov m pl)
   callWith pos f first (backTo pos (starEach [] X.env)) (backToKw pos (keywordEach [] X.env))):=by rfl) :
  PE (X.wish (xeR X RX)) (.Call (.Attribute o m apos) [] [] pos) (zDq C m sp dvs RX ta zEZ):=by
 intro pins s σ H Q I h
 refine PySem.W.methodCall_KW (pl:=pl) (thn (he pins s σ H _ I h) fun u s1 ⟨x,H1,I1,rx,q0⟩=>?_) ht
 obtain⟨a,dx,fs,ex,ea,l,q⟩:=W1 q0
 subst ex
 obtain rfl:u=Value.ref a:=rx
 refine ZA I1 ea c hm l ?_
 exact PySem.W.callWith_K0 (first:=[.ref a]) I1.kIn hm.kp (zFl (us:=[.ref a]) (vs:=[.ref a]) F hr hb hd I1 (.cons rfl .nil) q)
end
end L2
namespace L2
open PySem PySem.Spec PyProof.Rows
end L2
namespace L2
open PySem PySem.Spec PyProof.Rows
def zJx (K:W.Frag) (C C':Addr) (tb:(St->Hp->XK)->TS) (ts ts':Addr->TS):TS:=fun D σ H=>tb (fun σ' _ cls a H'=>∃ ea Dc bm,a=some ea/\cls=.ref Dc/\XC K Dc bm /\
 (((Value.ref Dc::bm).contains (.ref C)=true/\ts ea D σ' (upd H' ea (ExO ea (.ref Dc))))\/((Value.ref Dc::bm).contains (.ref C)=false/\(Value.ref Dc::bm).contains (.ref C')=true/\ts' ea D σ' (upd H' ea (ExO ea (.ref Dc)))))) D σ H
theorem zJI {X:Cx} {body:List Stmt} {tb:(St->Hp->XK)->TS} {ts ts':Addr->TS} {x x':Str} {C C':Addr} {bmC bmC':List Value} {b₀ b₀':Stmt} {suite suite':List Stmt} {np hpos np' hpos' pos:Pos} (O:Own X)
  (hb:∀ pl RX,PSs ((X.bear pl).wish (xeR (X.bear pl) RX)) body (tb RX)) (hg:Gl X x) (hm:X.mg x=some (.ref C)) (cC:XC X.K C bmC) (hs:∀ ea,PSs (X.inH ea) (b₀::suite) (ts ea))
  (hg':Gl X x') (hm':X.mg x'=some (.ref C')) (cC':XC X.K C' bmC') (hs':∀ ea,PSs (X.inH ea) (b₀'::suite') (ts' ea))
  (hdb:(x == ("__debug__" : Str))=false:=by decide) (hdb':(x' == ("__debug__" : Str))=false:=by decide) :
  PS X (.Try body [.ExceptHandler (some (.Name x np)) none (b₀::suite) hpos,.ExceptHandler (some (.Name x' np')) none (b₀'::suite') hpos'] [] [] pos) (zJx X.K C C' tb ts ts'):=by
 intro pins s σ H D I h
 refine wpAny_Try_except ?_
 refine wpAny_mono (hb pins _ [] s σ H D (I.bear.wish _) h) (fun f s1 q=>?_) (fun e s1 q=>?_)
 ·have q1:=SP.unwish q
  have q2:SP X pins D f s1:=by
   cases f with
   | next=>obtain⟨σ',H',J,z⟩:=q1;exact⟨σ',H',J.unbear,z⟩
   | brk=>obtain⟨σ',H',J,z⟩:=q1;exact⟨σ',H',J.unbear,z⟩
   | cont=>obtain⟨σ',H',J,z⟩:=q1;exact⟨σ',H',J.unbear,z⟩
   | ret u=>obtain⟨v,σ',H',J,r,z⟩:=q1;exact⟨v,σ',H',J.unbear,r,z⟩
  cases f with
  | next=>exact wpAny_execs_nil q2
  | brk=>exact q2
  | cont=>exact q2
  | ret u=>exact q2
 ·obtain⟨pins',σ',H1,s2,I2,ea,cls,B,H',rfl,h1,h2,h3,h6,h7,h8,ea',Dc,bm,e1,rfl,cD,qq⟩:=q
  cases e1
  have I2:Inv X pins σ' H1 s2:=I2.unbear
  have h3':Fly B s1.heap (X.env::X.outer) ea (.ref Dc) .none:=by rw[← O.stk];exact h3
  have hfr:X.A.frames=some (X.env::X.outer):=by rw[← O.stk];exact I.ok.frames
  have up:∀ {ha hb:Heap} {fl:Value},Fly B ha X.stack ea (.ref Dc) fl->ha.UpToSlots hb->(∀ b o,s2.heap.get? b=some o->b∈frs X.stack->∃ sl,ha.get? b=some { o with slots:=sl })->∀ b o,s2.heap.get? b=some o->b∈frs X.stack->∃ sl,hb.get? b=some { o with slots:=sl } :=
   fun {ha hb fl} y u z b o e hb'=>by
    obtain⟨sl1,e1⟩:=z b o e hb'
    obtain⟨sl2,e2⟩:=u b _ e1 (Jq y.frames hb' e1)
    exact⟨sl2,e2⟩
  refine zDC (s:=s1) hfr O.fr h3' fun h4 y4 u4=>?_
  refine Zl (s:={ s1 with heap:=h4 }) y4 fun h5 y5 u5=>?_
  have y4':Fly B h4 X.stack ea (.ref Dc) (rawInt X.env.locals):=by rw[O.stk];exact y4
  have y5':Fly B h5 X.stack ea (.ref Dc) .none:=by rw[O.stk];exact y5
  have sl5:=up y4' u5 (up h3 u4 h8)
  have I5:Inv (X.inH ea) pins σ' (upd H' ea (ExO ea (.ref Dc))) { s1 with heap:=h5 }:=(I2.landed (s':=s1) h1.1 h1.2 h2 y5' h6 h7 sl5).inH ea
  refine wpAny_handleBy_cons (codeAny_handlers_test ?_) (by intro z;cases z)
  refine Z3 I5 hg hm ?_ hdb
  obtain⟨oe,vs,T,oT,ts',he,hc,hd,_⟩:=y5.trc
  refine JT (s:={ s1 with heap:=h5 }) I5.kIn cD cC he hc ?_
  rcases qq with ⟨hct,q⟩ | ⟨hct,hct',q⟩
  ·rw[hct]
   refine codeAny_handlers_suite ?_
   refine Zl (s:={ s1 with heap:=h5 }) y5 fun h7' y7 u7=>?_
   have y7':Fly B h7' X.stack ea (.ref Dc) .none:=by rw[O.stk];exact y7
   have I7:Inv (X.inH ea) pins σ' (upd H' ea (ExO ea (.ref Dc))) { s1 with heap:=h7' }:=(I2.landed (s':=s1) h1.1 h1.2 h2 y7' h6 h7 (up y5' u7 sl5)).inH ea
   refine wpAny_mono (hs ea pins _ _ _ _ I7 q) (fun f s9 z=>?_) (fun _ _ z=>z.elim)
   cases f with
   | next=>obtain⟨σ2,H2,J,z⟩:=z;exact⟨_,_,J.outH I.ok,z⟩
   | brk=>obtain⟨σ2,H2,J,z⟩:=z;exact⟨_,_,J.outH I.ok,z⟩
   | cont=>obtain⟨σ2,H2,J,z⟩:=z;exact⟨_,_,J.outH I.ok,z⟩
   | ret u=>obtain⟨v,σ2,H2,J,r,z⟩:=z;exact⟨v,_,_,J.outH I.ok,r,z⟩
  ·rw[hct]
   refine wpAny_handleBy_cons (codeAny_handlers_test ?_) (by intro z;cases z)
   refine Z3 I5 hg' hm' ?_ hdb'
   refine JT (s:={ s1 with heap:=h5 }) I5.kIn cD cC' he hc ?_
   rw[hct']
   refine codeAny_handlers_suite ?_
   refine Zl (s:={ s1 with heap:=h5 }) y5 fun h7' y7 u7=>?_
   have y7':Fly B h7' X.stack ea (.ref Dc) .none:=by rw[O.stk];exact y7
   have I7:Inv (X.inH ea) pins σ' (upd H' ea (ExO ea (.ref Dc))) { s1 with heap:=h7' }:=(I2.landed (s':=s1) h1.1 h1.2 h2 y7' h6 h7 (up y5' u7 sl5)).inH ea
   refine wpAny_mono (hs' ea pins _ _ _ _ I7 q) (fun f s9 z=>?_) (fun _ _ z=>z.elim)
   cases f with
   | next=>obtain⟨σ2,H2,J,z⟩:=z;exact⟨_,_,J.outH I.ok,z⟩
   | brk=>obtain⟨σ2,H2,J,z⟩:=z;exact⟨_,_,J.outH I.ok,z⟩
   | cont=>obtain⟨σ2,H2,J,z⟩:=z;exact⟨_,_,J.outH I.ok,z⟩
   | ret u=>obtain⟨v,σ2,H2,J,r,z⟩:=z;exact⟨v,_,_,J.outH I.ok,r,z⟩
section
variable {X:Cx}
def zMH:R2:=fun x y H Q=>∃ b c,x=.bl b/\y=.bl c/\Q (.bl (b == c)) H
theorem zJf {b c:Bool} {H:Hp} {Q:VK}:zMH (.bl b) (.bl c) H Q=Q (.bl (b == c)) H:=propext ⟨fun ⟨b',c',e1,e2,h⟩=>by cases e1;cases e2;exact h,fun h=>⟨b,c,rfl,rfl,h⟩⟩
theorem zKZ:(true == true)=true:=rfl
theorem zKd:(false == true)=false:=rfl
theorem zKn:(true == false)=false:=rfl
theorem zLS:(false == false)=true:=rfl
end
end L2
namespace L2
open PySem PySem.Spec PyProof.Rows
end L2
namespace L2
open PySem PySem.Spec PyProof.Rows
inductive Dv where
 | val (v:V)
 | pair (k:Kd) (v:V)
 | cnt (l:List Int)
end L2
namespace L2
open PySem PySem.Spec PyProof.Rows
end L2
namespace L2
open PySem PySem.Spec PyProof.Rows
end L2
namespace L2
open PySem PySem.Spec PyProof.Rows
end L2
namespace L2
open PySem PySem.Spec PyProof.Rows
def gm (os:List (Option Kd)) (v:Int):Int:=if v < 0 then v else match os[v.toNat]? with | some (some _)=>v | _ => -2
theorem Za {os:List (Option Kd)} {v:Int} (h:v < 0):gm os v=v:=by unfold gm;rw[if_pos h]
theorem Yd {os:List (Option Kd)} {p:Nat}:gm os (p:Int)=match os[p]? with | some (some _)=>(p:Int) | _ => -2:=by
 unfold gm
 rw[if_neg (by omega),Int.toNat_natCast]
theorem zFU {os:List (Option Kd)} {v:Int} (h : -1<=v):gm os v = -1 ↔ v = -1:=by
 by_cases z:v < 0
 ·rw[Za z]
 ·obtain⟨p,rfl⟩:=Int.eq_ofNat_of_zero_le (show 0<=v by omega)
  rw[Yd]
  constructor
  ·intro e
   split at e <;> omega
  ·intro e;omega
structure Hist (n:Nat) (cs:List Int) (os:List (Option Kd)) (ks:List Kd):Prop where
 len:ks.length=os.length
 at_:∀ (i:Nat) k,os[i]? = some (some k)->ks[i]? = some k
 lb:∃ L,LB (fun p=>(ks[p]?).map Kd.st) n ks.length L/\cs=L.map (gm os)
theorem LB.ge {st:Nat->Option Int} {n i:Nat} {L:List Int} (hn:0 < n) (h:LB st n i L) {j:Nat} {v:Int} (e:L[j]? = some v):v = -1\/∃ p:Nat,p < i/\v=(p:Int):=by
 rcases (h.laid hn).old j v e with z | ⟨p,hp,z,_⟩
 ·exact .inl z
 ·exact .inr ⟨p,hp,z⟩
theorem zJK {L:List Int} {f:Int->Int} {m:Int} {c:Nat} (hn:0 < L.length):cAt (L.map f) m c=f (cAt L m c):=by
 have h:=YZ (cs:=L) (m:=m) (c:=c) hn
 unfold cAt
 rw[List.length_map,List.getElem?_map,h]
 rfl
theorem Hist.nil {n:Nat}:Hist n (List.replicate n (-1)) [] []:=⟨rfl,fun i k h=>by simp at h,_,.zero,by rw[List.map_replicate];rfl⟩
theorem LB.congr {st st':Nat->Option Int} {n i:Nat} {L:List Int} (h:LB st n i L):(∀ p,p < i->st p=st' p)->LB st' n i L:=by
 induction h with
 | zero=>intro _;exact .zero
 | skip _ e ih=>intro hs;exact .skip (ih fun p hp=>hs p (by omega)) (by rw[← hs _ (Nat.lt_succ_self _)];exact e)
 | put _ e hc ih=>intro hs;exact .put (ih fun p hp=>hs p (by omega)) (by rw[← hs _ (Nat.lt_succ_self _)];exact e) hc
theorem Hist.came {n c:Nat} {cs:List Int} {os:List (Option Kd)} {ks:List Kd} {k:Kd} (F:Fm n cs os) (h:Hist n cs os ks) (hn:∀ i:Nat,os[i]? ≠ some (some k)) (hc:IsFirst (fun c=>Qx os k (cAt cs k.st c)) n c):Hist n (cs.set (sl k.st n c) (os.length:Int)) (os++[some k]) (ks++[k]):=by
 obtain⟨L,hL,e⟩:=h.lb
 have n0:=F.pos
 have ll:=(hL.laid n0).len
 have hl:=h.len
 have bare:∀ c',cAt cs k.st c' = -1 ↔ cAt L k.st c' = -1:=fun c'=>by
  rw[e,zJK (by omega)]
  have hg:=YZ (cs:=L) (m:=k.st) (c:=c') (by omega)
  rcases hL.ge n0 hg with z | ⟨p,hp,z⟩
  ·exact zFU (by omega)
  ·exact zFU (by omega)
 have fst:IsFirst (fun c=>cAt L k.st c = -1) n c:=by
  refine⟨hc.1,?_,fun i hi hb=>hc.2.2 i hi (.inl ((bare i).mpr hb))⟩
  rcases hc.2.1 with z | ⟨_,z⟩
  ·exact (bare c).mp z
  ·exact absurd z (hn _)
 refine⟨by simp[hl],fun i k' hi=>?_,L.set (sl k.st n c) (ks.length:Int),?_,?_⟩
 ·by_cases z:i < os.length
  ·rw[List.getElem?_append_left z] at hi
   rw[List.getElem?_append_left (by omega)]
   exact h.at_ i k' hi
  ·have zi:i=os.length:=by have:=(List.getElem?_eq_some_iff.mp hi).1;rw[List.length_append,List.length_singleton] at this;omega
   subst zi
   rw[List.getElem?_append_right (Nat.le_refl _),Nat.sub_self] at hi
   rw[← hl,List.getElem?_append_right (Nat.le_refl _),Nat.sub_self]
   cases hi;rfl
 ·rw[List.length_append,List.length_singleton]
  refine .put (hL.congr fun p hp=>by rw[List.getElem?_append_left hp]) ?_ fst
  rw[List.getElem?_append_right (Nat.le_refl _),Nat.sub_self];rfl
 ·rw[e,List.map_set,hl,Yd,List.getElem?_append_right (Nat.le_refl _),Nat.sub_self]
  show (L.map (gm os)).set _ (os.length:Int)=(L.map (gm (os++[some k]))).set _ (os.length:Int)
  congr 1
  refine List.map_congr_left fun v hv=>?_
  obtain⟨j,hj⟩:=List.getElem?_of_mem hv
  rcases hL.ge n0 hj with z | ⟨p,hp,z⟩
  ·rw[Za (by omega),Za (by omega)]
  ·rw[z,Yd,Yd,List.getElem?_append_left (by omega)]
theorem Hist.gone {n c i:Nat} {cs:List Int} {os:List (Option Kd)} {ks:List Kd} {k:Kd} (F:Fm n cs os) (h:Hist n cs os ks) (hi:os[i]? = some (some k)) (hc:IsFirst (fun c=>Qx os k (cAt cs k.st c)) n c):Hist n (cs.set (sl k.st n c) (-2)) (os.set i none) ks:=by
 obtain⟨L,hL,e⟩:=h.lb
 have n0:=F.pos
 have La:=hL.laid n0
 have ll:=La.len
 obtain⟨c',hc',e'⟩:=F.there hi
 obtain rfl:=hc.uniq hc'
 have hsl:sl k.st n c < L.length:=by rw[ll];exact JW n0
 have hat:=F.at k.st c
 rw[e',e,List.getElem?_map,List.getElem?_eq_getElem hsl] at hat
 have hv:gm os L[sl k.st n c]=(i:Int):=Option.some.inj hat
 have hLi:L[sl k.st n c]=(i:Int):=by
  rcases hL.ge n0 (List.getElem?_eq_getElem hsl) with z | ⟨p,hp,z⟩
  ·rw[z,Za (by decide)] at hv;omega
  ·rw[z,Yd] at hv
   rw[z]
   split at hv <;> omega
 have io:i < os.length:=(List.getElem?_eq_some_iff.mp hi).1
 refine⟨by rw[List.length_set];exact h.len,fun j k' hj=>?_,L,hL,?_⟩
 ·by_cases z:i=j
  ·subst z;rw[List.getElem?_set_self io] at hj;cases hj
  ·rw[List.getElem?_set_ne z] at hj;exact h.at_ j k' hj
 ·rw[e]
  refine List.ext_getElem? fun j=>?_
  by_cases z:sl k.st n c=j
  ·subst z
   rw[List.getElem?_set_self (by rw[List.length_map];exact hsl),List.getElem?_map,List.getElem?_eq_getElem hsl,hLi]
   show some (-2)=some (gm (os.set i none) (i:Int))
   rw[Yd,List.getElem?_set_self io]
  ·rw[List.getElem?_set_ne z,List.getElem?_map,List.getElem?_map]
   cases hj:L[j]? with
   | none=>rfl
   | some v =>
    show some (gm os v)=some (gm (os.set i none) v)
    rcases hL.ge n0 hj with y | ⟨p,hp,y⟩
    ·rw[Za (by omega),Za (by omega)]
    ·have pi:i ≠ p:=fun q=>by
      subst q
      exact z (La.one _ _ _ (by rw[List.getElem?_eq_getElem hsl,hLi]) (by rw[hj,y]) (by omega))
     rw[y,Yd,Yd,List.getElem?_set_ne pi]
end L2
namespace L2
open PySem PySem.Spec PyProof.Rows
theorem zIX {X:Cx} {P:Program} {w:World}:ZN (CXe P w) X E0:=fun _ _ _ _ _ _ _ h=>by
 obtain⟨_,_,_,_,_,_,_,_,_,_,_,h⟩:=h
 exact h.elim
def zEG (os:List (Option Kd)) (k:Kd):List (Option Kd):=os.map fun o=>if o=some k then none else o
end L2
namespace PySem
namespace F
theorem zA3:Slot "reversed" "__init__" "object.__init__" :=
 .of (owner := "object") (n := "__init__") (by rw[typeLookup_type,builtinLookup_eq_fast];kernel_rfl) (by decide +kernel) (by decide +kernel) (by decide +kernel)
  (by first | exact .inl (by decide +kernel) | exact .inr (by decide +kernel)) (by rw[isSubtype_type];kernel_rfl)
theorem called_rvd:TypeCalled "reversed" "reversed.__new__" "object.__init__" :=
 ⟨by decide +kernel,by decide +kernel,⟨_,_,mro_reversed⟩,made_reversed,by decide +kernel,by rw[isSubtype_type];kernel_rfl,zA3⟩
end F
end PySem
namespace PySem
end PySem
namespace PySem
namespace F
theorem zBR:Manifest.owners.lookup (String.ofList ['r','o','t','a','r','e','t','i','e','s','r','e','v','e','r','_','t','s','i','l'].reverse)=some Manifest.sig_list_reverseiterator:=by kernel_rfl
theorem slot_lrv_next:Slot "list_reverseiterator" "__next__" "list_reverseiterator.__next__" :=
 .of (owner := "list_reverseiterator") (n := "__next__") (by rw[typeLookup_type,builtinLookup_eq_fast];kernel_rfl) (by decide +kernel) (by decide +kernel) (by decide +kernel)
  (by first | exact .inl (by decide +kernel) | exact .inr (by decide +kernel)) (by rw[isSubtype_type];kernel_rfl)
theorem entry_lrv_next:entryFor table "list_reverseiterator.__next__" = some Builtin.«list_reverseiterator.__next__»:=entryFor_of_tree (by kernel_rfl)
theorem args_lrv_next_1 (a:Value):argsOk "list_reverseiterator.__next__" ⟨[a],[]⟩:=by
 unfold argsOk;rw[signature?_of (id := "list_reverseiterator.__next__") (n:=['_','_','t','x','e','n','_','_']) (o:=['r','o','t','a','r','e','t','i','e','s','r','e','v','e','r','_','t','s','i','l']) (by kernel_rfl) zBR];kernel_rfl
theorem slot_lrv_iter:Slot "list_reverseiterator" "__iter__" "list_reverseiterator.__iter__" :=
 .of (owner := "list_reverseiterator") (n := "__iter__") (by rw[typeLookup_type,builtinLookup_eq_fast];kernel_rfl) (by decide +kernel) (by decide +kernel) (by decide +kernel)
  (by first | exact .inl (by decide +kernel) | exact .inr (by decide +kernel)) (by rw[isSubtype_type];kernel_rfl)
theorem args_lrv_iter_1 (a:Value):argsOk "list_reverseiterator.__iter__" ⟨[a],[]⟩:=by
 unfold argsOk;rw[signature?_of (id := "list_reverseiterator.__iter__") (n:=['_','_','r','e','t','i','_','_']) (o:=['r','o','t','a','r','e','t','i','e','s','r','e','v','e','r','_','t','s','i','l']) (by kernel_rfl) zBR];kernel_rfl
theorem entry_lrv_iter:entryFor table "list_reverseiterator.__iter__" = some Builtin.«dict_keyiterator.__iter__» :=
 entryFor_alias (id' := "dict_keyiterator.__iter__") (by kernel_rfl) (by first | rfl | decide +kernel | (unfold String.splitOn;simp +decide [String.splitOnAux])) (by decide +kernel) (by kernel_rfl)
theorem slot_lrv_hint:Slot "list_reverseiterator" "__length_hint__" "list_reverseiterator.__length_hint__" :=
 .of (owner := "list_reverseiterator") (n := "__length_hint__") (by rw[typeLookup_type,builtinLookup_eq_fast];kernel_rfl) (by decide +kernel) (by decide +kernel) (by decide +kernel)
  (by first | exact .inl (by decide +kernel) | exact .inr (by decide +kernel)) (by rw[isSubtype_type];kernel_rfl)
theorem lrv_no_len:typeLookup (.type "list_reverseiterator") "__len__" = pure none:=by rw[typeLookup_type,builtinLookup_eq_fast];kernel_rfl
theorem sub_lrv_rvd:isSubtype (.type "list_reverseiterator") (.type "reversed")=pure false:=by rw[isSubtype_type];kernel_rfl
end F
def Qw (l:Addr) (i:Int):Obj:={ cls:=.type "list_reverseiterator",data:=.fields #[.ref l,rawInt i] }
theorem WA (l:Addr) (items:Array Value) (n:Nat) :
  Meets (Builtin.«reversed.__new__» ⟨[.type "reversed",.ref l],[]⟩) (fun _ R s=>s.heap.get? l=some { cls:=.type "list",dict:=none,data:=.seq items n,slots := #[] } /\
   R (.ok (.ret (.ref s.heap.objs.size))) { s with heap:=s.heap.push (Qw l ((items.size:Int) - 1)) }) :=
 .of_wp fun prog w A R s h=>by
  obtain⟨hl,h⟩:=h
  have hT:s.TypeIs (.ref l) "list" := ⟨_,hl,rfl⟩
  unfold Builtin.«reversed.__new__»
  refine wpAny_bind (wpAny_of_eq (newClass_reversed _) ?_)
  try dsimp only
  refine wpAny_bind (wpAny_of_eq (a:=()) (by first | rfl | kernel_rfl) ?_)
  refine wpAny_bind (wpAny_of_eq (a:=()) (by first | rfl | kernel_rfl) ?_)
  try dsimp only
  refine wpAny_bind (wpAny_specialOf hT F.slot_list_reversed.lookup ?_)
  try dsimp only
  refine wpAny_bind (wpAny_of_eq (F.slot_list_reversed.bind _) ?_)
  try dsimp only
  rw[if_neg (show ¬ ((Value.builtin "list.__reversed__" == Value.none)=true) from Bool.false_ne_true)]
  refine wpAny_bind (wpAny_rule ?_)
  refine wpAny_bind ?_
  show wpAny _ _ (call (.builtin "list.__reversed__") [.ref l]) _ _ _
  refine call_meets F.slot_list_reversed hT F.entry_list_reversed (F.args_list_reversed_1 _) (AutoListH.list___reversed___list_0 l items n) ⟨hl,?_⟩
  exact wpAny_pure ⟨_,rfl,h⟩
section
variable {prog:Program} {w:World} {A:Around} {E:Value->Shared->Prop} {s:Shared}
theorem zBD {l:Addr} {items:Array Value} {n:Nat} {Q:Value->Shared->Prop} (hl:s.heap.get? l=some { cls:=.type "list",dict:=none,data:=.seq items n,slots := #[] })
  (h:Q (.ref s.heap.objs.size) { s with heap:=s.heap.push (Qw l ((items.size:Int) - 1)) }) :
  wpAny (model prog w) A (call (.type "reversed") [.ref l]) Q E s:=by
 have ft:=F.called_rvd
 obtain⟨c,tl,hmro⟩:=ft.mro
 have hmade:=ft.made
 have hsub:=F.sub_lrv_rvd
 have hct:=F.typeCall_reversed_1 (.ref l)
 refine wpAny_call (codeAny_of_tree ?_)
 show wpAny _ _ (callAny (.type "reversed") _) _ _ _
 refine wpAny_pure ⟨Code.quiet_builtin _ (by decide +kernel),codeAny_builtin F.entry_type_call ?_⟩
 rw[Around.under_plain (weight_type_call_type "reversed" [.ref l] []) rfl]
 have h1:=ft.notType
 have h2:=ft.canCreate
 repeat (any_goals (first | assumption | wp_step))
 have hn:codeAny (model prog w) A.in1 (.call (.builtin "reversed.__new__") ⟨[.type "reversed",.ref l],[]⟩) (fun r s1=>r=.ok (.ret (.ref s.heap.objs.size))/\s1={ s with heap:=s.heap.push (Qw l ((items.size:Int) - 1)) }) s :=
  codeAny_call_builtin ft.plain F.entry_reversed_new (wpAny_of_eq (F.newCall_reversed_1 _) (WA l items n prog w A.in1 (fun r s1=>r=.ok (.ret (.ref s.heap.objs.size))/\s1={ s with heap:=s.heap.push (Qw l ((items.size:Int) - 1)) }) s ⟨hl,rfl,rfl⟩))
 refine codeAny_mono hn fun r s₁ hr=>?_
 obtain⟨rfl,rfl⟩:=hr
 have hT:Shared.TypeIs { s with heap:=s.heap.push (Qw l ((items.size:Int) - 1)) } (.ref s.heap.objs.size) "list_reverseiterator" := ⟨_,Heap.get?_push_size _ rfl,rfl⟩
 repeat (any_goals (first | assumption | wp_step))
theorem zA6 {it l:Addr} {items:Array Value} {i:Nat} {x:Value} {Q:Option Value->Shared->Prop} (ho:s.heap.get? it=some (Qw l (i:Int))) (hl:s.heap.IsList l items) (hx:items[i]? = some x)
  (hQ:∀ h',h'.get? it=some (Qw l ((i:Int) - 1))->Heap.SameBut it s.heap h'->Q (some x) { s with heap:=h' }):wpAny (model prog w) A (pyNext (.ref it)) Q E s:=by
 obtain⟨ol,hol,_,nl,hdl⟩:=hl
 have hT:s.TypeIs (.ref it) "list_reverseiterator" := ⟨_,ho,rfl⟩
 unfold pyNext
 refine wpAny_bind (wpAny_attempt (wpAny_callSpecial?_slot (name:=Str.ofString "__next__") hT F.slot_lrv_next
  (wpAny_call_entry F.slot_lrv_next hT F.entry_lrv_next ?_ (F.args_lrv_next_1 _))))
 unfold Builtin.«list_reverseiterator.__next__»
 refine wpAny_bind (wpAny_of_eq (a:=(Value.ref it,[])) rfl ?_)
 try dsimp only
 refine wpAny_bind (wpAny_field ho rfl (x:=rawInt (i:Int)) rfl ?_)
 show wpAny _ _ (if (i:Int) < 0 then _ else _) _ _ s
 rw[if_neg (by omega)]
 refine wpAny_bind (wpAny_field ho rfl (x:=.ref l) rfl ?_)
 refine wpAny_bind (wpAny_seqItems hol hdl ?_)
 simp only[Int.toNat_natCast,hx]
 refine wpAny_bind (wpAny_setField ho rfl (by simp) (wpAny_pure ⟨x,rfl,wpAny_pure (hQ _ ?_ (Heap.SameBut.update ..))⟩))
 rw[Heap.get?_update_self _ ho (Obj.isFreed_of_fields (Obj.data_mapFields rfl _))]
 rfl
theorem zCB {it l:Addr} {Q:Option Value->Shared->Prop} (hh:A.handled=none) (ho:s.heap.get? it=some (Qw l (-1)))
  (hQ:∀ h',Heap.ExtBut it s.heap h'->Q none { s with heap:=h' }):wpAny (model prog w) A (pyNext (.ref it)) Q E s:=by
 have hT:s.TypeIs (.ref it) "list_reverseiterator" := ⟨_,ho,rfl⟩
 unfold pyNext
 refine wpAny_bind (wpAny_attempt (wpAny_callSpecial?_slot (name:=Str.ofString "__next__") hT F.slot_lrv_next
  (wpAny_call_entry F.slot_lrv_next hT F.entry_lrv_next ?_ (F.args_lrv_next_1 _))))
 unfold Builtin.«list_reverseiterator.__next__»
 refine wpAny_bind (wpAny_of_eq (a:=(Value.ref it,[])) rfl ?_)
 try dsimp only
 refine wpAny_bind (wpAny_field ho rfl (x:=rawInt (-1)) rfl ?_)
 show wpAny _ _ (if (-1:Int) < 0 then _ else _) _ _ s
 rw[if_pos (by decide)]
 refine wpAny_bind (wpAny_rule ?_)
 refine wpAny_bind ?_
 show wpAny _ _ (newExc (.type "StopIteration") [] >>= fun e=>raiseNew e) _ _ _
 refine wpAny_bind ?_
 simp only[newExc,newTuple]
 refine wpAny_bind (wpAny_newObj_type ?_ (by size_fits))
 refine wpAny_bind (m:=firstArgMember _ _) (wpAny_of_eq (a:=Value.none) (by first | rfl | (simp only[firstArgMember];rfl)) ?_)
 refine wpAny_newObj_type ?_ (by size_fits)
 simp only[raiseNew]
 refine wpAny_bind (wpAny_handled ?_)
 first | rw[show A.in1.handled=none from hh] | rw[hh]
 refine wpAny_bind (wpAny_pure (wpAny_throw ?_))
 refine wpAny_bind (wpAny_isInstance (T := "StopIteration") (b:=true) ⟨_,Heap.get?_push_size _ rfl,rfl⟩ isSubtype_stop ?_)
 exact wpAny_pure (hQ _ (fun b o hb e=>Heap.get?_push_of_some _ (Heap.get?_push_of_some _ e)))
theorem zH7 {it l:Addr} {i:Int} {Q:Value->Shared->Prop} (ho:s.heap.get? it=some (Qw l i)) (h:Q (.ref it) s):wpAny (model prog w) A (pyIter (.ref it)) Q E s:=by
 have hT:s.TypeIs (.ref it) "list_reverseiterator" := ⟨_,ho,rfl⟩
 refine wpAny_pyIter_slot hT F.slot_lrv_iter (wpAny_call_entry F.slot_lrv_iter hT F.entry_lrv_iter ?_ (F.args_lrv_iter_1 _))
 show wpAny _ _ (ret (.ref it)) _ _ s
 exact wpAny_pure ⟨_,rfl, "list_reverseiterator",_,hT,F.slot_lrv_next.lookup,h⟩
end
end PySem
namespace L2
open PySem PySem.Spec PyProof.Rows
end L2
namespace PySem
section
variable {prog:Program} {w:World} {A:Around} {s:Shared} {R:Result->Shared->Prop}
variable {I:Addr} {fp wr:List Addr} {G:Array GenState->Array GenState->Prop} {n:Nat} {P:Nat->Value->Prop} {St:Nat->Shared->Prop}
theorem zEo {l:Addr} {items:Array Value} (W:WalksS prog w A.in1 I fp wr G n P St) (hz:items.size<=sizeLine) (ho:s.heap.get? I=some (Qw l ((items.size:Int) - 1))) (hli:s.heap.IsList l items) (S:Addr) (res:Value) (c₀:Nat) (hst:St 0 s) (hSf:S ∉ fp) (hI:I∈fp) (hlf:l∈fp)
  (hS:s.heap.get? S=some { cls:=.type "list",data:=.seq #[] c₀ })
  (hR:∀ s' acc' c',Moved (S::wr) G s s'->s'.heap.get? S=some { cls:=.type "list",dict:=none,data:=.seq acc' c',slots := #[] }->ItemsOf P acc' n->R (.ok (.ret res)) s') (hn:n<=sizeLine:=by size_fits) :
  wpAny (model prog w) A.in1 (Builtin.List.listExtendWith (.ref S) (.ref I) res)
   (fun fin s'=>match fin with | .done f=>R (.ok f) s' | .again c'=>c'.quiet=true/\codeAny (model prog w) A c' R s') (fun e s'=>R (.error e) s') s:=by
 have hT:s.TypeIs (.ref I) "list_reverseiterator" := ⟨_,ho,rfl⟩
 have hSI:S ≠ I:=fun e=>hSf (e ▸ hI)
 unfold Builtin.List.listExtendWith
 refine wpAny_bind (wpAny_typeOf hT ?_)
 have h1:Builtin.List.listSameRef (.ref S) (.ref I)=false:=by simp[Builtin.List.listSameRef,hSI]
 have h2:(Value.type "list_reverseiterator" == Value.type "list")=false:=by decide
 have h3:(Value.type "list_reverseiterator" == Value.type "tuple")=false:=by decide
 simp only[h1,h2,h3,Bool.or_false,Bool.false_eq_true,if_false]
 refine wpAny_bind (W.self 0 _ _ _ hst ?_)
 refine wpAny_bind (wpAny_holding ?_)
 unfold Builtin.List.listLengthHint
 refine wpAny_bind (wpAny_specialOf hT F.lrv_no_len ?_)
 show wpAny _ A.in1 (specialOf (Value.ref I) (Str.ofString "__length_hint__") >>= _) _ _ _
 refine wpAny_bind (wpAny_specialOf hT F.slot_lrv_hint.lookup ?_)
 (generalize hid:("list_reverseiterator.__length_hint__" : String)=id0;(fail_if_success (clear hid id0));wp_delta;rw[show splitId id0=some ("list_reverseiterator", "__length_hint__") from by subst hid;decide +kernel];subst hid)
 refine wpAny_bind (wpAny_isInstance (b:=true) hT (by rw[isSubtype_type];kernel_rfl) ?_)
 rw[if_neg (by decide)]
 dsimp only
 split
 ·rw[if_neg (by decide +kernel)]
  refine wpAny_pure ?_
  rw[if_neg (by decide)]
  refine wpAny_pure ⟨plainId_quiet F.plain_extend_loop _,codeAny_extend_loopS W hn _ hSf _ n 0 _ _ _ rfl (Nat.zero_le _) hst hS (ItemsOf.nil P) fun s' acc' c' hm hS' hacc=>?_⟩
  exact hR s' acc' c' hm hS' hacc
 ·rename_i hs
  exact absurd (by decide +kernel) hs
theorem zA1 {l:Addr} {items:Array Value} (W:WalksS prog w A.in1 I fp wr G n P St) (hz:items.size<=sizeLine) (ho:s.heap.get? I=some (Qw l ((items.size:Int) - 1))) (hli:s.heap.IsList l items) (S:Addr) (hst:St 0 s) (hSf:S ∉ fp) (hI:I∈fp) (hlf:l∈fp)
  (hS:s.heap.get? S=some { cls:=.type "list",data:=.seq #[] })
  (hR:∀ s' acc' c',Moved (S::wr) G s s'->s'.heap.get? S=some { cls:=.type "list",dict:=none,data:=.seq acc' c',slots := #[] }->ItemsOf P acc' n->R (.ok (.ret .none)) s') (hn:n<=sizeLine:=by size_fits) :
  wpAny (model prog w) A.in1 (Builtin.«list.__init__» ⟨[.ref S,.ref I],[]⟩)
   (fun fin s'=>match fin with | .done f=>R (.ok f) s' | .again c'=>c'.quiet=true/\codeAny (model prog w) A c' R s') (fun e s'=>R (.error e) s') s:=by
 have hSI:S ≠ I:=fun e=>hSf (e ▸ hI)
 unfold Builtin.«list.__init__»
 dsimp only
 rw[if_neg (by decide),if_neg (by simp)]
 refine wpAny_bind ?_
 unfold Builtin.List.listItems
 refine wpAny_bind (wpAny_seqItems hS rfl (wpAny_pure ?_))
 refine wpAny_bind (wpAny_updateSeq hS rfl ?_)
 have hS₂:=Heap.get?_update_self (Obj.mapSeq (fun _=>(#[]:Array Value))) hS rfl
 have oth:∀ b o,b ≠ S->s.heap.get? b=some o->(s.heap.update S (Obj.mapSeq (fun _=>(#[]:Array Value)))).get? b=some o :=
  fun b o hb e=>(Heap.get?_update_other _ _ (Ne.symm hb)).trans e
 refine wpAny_bind (wpAny_letGo ?_)
 refine zEo (s:={ s with heap:=s.heap.update S (Obj.mapSeq (fun _=>(#[]:Array Value))) }) (hn:=hn) W hz (oth _ _ (Ne.symm hSI) ho) (hli.at fun o e=>oth _ _ (fun h=>hSf (h ▸ hlf)) e) S .none _ (W.frame 0 s _ s.toks hst (Nat.le_refl _) fun b hb o e=>oth b o (fun h=>hSf (h ▸ hb)) e) hSf hI hlf hS₂ fun s' acc' c' hm hS' hacc=>?_
 exact hR s' acc' c' (Moved.trans W.gtrans ((Moved.refl W.grefl).then_heap (Nat.le_refl _) fun b o hb e=>oth b o (fun h=>hb (h ▸ List.mem_cons_self)) e) hm) hS' hacc
theorem zBF {E:Value->Shared->Prop} {Q:Value->Shared->Prop} {l:Addr} {items:Array Value} (W:WalksS prog w A.in1.in1 I fp wr G n P St) (hz:items.size<=sizeLine) (ho:s.heap.get? I=some (Qw l ((items.size:Int) - 1))) (hli:s.heap.IsList l items) (hst:St 0 s) (hfp:∀ b∈fp,b < s.heap.objs.size) (hI:I∈fp) (hlf:l∈fp)
  (hQ:∀ s' acc' c',Moved (s.heap.objs.size::wr) G { s with heap:=s.heap.push { cls:=.type "list",data:=.seq #[] } } s' ->
   s'.heap.get? s.heap.objs.size=some { cls:=.type "list",dict:=none,data:=.seq acc' c',slots := #[] }->ItemsOf P acc' n->Q (.ref s.heap.objs.size) s') (hn:n<=sizeLine:=by size_fits) :
  wpAny (model prog w) A (call (.type "list") [.ref I]) Q E s:=by
 have hSf:s.heap.objs.size ∉ fp:=fun hm=>Nat.lt_irrefl _ (hfp _ hm)
 refine callType_codes (Q₁:=fun obj s₁=>obj=.ref s.heap.objs.size/\s₁={ s with heap:=s.heap.push { cls:=.type "list",data:=.seq #[] } }) F.called_list (F.typeCall_list_1 _) F.entry_list_init
  (code_list_new _ ⟨rfl,rfl⟩) fun obj s₁ h₁=>?_
 obtain⟨rfl,rfl⟩:=h₁
 have hS:(s.heap.push { cls:=.type "list",data:=.seq #[] }).get? s.heap.objs.size=some { cls:=.type "list",data:=.seq #[] }:=Heap.get?_push_size _ rfl
 refine⟨⟨_,hS,rfl⟩,F.args_list_init_2 _ _,zA1 (s:={ s with heap:=s.heap.push { cls:=.type "list",data:=.seq #[] } }) (hn:=hn) W hz (Heap.get?_push_of_some _ ho) (hli.at fun o e=>Heap.get?_push_of_some _ e) _ (W.frame 0 s _ s.toks hst (Nat.le_refl _) fun b _ o e=>Heap.get?_push_of_some _ e) hSf hI hlf hS fun s' acc' c' hm hS' hacc=>?_⟩
 exact⟨rfl,hQ s' acc' c' hm hS' hacc⟩
end
theorem Walks.listRv {prog:Program} {w:World} {A:Around} (hh:A.handled=none) (I l:Addr) (hne:l ≠ I) (items:Array Value) :
  Walks prog w A I [I,l] [I] items.size (fun i v=>items[items.size - 1 - i]? = some v) (fun i h=>i<=items.size/\h.get? I=some (Qw l ((items.size:Int) - 1 - (i:Int)))/\h.IsList l items) where
 sub:=fun b hb=>by simp at hb;simp[hb]
 frame:=fun _ _ _ x hk=>⟨x.1,hk I (by simp) _ x.2.1,x.2.2.at fun o e=>hk l (by simp) o e⟩
 item:=fun i s Q E hi x hQ=>by
  have e:(items.size:Int) - 1 - (i:Int)=((items.size - 1 - i:Nat):Int):=by omega
  have ho:=x.2.1
  rw[e] at ho
  have hx:items[items.size - 1 - i]? = some (items[items.size - 1 - i]'(by omega)):=Array.getElem?_eq_getElem (by omega)
  refine zA6 ho x.2.2 hx fun h' ho' hs'=>?_
  have e2:((items.size - 1 - i:Nat):Int) - 1=(items.size:Int) - 1 - ((i+1:Nat):Int):=by omega
  rw[e2] at ho'
  exact hQ _ h' s.toks hx ⟨hi,ho',x.2.2.extBut hs'.extBut hne⟩ fun b o hb eo=>hs'.extBut b o (fun h=>hb (by simp[h])) eo
 done:=fun s Q E x hQ=>by
  have e:(items.size:Int) - 1 - (items.size:Int) = -1:=by omega
  have ho:=x.2.1
  rw[e] at ho
  exact zCB hh ho fun h' he'=>hQ h' s.toks fun b o hb eo=>he' b o (fun h=>hb (by simp[h])) eo
 self:=fun _ _ _ _ x hQ=>zH7 x.2.1 hQ
end PySem
namespace L2
open PySem PySem.Spec PyProof.Rows
section
variable {X:Cx}
theorem zEL {xs:List V} {its:List Value} {acc:Array Value} (r:Vals xs its) (h:ItemsOf (fun i v=>its.toArray[its.toArray.size - 1 - i]? = some v) acc its.toArray.size):Vals xs.reverse acc.toList:=by
 have e:acc.toList=its.reverse:=by
  refine List.ext_getElem? fun i=>?_
  by_cases hi:i < its.length
  ·have hs:acc.size=its.length:=by have:=h.1;simpa using this
   have hia:i < acc.size:=by omega
   have h2:=h.2 i acc[i] (Array.getElem?_eq_getElem hia)
   rw[List.getElem?_reverse hi]
   have h3:its[its.length - 1 - i]? = some acc[i]:=by simpa using h2
   rw[h3]
   simp[hia]
  ·have hs:acc.size=its.length:=by have:=h.1;simpa using this
   rw[List.getElem?_eq_none (by simp;omega),List.getElem?_eq_none (by simp;omega)]
 rw[e]
 exact r.reverse
def zBb (te:TE):TE:=fun σ H Q=>te σ H fun x H1=>∃ a xs,x=.ref a/\H1 a=some (.lst xs)/\∀ l,H1 l=none->Q (.ref l) (upd H1 l (.lst xs.reverse))
theorem zDn {e:Expr} {te:TE} {p1 p2 pos1 pos2:Pos} (hc:X.calm=true) (hgL:Gl X "list") (hmL:X.mg "list" = none) (hgR:Gl X "reversed") (hmR:X.mg "reversed" = none) (he:PE X e te)
  (hs1:starEach [e] X.env=[(false,eval e X.env)]:=by rfl) (hs2:starEach [Expr.Call (.Name "reversed" p2) [e] [] pos2] X.env=[(false,eval (Expr.Call (.Name "reversed" p2) [e] [] pos2) X.env)]:=by rfl) :
  PE X (.Call (.Name "list" p1) [.Call (.Name "reversed" p2) [e] [] pos2] [] pos1) (zBb te):=by
 intro pins s σ H Q I h
 refine wpAny_Call_Name_kw (Zn I hgL hmL boot_list ?_)
 refine PyProof.Rows.callWith_type1 ?_ hs2 rfl
 rw[hs2]
 show wpAny _ _ (spliced ((false,eval (Expr.Call (.Name "reversed" p2) [e] [] pos2) X.env)::[])) _ _ s
 refine Calls.spliced_cons ?_
 refine wpAny_Call_Name_kw (Zn I hgR hmR boot_reversed ?_)
 refine PyProof.Rows.callWith_type1 ?_ hs1 rfl
 rw[hs1]
 show wpAny _ _ (spliced ((false,eval e X.env)::[])) _ _ s
 refine Calls.spliced_cons (thn (he pins s σ H _ I h) fun u s1 ⟨x,H1,I1,r1,a,xs,e1,hq,q⟩=>Calls.spliced_nil ?_)
 subst e1
 cases r1
 obtain⟨hz,its,n,r,eo⟩:=I1.hok a _ hq
 have hlen:=r.length
 have hal:a < s1.heap.objs.size:=Heap.lt_size eo
 have hzz:its.toArray.size<=sizeLine:=by rw[List.size_toArray];omega
 refine zBD eo (Calls.spliced_nil ?_)
 have ho:(s1.heap.push (Qw a ((its.toArray.size:Int) - 1))).get? s1.heap.objs.size=some (Qw a ((its.toArray.size:Int) - 1)):=Heap.get?_push_size _ rfl
 have hsz:(s1.heap.push (Qw a ((its.toArray.size:Int) - 1))).objs.size=s1.heap.objs.size+1:=Heap.size_push ..
 have hli:(s1.heap.push (Qw a ((its.toArray.size:Int) - 1))).IsList a its.toArray:=⟨_,Heap.get?_push_of_some _ eo,rfl,_,rfl⟩
 have W:=(Walks.listRv (prog:=X.prog) (w:=X.w) (A:=X.A.in1.in1) (I1.ok.hd hc) s1.heap.objs.size a (Nat.ne_of_lt hal) its.toArray).toS
 refine zDF (zBF (s:={ s1 with heap:=s1.heap.push (Qw a ((its.toArray.size:Int) - 1)) }) W hzz ho hli ⟨Nat.zero_le _,by rw[show ((its.toArray.size:Int) - 1 - ((0:Nat):Int))=(its.toArray.size:Int) - 1 from by omega];exact ho,hli⟩ (fun b hb=>by
   show _ < (s1.heap.push _).objs.size
   rw[hsz]
   rcases List.mem_cons.mp hb with z | z
   ·rw[z];exact Nat.lt_succ_self _
   ·rw[List.mem_singleton.mp z];exact Nat.lt_succ_of_lt hal) (by simp) (by simp) (fun s' acc' c' hm hS' hacc htk=>?_) hzz)
 have kp:∀ b o,s1.heap.get? b=some o->s'.heap.get? b=some o:=fun b o eb=>by
  have hb:=Heap.lt_size eb
  refine hm.heap b o (fun hmem=>?_) (Heap.get?_push_of_some _ (Heap.get?_push_of_some _ eb))
  have hmem':b∈[(s1.heap.push (Qw a ((its.toArray.size:Int) - 1))).objs.size,s1.heap.objs.size]:=hmem
  rw[hsz] at hmem'
  rcases List.mem_cons.mp hmem' with e2 | e2
  ·exact absurd e2 (Nat.ne_of_lt (Nat.lt_succ_of_lt hb))
  ·exact absurd (List.mem_singleton.mp e2) (Nat.ne_of_lt hb)
 have hS2:s'.heap.get? (s1.heap.objs.size+1)=some { cls:=.type "list",dict:=none,data:=.seq acc' c',slots := #[] }:=by rw[← hsz];exact hS'
 have I2:Inv X pins σ (upd H1 (s1.heap.objs.size+1) (.lst xs.reverse)) { s1 with heap:=s'.heap,toks:=s'.toks } :=
  I1.laid kp (Nat.le_succ _) ⟨by rw[List.length_reverse];exact hz,acc'.toList,c',zEL r hacc,by rw[hS2]⟩ (Nat.le_trans I1.tk htk)
 have es:s'={ s1 with heap:=s'.heap,toks:=s'.toks }:=by
  have h1:=hm.gens
  have h2:=hm.drawn
  have h3:=hm.os
  cases s'
  simp only at h1 h2 h3
  subst h1 h2 h3
  rfl
 rw[es]
 refine⟨.ref (s1.heap.objs.size+1),_,I2,?_,q _ (I1.hok.fresh (Nat.le_succ _))⟩
 show Value.ref _=Value.ref _
 rw[hsz]
end
end L2
namespace My
open PySem L2 PyProof.Rows
def top (i:Nat):Stmt:=PySem.Challenge.pw_slotbook_k45_whole_cells_without_history.main.body.getD i (.Pass ⟨0,0,0,0⟩)
abbrev zAW:Stmt:=top 11
abbrev JD:Stmt:=top 12
abbrev W7:Stmt:=top 13
abbrev Zv:Stmt:=top 14
abbrev Zj:Stmt:=top 15
abbrev JM:Stmt:=top 19
abbrev zEQ:Stmt:=top 20
abbrev zAh:Stmt:=top 22
abbrev zBv:Stmt:=top 23
abbrev zCL:Stmt:=top 26
abbrev ZD:Stmt:=top 27
abbrev Y0:Stmt:=top 28
abbrev WL:Stmt:=top 32
abbrev Yz:Stmt:=top 33
abbrev zB3:Stmt:=top 34
abbrev zAF:Stmt:=top 36
abbrev WO:Stmt:=top 37
abbrev Ze:Stmt:=Qs (top 39) 0
abbrev WK:Stmt:=Qs (top 39) 1
abbrev zEW:Stmt:=Qs (top 39) 2
abbrev zEf:Stmt:=Qs (top 39) 5
abbrev zCU:Stmt:=Qs (top 39) 6
abbrev ZG:Stmt:=Qs (top 39) 7
abbrev zFZ:Stmt:=Qs (top 39) 9
abbrev zAU:Stmt:=Qs (top 39) 10
abbrev zAY:Stmt:=Qs (top 39) 12
abbrev zCH:Stmt:=Qs (top 39) 14
abbrev WM:Stmt:=Qs (top 39) 16
abbrev zAc:Stmt:=Qs (top 39) 17
abbrev Yy:Stmt:=Qs (top 39) 18
abbrev zB0:Stmt:=Qs (top 39) 19
abbrev ZE:Stmt:=Qs (top 39) 21
abbrev zAB:Stmt:=Qs (top 39) 22
abbrev JJ:Stmt:=top 41
abbrev Y1:Stmt:=top 42
abbrev Yl:Stmt:=top 43
abbrev YG:Stmt:=top 44
abbrev Zc:Stmt:=top 45
abbrev YY:Stmt:=top 46
abbrev WY:Stmt:=top 48
abbrev zAV:Stmt:=top 49
abbrev zBx:Stmt:=top 50
abbrev J7:Stmt:=top 51
abbrev zB7:Stmt:=top 52
abbrev zCS:Stmt:=top 53
abbrev WR:Stmt:=top 54
abbrev zEn:Stmt:=top 55
abbrev Yw:Stmt:=top 56
abbrev zCD:Stmt:=top 57
abbrev JH:Stmt:=top 58
abbrev JF:Stmt:=top 59
abbrev zCj:Stmt:=top 60
abbrev WX:Stmt:=top 61
abbrev Wl:Stmt:=top 62
set_option genInjectivity false in
set_option genSizeOfSpec false in
structure Ad where
 f_is_key:Addr
 d_is_key:FuncData
 f_checked:Addr
 d_checked:FuncData
 f_is_part:Addr
 d_is_part:FuncData
 f_are_parts:Addr
 d_are_parts:FuncData
 f_is_number:Addr
 d_is_number:FuncData
 f_is_size:Addr
 d_is_size:FuncData
 f_room:Addr
 d_room:FuncData
 f_stride:Addr
 d_stride:FuncData
 f_probe:Addr
 d_probe:FuncData
 f_stamp:Addr
 d_stamp:FuncData
 f_text_stamp:Addr
 d_text_stamp:FuncData
 f_tuple_stamp:Addr
 d_tuple_stamp:FuncData
 f_cells_of:Addr
 d_cells_of:FuncData
 f_first_empty:Addr
 d_first_empty:FuncData
 f_paper:Addr
 d_paper:FuncData
 f_is_end:Addr
 d_is_end:FuncData
 f_place_of:Addr
 d_place_of:FuncData
 f_H__init__:Addr
 d_H__init__:FuncData
 f_Hlay_out:Addr
 d_Hlay_out:FuncData
 f_Hput:Addr
 d_Hput:FuncData
 f_Hhas:Addr
 d_Hhas:FuncData
 f_Htake:Addr
 d_Htake:FuncData
 f_Htake_last:Addr
 d_Htake_last:FuncData
 f_Hmany:Addr
 d_Hmany:FuncData
 f_Hpairs:Addr
 d_Hpairs:FuncData
 f_Hahead:Addr
 d_Hahead:FuncData
 f_Hform:Addr
 d_Hform:FuncData
 f_Hentries:Addr
 d_Hentries:FuncData
 f_Hplace:Addr
 d_Hplace:FuncData
 f_Hsure_place:Addr
 d_Hsure_place:FuncData
 f_Hcome:Addr
 d_Hcome:FuncData
 f_Hmake_room:Addr
 d_Hmake_room:FuncData
 f_Hwrite:Addr
 d_Hwrite:FuncData
 f_in_form:Addr
 d_in_form:FuncData
 f_numbers_fit:Addr
 d_numbers_fit:FuncData
 f_no_two_alike:Addr
 d_no_two_alike:FuncData
 f_each_in_one_cell:Addr
 d_each_in_one_cell:FuncData
 f_each_found:Addr
 d_each_found:FuncData
 f_places_of_keys:Addr
 d_places_of_keys:FuncData
 f_Lcell_at:Addr
 d_Lcell_at:FuncData
 f_Lwhole:Addr
 d_Lwhole:FuncData
 f_Ltext:Addr
 d_Ltext:FuncData
 f_Lstamp:Addr
 d_Lstamp:FuncData
 f_Lstep:Addr
 d_Lstep:FuncData
 f_Lleaf:Addr
 d_Lleaf:FuncData
 f_Lany_key:Addr
 d_Lany_key:FuncData
 f_Lkey:Addr
 d_Lkey:FuncData
 f_Lfirst_bare:Addr
 d_Lfirst_bare:FuncData
 f_Lcame:Addr
 d_Lcame:FuncData
 f_Lwalked:Addr
 d_Lwalked:FuncData
 f_Lsecond:Addr
 d_Lsecond:FuncData
 f_Llaid:Addr
 d_Llaid:FuncData
 f_Lis_form:Addr
 d_Lis_form:FuncData
 f_law:Addr
 d_law:FuncData
 t_DEEPEST:Tok
 t_EMPTY:Tok
 t_GONE:Tok
 t_GREATEST:Tok
 t_LEAST:Tok
 t_MOST_PARTS:Tok
 t_MOST_SIGNS:Tok
 t_TURN:Tok
 a_Full:Addr
 a_Lacking:Addr
 a_Shelf:Addr
 u_H__init___0:Tok
structure Txt (K:W.Frag) (mg:Str->Option Value) (a:Ad):Prop where
 F_is_key:Fun K "is_key" "is_key" zAW a.f_is_key a.d_is_key
 b_is_key:Binds K a.d_is_key ["thing"] []
 m_is_key:mg "is_key" = some (.ref a.f_is_key)
 F_checked:Fun K "checked" "checked" JD a.f_checked a.d_checked
 b_checked:Binds K a.d_checked ["thing"] []
 m_checked:mg "checked" = some (.ref a.f_checked)
 F_is_part:Fun K "is_part" "is_part" W7 a.f_is_part a.d_is_part
 b_is_part:Binds K a.d_is_part ["thing", "levels"] []
 m_is_part:mg "is_part" = some (.ref a.f_is_part)
 F_are_parts:Fun K "are_parts" "are_parts" Zv a.f_are_parts a.d_are_parts
 b_are_parts:Binds K a.d_are_parts ["things", "levels"] []
 m_are_parts:mg "are_parts" = some (.ref a.f_are_parts)
 F_is_number:Fun K "is_number" "is_number" Zj a.f_is_number a.d_is_number
 b_is_number:Binds K a.d_is_number ["thing"] []
 m_is_number:mg "is_number" = some (.ref a.f_is_number)
 F_is_size:Fun K "is_size" "is_size" JM a.f_is_size a.d_is_size
 b_is_size:Binds K a.d_is_size ["thing"] []
 m_is_size:mg "is_size" = some (.ref a.f_is_size)
 F_room:Fun K "room" "room" zEQ a.f_room a.d_room
 b_room:Binds K a.d_room ["size"] []
 m_room:mg "room" = some (.ref a.f_room)
 F_stride:Fun K "stride" "stride" zAh a.f_stride a.d_stride
 b_stride:Binds K a.d_stride ["stamp"] []
 m_stride:mg "stride" = some (.ref a.f_stride)
 F_probe:Fun K "probe" "probe" zBv a.f_probe a.d_probe
 b_probe:Binds K a.d_probe ["stamp", "size", "count"] []
 m_probe:mg "probe" = some (.ref a.f_probe)
 F_stamp:Fun K "stamp" "stamp" zCL a.f_stamp a.d_stamp
 b_stamp:Binds K a.d_stamp ["key"] []
 m_stamp:mg "stamp" = some (.ref a.f_stamp)
 F_text_stamp:Fun K "text_stamp" "text_stamp" ZD a.f_text_stamp a.d_text_stamp
 b_text_stamp:Binds K a.d_text_stamp ["text"] []
 m_text_stamp:mg "text_stamp" = some (.ref a.f_text_stamp)
 F_tuple_stamp:Fun K "tuple_stamp" "tuple_stamp" Y0 a.f_tuple_stamp a.d_tuple_stamp
 b_tuple_stamp:Binds K a.d_tuple_stamp ["parts"] []
 m_tuple_stamp:mg "tuple_stamp" = some (.ref a.f_tuple_stamp)
 F_cells_of:Fun K "cells_of" "cells_of" WL a.f_cells_of a.d_cells_of
 b_cells_of:Binds K a.d_cells_of ["row", "size"] []
 m_cells_of:mg "cells_of" = some (.ref a.f_cells_of)
 F_first_empty:Fun K "first_empty" "first_empty" Yz a.f_first_empty a.d_first_empty
 b_first_empty:Binds K a.d_first_empty ["cells", "key"] []
 m_first_empty:mg "first_empty" = some (.ref a.f_first_empty)
 F_paper:Fun K "paper" "paper" zB3 a.f_paper a.d_paper
 b_paper:Binds K a.d_paper ["cells", "row", "key"] []
 m_paper:mg "paper" = some (.ref a.f_paper)
 F_is_end:Fun K "is_end" "is_end" zAF a.f_is_end a.d_is_end
 b_is_end:Binds K a.d_is_end ["cell", "row", "key"] []
 m_is_end:mg "is_end" = some (.ref a.f_is_end)
 F_place_of:Fun K "place_of" "place_of" WO a.f_place_of a.d_place_of
 b_place_of:Binds K a.d_place_of ["cells", "row", "key"] []
 m_place_of:mg "place_of" = some (.ref a.f_place_of)
 F_H__init__:FunD K "__init__" "Shelf.__init__" Ze a.f_H__init__ a.d_H__init__ [.int 8 a.u_H__init___0]
 b_H__init___0:Binds K a.d_H__init__ ["self", "size"] []
 b_H__init___1:Binds K a.d_H__init__ ["self", "size"] [.int 8 a.u_H__init___0]
 M_H__init__:Meth K a.a_Shelf "__init__" a.f_H__init__
 F_Hlay_out:Fun K "lay_out" "Shelf.lay_out" WK a.f_Hlay_out a.d_Hlay_out
 b_Hlay_out:Binds K a.d_Hlay_out ["self", "size", "row", "held", "comings"] []
 M_Hlay_out:Meth K a.a_Shelf "lay_out" a.f_Hlay_out
 F_Hput:Fun K "put" "Shelf.put" zEW a.f_Hput a.d_Hput
 b_Hput:Binds K a.d_Hput ["self", "key", "value"] []
 M_Hput:Meth K a.a_Shelf "put" a.f_Hput
 F_Hhas:Fun K "has" "Shelf.has" zEf a.f_Hhas a.d_Hhas
 b_Hhas:Binds K a.d_Hhas ["self", "key"] []
 M_Hhas:Meth K a.a_Shelf "has" a.f_Hhas
 F_Htake:Fun K "take" "Shelf.take" zCU a.f_Htake a.d_Htake
 b_Htake:Binds K a.d_Htake ["self", "key"] []
 M_Htake:Meth K a.a_Shelf "take" a.f_Htake
 F_Htake_last:Fun K "take_last" "Shelf.take_last" ZG a.f_Htake_last a.d_Htake_last
 b_Htake_last:Binds K a.d_Htake_last ["self"] []
 M_Htake_last:Meth K a.a_Shelf "take_last" a.f_Htake_last
 F_Hmany:Fun K "many" "Shelf.many" zFZ a.f_Hmany a.d_Hmany
 b_Hmany:Binds K a.d_Hmany ["self"] []
 M_Hmany:Meth K a.a_Shelf "many" a.f_Hmany
 F_Hpairs:Fun K "pairs" "Shelf.pairs" zAU a.f_Hpairs a.d_Hpairs
 b_Hpairs:Binds K a.d_Hpairs ["self"] []
 M_Hpairs:Meth K a.a_Shelf "pairs" a.f_Hpairs
 F_Hahead:Fun K "ahead" "Shelf.ahead" zAY a.f_Hahead a.d_Hahead
 b_Hahead:Binds K a.d_Hahead ["self", "number"] []
 M_Hahead:Meth K a.a_Shelf "ahead" a.f_Hahead
 F_Hform:Fun K "form" "Shelf.form" zCH a.f_Hform a.d_Hform
 b_Hform:Binds K a.d_Hform ["self"] []
 M_Hform:Meth K a.a_Shelf "form" a.f_Hform
 F_Hentries:Fun K "entries" "Shelf.entries" WM a.f_Hentries a.d_Hentries
 b_Hentries:Binds K a.d_Hentries ["self"] []
 M_Hentries:Meth K a.a_Shelf "entries" a.f_Hentries
 F_Hplace:Fun K "place" "Shelf.place" zAc a.f_Hplace a.d_Hplace
 b_Hplace:Binds K a.d_Hplace ["self", "key"] []
 M_Hplace:Meth K a.a_Shelf "place" a.f_Hplace
 F_Hsure_place:Fun K "sure_place" "Shelf.sure_place" Yy a.f_Hsure_place a.d_Hsure_place
 b_Hsure_place:Binds K a.d_Hsure_place ["self", "key"] []
 M_Hsure_place:Meth K a.a_Shelf "sure_place" a.f_Hsure_place
 F_Hcome:Fun K "come" "Shelf.come" zB0 a.f_Hcome a.d_Hcome
 b_Hcome:Binds K a.d_Hcome ["self", "key", "value"] []
 M_Hcome:Meth K a.a_Shelf "come" a.f_Hcome
 F_Hmake_room:Fun K "make_room" "Shelf.make_room" ZE a.f_Hmake_room a.d_Hmake_room
 b_Hmake_room:Binds K a.d_Hmake_room ["self"] []
 M_Hmake_room:Meth K a.a_Shelf "make_room" a.f_Hmake_room
 F_Hwrite:Fun K "write" "Shelf.write" zAB a.f_Hwrite a.d_Hwrite
 b_Hwrite:Binds K a.d_Hwrite ["self", "key", "cell"] []
 M_Hwrite:Meth K a.a_Shelf "write" a.f_Hwrite
 F_in_form:Fun K "in_form" "in_form" JJ a.f_in_form a.d_in_form
 b_in_form:Binds K a.d_in_form ["cells", "row"] []
 m_in_form:mg "in_form" = some (.ref a.f_in_form)
 F_numbers_fit:Fun K "numbers_fit" "numbers_fit" Y1 a.f_numbers_fit a.d_numbers_fit
 b_numbers_fit:Binds K a.d_numbers_fit ["cells", "row"] []
 m_numbers_fit:mg "numbers_fit" = some (.ref a.f_numbers_fit)
 F_no_two_alike:Fun K "no_two_alike" "no_two_alike" Yl a.f_no_two_alike a.d_no_two_alike
 b_no_two_alike:Binds K a.d_no_two_alike ["row"] []
 m_no_two_alike:mg "no_two_alike" = some (.ref a.f_no_two_alike)
 F_each_in_one_cell:Fun K "each_in_one_cell" "each_in_one_cell" YG a.f_each_in_one_cell a.d_each_in_one_cell
 b_each_in_one_cell:Binds K a.d_each_in_one_cell ["cells", "row"] []
 m_each_in_one_cell:mg "each_in_one_cell" = some (.ref a.f_each_in_one_cell)
 F_each_found:Fun K "each_found" "each_found" Zc a.f_each_found a.d_each_found
 b_each_found:Binds K a.d_each_found ["cells", "row"] []
 m_each_found:mg "each_found" = some (.ref a.f_each_found)
 F_places_of_keys:Fun K "places_of_keys" "places_of_keys" YY a.f_places_of_keys a.d_places_of_keys
 b_places_of_keys:Binds K a.d_places_of_keys ["row"] []
 m_places_of_keys:mg "places_of_keys" = some (.ref a.f_places_of_keys)
 F_Lcell_at:Fun K "_law_cell_at" "_law_cell_at" WY a.f_Lcell_at a.d_Lcell_at
 b_Lcell_at:Binds K a.d_Lcell_at ["_law_script", "_law_k"] []
 m_Lcell_at:mg "_law_cell_at" = some (.ref a.f_Lcell_at)
 F_Lwhole:Fun K "_law_whole" "_law_whole" zAV a.f_Lwhole a.d_Lwhole
 b_Lwhole:Binds K a.d_Lwhole ["_law_found"] []
 m_Lwhole:mg "_law_whole" = some (.ref a.f_Lwhole)
 F_Ltext:Fun K "_law_text" "_law_text" zBx a.f_Ltext a.d_Ltext
 b_Ltext:Binds K a.d_Ltext ["_law_number", "_law_size"] []
 m_Ltext:mg "_law_text" = some (.ref a.f_Ltext)
 F_Lstamp:Fun K "_law_stamp" "_law_stamp" J7 a.f_Lstamp a.d_Lstamp
 b_Lstamp:Binds K a.d_Lstamp ["_law_key_here"] []
 m_Lstamp:mg "_law_stamp" = some (.ref a.f_Lstamp)
 F_Lstep:Fun K "_law_step" "_law_step" zB7 a.f_Lstep a.d_Lstep
 b_Lstep:Binds K a.d_Lstep ["_law_mark"] []
 m_Lstep:mg "_law_step" = some (.ref a.f_Lstep)
 F_Lleaf:Fun K "_law_leaf" "_law_leaf" zCS a.f_Lleaf a.d_Lleaf
 b_Lleaf:Binds K a.d_Lleaf ["_law_number"] []
 m_Lleaf:mg "_law_leaf" = some (.ref a.f_Lleaf)
 F_Lany_key:Fun K "_law_any_key" "_law_any_key" WR a.f_Lany_key a.d_Lany_key
 b_Lany_key:Binds K a.d_Lany_key ["_law_number"] []
 m_Lany_key:mg "_law_any_key" = some (.ref a.f_Lany_key)
 F_Lkey:Fun K "_law_key" "_law_key" zEn a.f_Lkey a.d_Lkey
 b_Lkey:Binds K a.d_Lkey ["_law_way", "_law_base", "_law_j"] []
 m_Lkey:mg "_law_key" = some (.ref a.f_Lkey)
 F_Lfirst_bare:Fun K "_law_first_bare" "_law_first_bare" Yw a.f_Lfirst_bare a.d_Lfirst_bare
 b_Lfirst_bare:Binds K a.d_Lfirst_bare ["_law_cells", "_law_key_here"] []
 m_Lfirst_bare:mg "_law_first_bare" = some (.ref a.f_Lfirst_bare)
 F_Lcame:Fun K "_law_came" "_law_came" zCD a.f_Lcame a.d_Lcame
 b_Lcame:Binds K a.d_Lcame ["_law_shelf", "_law_way", "_law_key_here"] []
 m_Lcame:mg "_law_came" = some (.ref a.f_Lcame)
 F_Lwalked:Fun K "_law_walked" "_law_walked" JH a.f_Lwalked a.d_Lwalked
 b_Lwalked:Binds K a.d_Lwalked ["_law_shelf", "_law_script", "_law_way", "_law_base", "_law_pool"] []
 m_Lwalked:mg "_law_walked" = some (.ref a.f_Lwalked)
 F_Lsecond:Fun K "_law_second" "_law_second" JF a.f_Lsecond a.d_Lsecond
 b_Lsecond:Binds K a.d_Lsecond ["_law_shelf", "_law_comings", "_law_there", "_law_turned"] []
 m_Lsecond:mg "_law_second" = some (.ref a.f_Lsecond)
 F_Llaid:Fun K "_law_laid" "_law_laid" zCj a.f_Llaid a.d_Llaid
 b_Llaid:Binds K a.d_Llaid ["_law_comings", "_law_there", "_law_size"] []
 m_Llaid:mg "_law_laid" = some (.ref a.f_Llaid)
 F_Lis_form:Fun K "_law_is_form" "_law_is_form" WX a.f_Lis_form a.d_Lis_form
 b_Lis_form:Binds K a.d_Lis_form ["_law_found", "_law_size"] []
 m_Lis_form:mg "_law_is_form" = some (.ref a.f_Lis_form)
 F_law:Fun K "law" "law" Wl a.f_law a.d_law
 b_law:Binds K a.d_law ["_law_script"] []
 m_law:mg "law" = some (.ref a.f_law)
 m_paper_slots:mg "paper_slots" = some (.ref a.f_paper)
 cl_Shelf:Cls K a.a_Shelf
 mk_Shelf:Mk K a.a_Shelf a.f_H__init__
 m_Shelf:mg "Shelf" = some (.ref a.a_Shelf)
 n_Hcame:NoAttr K a.a_Shelf "came"
 n_Hcells:NoAttr K a.a_Shelf "cells"
 n_Hcomings:NoAttr K a.a_Shelf "comings"
 n_Hheld:NoAttr K a.a_Shelf "held"
 n_Hmoved:NoAttr K a.a_Shelf "moved"
 n_Hrow:NoAttr K a.a_Shelf "row"
 n_Hsize:NoAttr K a.a_Shelf "size"
 n_Htidyings:NoAttr K a.a_Shelf "tidyings"
 n_Hwent:NoAttr K a.a_Shelf "went"
 z_all:mg "all" = none
 z_bool:mg "bool" = none
 z_enumerate:mg "enumerate" = none
 z_int:mg "int" = none
 z_isinstance:mg "isinstance" = none
 z_len:mg "len" = none
 z_list:mg "list" = none
 z_ord:mg "ord" = none
 z_range:mg "range" = none
 z_reversed:mg "reversed" = none
 z_set:mg "set" = none
 z_sorted:mg "sorted" = none
 z_str:mg "str" = none
 z_tuple:mg "tuple" = none
 z_zip:mg "zip" = none
 c_DEEPEST:mg "DEEPEST" = some (.int 3 (a.t_DEEPEST+1))
 c_EMPTY:mg "EMPTY" = some (.int (-1) (a.t_EMPTY+1))
 c_GONE:mg "GONE" = some (.int (-2) (a.t_GONE+1))
 c_GREATEST:mg "GREATEST" = some (.int 4096 (a.t_GREATEST+1))
 c_LEAST:mg "LEAST" = some (.int 8 (a.t_LEAST+1))
 c_MOST_PARTS:mg "MOST_PARTS" = some (.int 6 (a.t_MOST_PARTS+1))
 c_MOST_SIGNS:mg "MOST_SIGNS" = some (.int 60 (a.t_MOST_SIGNS+1))
 c_TURN:mg "TURN" = some (.int 2147483647 (a.t_TURN+1))
 m_Full:mg "Full" = some (.ref a.a_Full)
 x_Full:∃ bm,XC K a.a_Full bm
 m_Lacking:mg "Lacking" = some (.ref a.a_Lacking)
 x_Lacking:∃ bm,XC K a.a_Lacking bm
 i_Full:XI K a.a_Full
 k_Full:W.kitOne K (.ref a.a_Full) (.type "ValueError")=some true
 k_Full_Full:W.kitOne K (.ref a.a_Full) (.ref a.a_Full)=some true
 s_Full_Full:W.mroIn K a.a_Full (.ref a.a_Full)=some true
 k_Full_Lacking:W.kitOne K (.ref a.a_Full) (.ref a.a_Lacking)=some false
 s_Full_Lacking:W.mroIn K a.a_Full (.ref a.a_Lacking)=some false
 i_Lacking:XI K a.a_Lacking
 k_Lacking:W.kitOne K (.ref a.a_Lacking) (.type "ValueError")=some true
 k_Lacking_Full:W.kitOne K (.ref a.a_Lacking) (.ref a.a_Full)=some false
 s_Lacking_Full:W.mroIn K a.a_Lacking (.ref a.a_Full)=some false
 k_Lacking_Lacking:W.kitOne K (.ref a.a_Lacking) (.ref a.a_Lacking)=some true
 s_Lacking_Lacking:W.mroIn K a.a_Lacking (.ref a.a_Lacking)=some true
abbrev zH3:List Str:=["thing"]
abbrev J3:List Str:=["thing"]
theorem sc_is_key:FnScope zH3 J3 (QI zAW):=⟨rfl,rfl,rfl,by decide +kernel,rfl,by decide +kernel,by decide +kernel⟩
abbrev zFp:List Str:=["thing"]
abbrev Y9:List Str:=["thing"]
theorem sc_checked:FnScope zFp Y9 (QI JD):=⟨rfl,rfl,rfl,by decide +kernel,rfl,by decide +kernel,by decide +kernel⟩
abbrev zF1:List Str:=["thing", "levels"]
abbrev Y8:List Str:=["thing", "levels"]
theorem sc_is_part:FnScope zF1 Y8 (QI W7):=⟨rfl,rfl,rfl,by decide +kernel,rfl,by decide +kernel,by decide +kernel⟩
abbrev zCy:List Str:=["things", "levels"]
abbrev Zr:List Str:=["things", "levels"]
theorem sc_are_parts:FnScope zCy Zr (QI Zv):=⟨rfl,rfl,rfl,by decide +kernel,rfl,by decide +kernel,by decide +kernel⟩
abbrev zDK:List Str:=["thing"]
abbrev Yb:List Str:=["thing"]
theorem sc_is_number:FnScope zDK Yb (QI Zj):=⟨rfl,rfl,rfl,by decide +kernel,rfl,by decide +kernel,by decide +kernel⟩
abbrev zGJ:List Str:=["thing"]
abbrev Z0:List Str:=["thing"]
theorem sc_is_size:FnScope zGJ Z0 (QI JM):=⟨rfl,rfl,rfl,by decide +kernel,rfl,by decide +kernel,by decide +kernel⟩
abbrev zKf:List Str:=["size"]
abbrev zAd:List Str:=["size"]
theorem sc_room:FnScope zKf zAd (QI zEQ):=⟨rfl,rfl,rfl,by decide +kernel,rfl,by decide +kernel,by decide +kernel⟩
abbrev zHi:List Str:=["stamp"]
abbrev zAI:List Str:=["stamp"]
theorem sc_stride:FnScope zHi zAI (QI zAh):=⟨rfl,rfl,rfl,by decide +kernel,rfl,by decide +kernel,by decide +kernel⟩
abbrev zJT:List Str:=["stamp", "size", "count"]
abbrev Jh:List Str:=["stamp", "size", "count"]
theorem sc_probe:FnScope zJT Jh (QI zBv):=⟨rfl,rfl,rfl,by decide +kernel,rfl,by decide +kernel,by decide +kernel⟩
abbrev zIv:List Str:=["key"]
abbrev Z6:List Str:=["key"]
theorem sc_stamp:FnScope zIv Z6 (QI zCL):=⟨rfl,rfl,rfl,by decide +kernel,rfl,by decide +kernel,by decide +kernel⟩
abbrev zB9:List Str:=["text", "reckoned", "sign"]
abbrev ZZ:List Str:=["text"]
theorem sc_text_stamp:FnScope zB9 ZZ (QI ZD):=⟨rfl,rfl,rfl,by decide +kernel,rfl,by decide +kernel,by decide +kernel⟩
abbrev zA2:List Str:=["parts", "reckoned", "part"]
abbrev Yv:List Str:=["parts"]
theorem sc_tuple_stamp:FnScope zA2 Yv (QI Y0):=⟨rfl,rfl,rfl,by decide +kernel,rfl,by decide +kernel,by decide +kernel⟩
abbrev zEi:List Str:=["row", "size", "cells", "place", "key"]
abbrev WN:List Str:=["row", "size"]
theorem sc_cells_of:FnScope zEi WN (QI WL):=⟨rfl,rfl,rfl,by decide +kernel,rfl,by decide +kernel,by decide +kernel⟩
abbrev zBE:List Str:=["cells", "key", "mark", "count", "slot"]
abbrev Y4:List Str:=["cells", "key"]
theorem sc_first_empty:FnScope zBE Y4 (QI Yz):=⟨rfl,rfl,rfl,by decide +kernel,rfl,by decide +kernel,by decide +kernel⟩
abbrev zIj:List Str:=["cells", "row", "key", "mark", "pairs", "count", "slot"]
abbrev Jy:List Str:=["cells", "row", "key"]
theorem sc_paper:FnScope zIj Jy (QI zB3):=⟨rfl,rfl,rfl,by decide +kernel,rfl,by decide +kernel,by decide +kernel⟩
abbrev zIH:List Str:=["cell", "row", "key"]
abbrev zAo:List Str:=["cell", "row", "key"]
theorem sc_is_end:FnScope zIH zAo (QI zAF):=⟨rfl,rfl,rfl,by decide +kernel,rfl,by decide +kernel,by decide +kernel⟩
abbrev zEI:List Str:=["cells", "row", "key", "pairs", "cell"]
abbrev ZC:List Str:=["cells", "row", "key"]
theorem sc_place_of:FnScope zEI ZC (QI WO):=⟨rfl,rfl,rfl,by decide +kernel,rfl,by decide +kernel,by decide +kernel⟩
abbrev zDP:List Str:=["self", "size"]
abbrev Ya:List Str:=["self", "size"]
theorem sc_H__init__:FnScope zDP Ya (QI Ze):=⟨rfl,rfl,rfl,by decide +kernel,rfl,by decide +kernel,by decide +kernel⟩
abbrev zEE:List Str:=["self", "size", "row", "held", "comings"]
abbrev WT:List Str:=["self", "size", "row", "held", "comings"]
theorem sc_Hlay_out:FnScope zEE WT (QI WK):=⟨rfl,rfl,rfl,by decide +kernel,rfl,by decide +kernel,by decide +kernel⟩
abbrev zKh:List Str:=["self", "key", "value", "place"]
abbrev zCi:List Str:=["self", "key", "value"]
theorem sc_Hput:FnScope zKh zCi (QI zEW):=⟨rfl,rfl,rfl,by decide +kernel,rfl,by decide +kernel,by decide +kernel⟩
abbrev zLI:List Str:=["self", "key"]
abbrev zEj:List Str:=["self", "key"]
theorem sc_Hhas:FnScope zLI zEj (QI zEf):=⟨rfl,rfl,rfl,by decide +kernel,rfl,by decide +kernel,by decide +kernel⟩
abbrev zIt:List Str:=["self", "key", "place", "value"]
abbrev We:List Str:=["self", "key"]
theorem sc_Htake:FnScope zIt We (QI zCU):=⟨rfl,rfl,rfl,by decide +kernel,rfl,by decide +kernel,by decide +kernel⟩
abbrev zCq:List Str:=["self", "last", "key"]
abbrev ZV:List Str:=["self"]
theorem sc_Htake_last:FnScope zCq ZV (QI ZG):=⟨rfl,rfl,rfl,by decide +kernel,rfl,by decide +kernel,by decide +kernel⟩
abbrev zHG:List Str:=["self"]
abbrev zAC:List Str:=["self"]
theorem sc_Hpairs:FnScope zHG zAC (QI zAU):=⟨rfl,rfl,rfl,by decide +kernel,rfl,by decide +kernel,by decide +kernel⟩
abbrev zHt:List Str:=["self", "number", "sooner"]
abbrev zAg:List Str:=["self", "number"]
theorem sc_Hahead:FnScope zHt zAg (QI zAY):=⟨rfl,rfl,rfl,by decide +kernel,rfl,by decide +kernel,by decide +kernel⟩
abbrev zJs:List Str:=["self"]
abbrev Jw:List Str:=["self"]
theorem sc_Hform:FnScope zJs Jw (QI zCH):=⟨rfl,rfl,rfl,by decide +kernel,rfl,by decide +kernel,by decide +kernel⟩
abbrev zES:List Str:=["self"]
abbrev ZJ:List Str:=["self"]
theorem sc_Hentries:FnScope zES ZJ (QI WM):=⟨rfl,rfl,rfl,by decide +kernel,rfl,by decide +kernel,by decide +kernel⟩
abbrev zIK:List Str:=["self", "key"]
abbrev Zf:List Str:=["self", "key"]
theorem sc_Hplace:FnScope zIK Zf (QI zAc):=⟨rfl,rfl,rfl,by decide +kernel,rfl,by decide +kernel,by decide +kernel⟩
abbrev zAx:List Str:=["self", "key", "place"]
abbrev Y2:List Str:=["self", "key"]
theorem sc_Hsure_place:FnScope zAx Y2 (QI Yy):=⟨rfl,rfl,rfl,by decide +kernel,rfl,by decide +kernel,by decide +kernel⟩
abbrev zJX:List Str:=["self", "key", "value"]
abbrev zB1:List Str:=["self", "key", "value"]
theorem sc_Hcome:FnScope zJX zB1 (QI zB0):=⟨rfl,rfl,rfl,by decide +kernel,rfl,by decide +kernel,by decide +kernel⟩
abbrev zCI:List Str:=["self"]
abbrev ZM:List Str:=["self"]
theorem sc_Hmake_room:FnScope zCI ZM (QI ZE):=⟨rfl,rfl,rfl,by decide +kernel,rfl,by decide +kernel,by decide +kernel⟩
abbrev zHI:List Str:=["self", "key", "cell", "pairs"]
abbrev Wx:List Str:=["self", "key", "cell"]
theorem sc_Hwrite:FnScope zHI Wx (QI zAB):=⟨rfl,rfl,rfl,by decide +kernel,rfl,by decide +kernel,by decide +kernel⟩
abbrev zFx:List Str:=["cells", "row"]
abbrev JN:List Str:=["cells", "row"]
theorem sc_in_form:FnScope zFx JN (QI JJ):=⟨rfl,rfl,rfl,by decide +kernel,rfl,by decide +kernel,by decide +kernel⟩
abbrev zA7:List Str:=["cells", "row", "size"]
abbrev Yx:List Str:=["cells", "row"]
theorem sc_numbers_fit:FnScope zA7 Yx (QI Y1):=⟨rfl,rfl,rfl,by decide +kernel,rfl,by decide +kernel,by decide +kernel⟩
abbrev zAl:List Str:=["row", "keys"]
abbrev Yk:List Str:=["row"]
theorem sc_no_two_alike:FnScope zAl Yk (QI Yl):=⟨rfl,rfl,rfl,by decide +kernel,rfl,by decide +kernel,by decide +kernel⟩
abbrev WP:List Str:=["cells", "row", "held"]
abbrev YE:List Str:=["cells", "row"]
theorem sc_each_in_one_cell:FnScope WP YE (QI YG):=⟨rfl,rfl,rfl,by decide +kernel,rfl,by decide +kernel,by decide +kernel⟩
abbrev zCo:List Str:=["cells", "row"]
abbrev ZB:List Str:=["cells", "row"]
theorem sc_each_found:FnScope zCo ZB (QI Zc):=⟨rfl,rfl,rfl,by decide +kernel,rfl,by decide +kernel,by decide +kernel⟩
abbrev W9:List Str:=["row"]
abbrev YB:List Str:=["row"]
theorem sc_places_of_keys:FnScope W9 YB (QI YY):=⟨rfl,rfl,rfl,by decide +kernel,rfl,by decide +kernel,by decide +kernel⟩
abbrev zD7:List Str:=["_law_script", "_law_k"]
abbrev WS:List Str:=["_law_script", "_law_k"]
theorem sc_Lcell_at:FnScope zD7 WS (QI WY):=⟨rfl,rfl,rfl,by decide +kernel,rfl,by decide +kernel,by decide +kernel⟩
abbrev zGu:List Str:=["_law_found"]
abbrev zAb:List Str:=["_law_found"]
theorem sc_Lwhole:FnScope zGu zAb (QI zAV):=⟨rfl,rfl,rfl,by decide +kernel,rfl,by decide +kernel,by decide +kernel⟩
abbrev zIi:List Str:=["_law_number", "_law_size", "_law_some", "_law_found", "_law_k"]
abbrev W2:List Str:=["_law_number", "_law_size"]
theorem sc_Ltext:FnScope zIi W2 (QI zBx):=⟨rfl,rfl,rfl,by decide +kernel,rfl,by decide +kernel,by decide +kernel⟩
abbrev zGw:List Str:=["_law_key_here", "_law_mark", "_law_sign", "_law_part"]
abbrev Y6:List Str:=["_law_key_here"]
theorem sc_Lstamp:FnScope zGw Y6 (QI J7):=⟨rfl,rfl,rfl,by decide +kernel,rfl,by decide +kernel,by decide +kernel⟩
abbrev zJl:List Str:=["_law_mark"]
abbrev zCA:List Str:=["_law_mark"]
theorem sc_Lstep:FnScope zJl zCA (QI zB7):=⟨rfl,rfl,rfl,by decide +kernel,rfl,by decide +kernel,by decide +kernel⟩
abbrev zJd:List Str:=["_law_number", "_law_rest"]
abbrev zCF:List Str:=["_law_number"]
theorem sc_Lleaf:FnScope zJd zCF (QI zCS):=⟨rfl,rfl,rfl,by decide +kernel,rfl,by decide +kernel,by decide +kernel⟩
abbrev zDz:List Str:=["_law_number", "_law_rest", "_law_parts"]
abbrev WI:List Str:=["_law_number"]
theorem sc_Lany_key:FnScope zDz WI (QI WR):=⟨rfl,rfl,rfl,by decide +kernel,rfl,by decide +kernel,by decide +kernel⟩
abbrev zKb:List Str:=["_law_way", "_law_base", "_law_j", "_law_stem", "_law_at", "_law_text_here", "_law_mark"]
abbrev zEa:List Str:=["_law_way", "_law_base", "_law_j"]
theorem sc_Lkey:FnScope zKb zEa (QI zEn):=⟨rfl,rfl,rfl,by decide +kernel,rfl,by decide +kernel,by decide +kernel⟩
abbrev zA8:List Str:=["_law_cells", "_law_key_here", "_law_mark", "_law_at"]
abbrev Y3:List Str:=["_law_cells", "_law_key_here"]
theorem sc_Lfirst_bare:FnScope zA8 Y3 (QI Yw):=⟨rfl,rfl,rfl,by decide +kernel,rfl,by decide +kernel,by decide +kernel⟩
abbrev zI8:List Str:=["_law_shelf", "_law_way", "_law_key_here", "_law_found"]
abbrev zCR:List Str:=["_law_shelf", "_law_way", "_law_key_here"]
theorem sc_Lcame:FnScope zI8 zCR (QI zCD):=⟨rfl,rfl,rfl,by decide +kernel,rfl,by decide +kernel,by decide +kernel⟩
abbrev zGW:List Str:=["_law_shelf", "_law_script", "_law_way", "_law_base", "_law_pool", "_law_comings", "_law_cell", "_law_key_here"]
abbrev JG:List Str:=["_law_shelf", "_law_script", "_law_way", "_law_base", "_law_pool"]
theorem sc_Lwalked:FnScope zGW JG (QI JH):=⟨rfl,rfl,rfl,by decide +kernel,rfl,by decide +kernel,by decide +kernel⟩
abbrev zFt:List Str:=["_law_shelf", "_law_comings", "_law_there", "_law_turned", "_law_key_here", "_law_some"]
abbrev JE:List Str:=["_law_shelf", "_law_comings", "_law_there", "_law_turned"]
theorem sc_Lsecond:FnScope zFt JE (QI JF):=⟨rfl,rfl,rfl,by decide +kernel,rfl,by decide +kernel,by decide +kernel⟩
abbrev zJQ:List Str:=["_law_comings", "_law_there", "_law_size", "_law_cells", "_law_row", "_law_slots", "_law_key_here", "_law_k"]
abbrev zCO:List Str:=["_law_comings", "_law_there", "_law_size"]
theorem sc_Llaid:FnScope zJQ zCO (QI zCj):=⟨rfl,rfl,rfl,by decide +kernel,rfl,by decide +kernel,by decide +kernel⟩
abbrev zDt:List Str:=["_law_found", "_law_size"]
abbrev WJ:List Str:=["_law_found", "_law_size"]
theorem sc_Lis_form:FnScope zDt WJ (QI WX):=⟨rfl,rfl,rfl,by decide +kernel,rfl,by decide +kernel,by decide +kernel⟩
abbrev zLh:List Str:=["_law_script", "_law_size", "_law_pool", "_law_way", "_law_base", "_law_shelf", "_law_comings", "_law_there", "_law_found", "_law_other"]
abbrev zHR:List Str:=["_law_script"]
theorem sc_law:FnScope zLh zHR (QI Wl):=⟨rfl,rfl,rfl,by decide +kernel,rfl,by decide +kernel,by decide +kernel⟩
def zDv:Sp:=fun vs H Q _=>∃ x,vs=[.str x]/\Q (.int (tst x.cps.toList)) H
def zBB (d:Nat):Sp:=fun vs H Q _=>∃ v k,vs=[v]/\IsK H k v/\k.deep<=d/\Q (.int k.st) H
def zL1 (d:Nat):Sp:=fun vs H Q _=>∃ a ws ks,vs=[.ref a]/\H a=some (.tup ws)/\IsKs H ks ws/\Kd.deepL ks<=d/\Q (.int (Kd.stL 11 ks)) H
def zC9:Sp:=fun vs H Q _=>∃ m,vs=[.int m]/\0<=m/\Q (.int (std m)) H
def zBm:Sp:=fun vs H Q _=>∃ m s c,vs=[.int m,.int s,.int c]/\0<=m/\0 < s/\0<=c/\c<=100000/\Q (.int (pr m s c.toNat)) H
def zFc:Sp:=fun vs H Q _=>∃ B v t,vs=[v]/\IsT B H t v/\Same B H/\Q (.bl t.isNum) H
def zCV (n:Nat):Sp:=fun vs H Q _=>∃ B v t,vs=[v,.int n]/\IsT B H t v/\Same B H/\∀ H',Same H H'->Q (.bl (t.ok n)) H'
def zKA (n:Nat):Sp:=fun vs H Q _=>∃ B b ws ts,vs=[.ref b,.int n]/\H b=some (.tup ws)/\ws.length<=1000/\IsTs B H ts ws/\Same B H/\∀ H',Same H H'->Q (.bl (decide (ts.length<=6) && Th.okL ts n)) H'
def zJ2:Sp:=fun vs H Q _=>∃ B v t,vs=[v]/\IsT B H t v/\Same B H/\∀ H',Same H H'->Q (.bl (t.ok 3)) H'
def YR (ns:List Int) (k:Int):Int:=(ns[k.toNat]?).getD 0
def zHJ (K:W.Frag):Sp:=fun vs H Q _=>∃ (b:Addr) (ns:List Int) (k:Int),vs=[.ref b,.int k]/\SqL K H b (ns.map V.int)/\0<=k/\Q (.int (YR ns k)) H
def Jx:Sp:=fun vs H Q _=>∃ i n,vs=[.int i,.int n]/\0<=n/\n<=100/\∀ x:Str,x.length=n.toNat->Q (.str x) H
def zFB:Sp:=fun vs H Q _=>∃ m,vs=[.int m]/\Q (.int (std m)) H
def zFD (k:Kd):Prop:=∀ n,k.th.ok n=true
def zGp:Sp:=fun vs H Q _=>∃ i,vs=[.int i]/\0<=i/\i < 2 ^ 60/\∀ v k,IsK H k v->k.deep=0->zFD k->Q v H
def zJ6:Sp:=fun vs H Q _=>∃ i,vs=[.int i]/\0<=i/\i < 2 ^ 59/\∀ v k H',Same H H'->IsK H' k v->k.deep<=3->k.th.ok 3=true->Q v H'
def zGr:Sp:=fun vs H Q _=>∃ w b j,vs=[.int w,.int b,.int j]/\0<=b/\b < 10 ^ 12/\0<=j/\j<=1000/\∀ v k H',Same H H'->IsK H' k v->k.deep<=3->k.th.ok 3=true->Q v H'
theorem zD4 {i:Int} (h1 : -10 ^ 60 < i) (h2:i < 10 ^ 60):zFD (.num i):=fun n=>by
 unfold Kd.th Th.ok
 rw[decide_eq_true h1,decide_eq_true h2];rfl
theorem zEC {x:Str} (h:x.length<=60):zFD (.txt x):=fun n=>by
 unfold Kd.th Th.ok
 rw[decide_eq_true h]
theorem zHS {n:Nat}:∀ {ks:List Kd},(∀ k∈ks,k.th.ok n=true)->Th.okL (Kd.thL ks) n=true
 | [],_=>by unfold Kd.thL Th.okL;rfl
 | k::r,h=>by
  unfold Kd.thL Th.okL
  rw[h k List.mem_cons_self,zHS fun x hx=>h x (List.mem_cons_of_mem _ hx)];rfl
theorem zAP {ks:List Kd} {n:Nat} (h6:ks.length<=6) (h:∀ k∈ks,k.th.ok n=true):(Kd.tup ks).th.ok (n+1)=true:=by
 unfold Kd.th Th.ok
 rw[Kd.thL_length,decide_eq_true h6,decide_eq_true (Nat.succ_pos n),Nat.add_sub_cancel,zHS h];rfl
theorem Z4 {H:Hp} {i:Int}:IsK H (.num i) (.int i):=by unfold IsK;rfl
theorem Js {H:Hp} {x:Str}:IsK H (.txt x) (.str x):=by unfold IsK;rfl
theorem Z7 {H:Hp} {t:Addr} {ks:List Kd} {vs:List V} (h:H t=some (.tup vs)) (hz:vs.length<=1000) (hk:IsKs H ks vs):IsK H (.tup ks) (.ref t):=by unfold IsK;exact⟨t,vs,rfl,h,hz,hk⟩
theorem Yi {H:Hp} {p:Addr} {o o':HO}:upd (upd H p o) p o'=upd H p o':=by
 funext b
 by_cases e:b=p
 ·subst e;rw[QF,QF]
 ·rw[QH e,QH e,QH e]
theorem zJG (m:Int):(if m / 32 % 2=0 then m / 32+1 else m / 32)=std m:=by unfold std;split <;> omega
theorem Jn (a b:Str):(a++b).length=a.length+b.length:=Array.size_append
theorem zAf {i:Int}:(Kd.num i).deep=0:=by unfold Kd.deep;rfl
theorem W0 {i:Str}:(Kd.txt i).deep=0:=by unfold Kd.deep;rfl
def NoN (H:Hp) (x:V):Prop:=(∃ b,x=.bl b)\/x=.non\/(∃ z,x=.str z)\/(∃ a xs,x=.ref a/\H a=some (.tup xs))\/(∃ a xs,x=.ref a/\H a=some (.lst xs))\/∃ a xs,x=.ref a/\H a=some (.dK xs)
def Tg (H:Hp) (x:V) (n s:Bool):Prop:=(∃ i,x=.int i/\n=true/\s=decide (S8 i))\/(NoN H x/\n=false/\s=false)
def zKQ:Sp:=fun vs H Q _=>∃ x n s,vs=[x]/\Tg H x n s/\Q (.bl n) H
def zLL:Sp:=fun vs H Q _=>∃ x n s,vs=[x]/\Tg H x n s/\Q (.bl s) H
def zCT:Sp:=fun vs H Q _=>∃ i,vs=[.int i]/\Q (.int (2*i / 3)) H
def zL5:Sp:=fun vs H Q _=>∃ p cs v k c,vs=[.ref p,v]/\H p=some (.lst (cs.map V.int))/\0 < cs.length/\cs.length<=4096/\IsK H k v/\k.deep<=3/\IsFirst (fun c=>cAt cs k.st c = -1) cs.length c/\Q (.int (sl k.st cs.length c:Nat)) H
def zEv:Sp:=fun vs H Q _=>∃ r xs os s,vs=[.ref r,.int s]/\H r=some (.lst xs)/\IsKos H os xs/\(∀ o∈os,Yn 3 o)/\S8 s/\3*(os.length:Int)<=2*s /\
 ∀ q cs H',Same H H'->H q=none->H' q=some (.lst (cs.map V.int))->LB (stO os) s.toNat os.length cs->Q (.ref q) H'
def zJ9:Sp:=fun vs H Q _=>∃ v r xs os x k,vs=[.int v,.ref r,x]/\H r=some (.lst xs)/\IsKos H os xs/\IsK H k x/\(0<=v->∃ k',os[v.toNat]? = some (some k')/\k'.deep<=20)/\Q (.bl (decide (Qx os k v))) H
def zE1 (cs:List Int) (os:List (Option Kd)):Prop:=∀ v∈cs,0<=v->∃ k',os[v.toNat]? = some (some k')/\k'.deep<=20
def zCa:Sp:=fun vs H Q _=>∃ p r cs xs os x k c,vs=[.ref p,.ref r,x]/\H p=some (.lst (cs.map V.int))/\H r=some (.lst xs)/\IsKos H os xs/\IsK H k x/\k.deep<=3/\0 < cs.length/\cs.length<=4096/\zE1 cs os /\
 IsFirst (fun c=>Qx os k (cAt cs k.st c)) cs.length c/\∀ q ys H',Same H H'->H q=none->H' q=some (.lst ys)->IsKos H' (pap cs k.st c) ys->Q (.ref q) H'
def zCZ:Sp:=fun vs H Q _=>∃ p r cs xs os x k c,vs=[.ref p,.ref r,x]/\H p=some (.lst (cs.map V.int))/\H r=some (.lst xs)/\IsKos H os xs/\IsK H k x/\k.deep<=3/\0 < cs.length/\cs.length<=4096/\zE1 cs os /\
 IsFirst (fun c=>Qx os k (cAt cs k.st c)) cs.length c/\∀ H',Same H H'->Q (if cAt cs k.st c = -1 then .non else .int (cAt cs k.st c)) H'
theorem zBs {cs:List Int} {m:Int} {c:Nat}:(pap cs m c).length=c+1:=by unfold pap;rw[List.length_map,List.length_range]
theorem zIw {cs:List Int} {m:Int} {c i:Nat} (h:i < c+1):(pap cs m c)[i]? = some (some (.tup [.num (sl m cs.length i:Nat),.num (cAt cs m i)])):=by unfold pap;rw[List.getElem?_map,List.getElem?_range h];rfl
theorem zG1 {cs:List Int} {m:Int} {c i:Nat} {H:Hp} {ys:List V} {y:V} (h:IsKos H (pap cs m c) ys) (e:ys[i]? = some y):∃ t,y=.ref t/\H t=some (.tup [.int (sl m cs.length i:Nat),.int (cAt cs m i)]):=by
 obtain⟨o,e1,e2⟩:=h.get e
 have il:i < c+1:=by have:=(List.getElem?_eq_some_iff.mp e1).1;rwa [zBs] at this
 rw[zIw il] at e1
 cases e1
 exact zG3 e2
def zFP:Sp:=fun vs H Q _=>∃ x k,vs=[x]/\IsK H k x/\k.th.ok 3=true/\∀ H',Same H H'->Q x H'
def plV:Option Nat->V
 | some i=>.int (i:Nat)
 | none=>.non
def zI0 (C:Addr):Sp:=fun vs H Q _=>∃ p S x k,vs=[.ref p,x]/\ShAt C H p S/\IsK H k x/\k.deep<=3/\Plc S.os k fun r=>∀ H',Same H H'->Q (plV r) H'
def zGv (C:Addr):Sp:=fun vs H Q _=>∃ p S x k,vs=[.ref p,x]/\ShAt C H p S/\IsK H k x/\k.deep<=3/\k.th.ok 3=true/\Plc S.os k fun r=>∀ H',Same H H'->Q (.bl r.isSome) H'
def Yr (S:Sh) (xs:List V):List (Int × V × V):=(S.ms.zip (xs.zip S.hs)).filter fun e=>NN e.2.1
def EntR (H:Hp) (y:V) (e:Int × V × V):Prop:=∃ t,y=V.ref t/\H t=some (.tup [.int e.1,e.2.1,e.2.2])
def PairR (H:Hp) (y:V) (e:Int × V × V):Prop:=∃ t,y=V.ref t/\H t=some (.tup [e.2.1,e.2.2])
theorem EntR.same {H H':Hp} {y:V} {e:Int × V × V} (g:Same H H') (h:EntR H y e):EntR H' y e:=h.imp fun t h=>⟨h.1,g _ _ h.2⟩
theorem PairR.same {H H':Hp} {y:V} {e:Int × V × V} (g:Same H H') (h:PairR H y e):PairR H' y e:=h.imp fun t h=>⟨h.1,g _ _ h.2⟩
def JL (C:Addr):Sp:=fun vs H Q _=>∃ p S xs,vs=[.ref p]/\ShAt C H p S/\H S.pr=some (.lst xs)/\∀ l ys H',Same H H'->H l=none->H' l=some (.lst ys) ->
 Paired (EntR H') ys (Yr S xs)->Q (.ref l) H'
def zFj (C:Addr):Sp:=fun vs H Q _=>∃ p S xs,vs=[.ref p]/\ShAt C H p S/\H S.pr=some (.lst xs)/\∀ l ys H',Same H H'->H l=none->H' l=some (.lst ys) ->
 Paired (PairR H') ys (Yr S xs)->Q (.ref l) H'
def zCk (C:Addr):Sp:=fun vs H Q _=>∃ p S x k v c,vs=[.ref p,x,.int v]/\ShAt C H p S/\IsK H k x/\k.deep<=3/\IsFirst (fun c=>Qx S.os k (cAt S.cs k.st c)) S.n c /\
 ∀ H',Same H H'->Q .non (upd H' S.pc (.lst ((S.cs.set (sl k.st S.n c) v).map V.int)))
def zBL (S:Sh) (k:Kd) (c:Nat) (y:V):Sh:={ S with cs:=S.cs.set (sl k.st S.n c) (S.os.length:Int),os:=S.os++[some k],hs:=S.hs++[y],ms:=S.ms++[S.ca+1],ca:=S.ca+1 }
def lay (fs:List (Str × V)) (n:Int) (pc pr ph pm:Addr):List (Str × V):=Qu "comings" (.ref pm) (Qu "held" (.ref ph) (Qu "row" (.ref pr) (Qu "size" (.int n) (Qu "cells" (.ref pc) fs))))
def zJ5 (C:Addr):Sp:=fun vs H Q _=>∃ p dx fs n pr ph pm xs os,vs=[.ref p,.int n,.ref pr,.ref ph,.ref pm]/\H p=some (.ins C dx fs)/\fs.length<=9/\H pr=some (.lst xs)/\IsKos H os xs/\(∀ o∈os,Yn 3 o)/\S8 n/\3*(os.length:Int)<=2*n /\
 ∀ pc cs H',Same H H'->H pc=none->H' pc=some (.lst (cs.map V.int))->LB (stO os) n.toNat os.length cs->Q .non (upd H' p (.ins C dx (lay fs n pc pr ph pm)))
theorem zJw {pc pr ph pm:Addr} {n:Int}:lay [] n pc pr ph pm=sh5 pc n pr ph pm:=by
 kernel_rfl
section
variable {P:Program} {w:World} {K:W.Frag} {mg:Str->Option Value} {base:Heap} {a:Ad} {H:Hp} {Q:VK} {N:Hp->Prop} {p:Addr} {S:Sh}
theorem Ju (T:Txt K mg a) (A:ShAt a.a_Shelf H p S):zAv K "cells" (.ref p) H Q=Q (.ref S.pc) H:=Q3 A.ob T.cl_Shelf T.n_Hcells zGc
theorem zLK (T:Txt K mg a) (A:ShAt a.a_Shelf H p S):zAv K "size" (.ref p) H Q=Q (.int S.n) H:=Q3 A.ob T.cl_Shelf T.n_Hsize zG4
theorem zBX (T:Txt K mg a) (A:ShAt a.a_Shelf H p S):zAv K "row" (.ref p) H Q=Q (.ref S.pr) H:=Q3 A.ob T.cl_Shelf T.n_Hrow zCM
theorem zEK (T:Txt K mg a) (A:ShAt a.a_Shelf H p S):zAv K "held" (.ref p) H Q=Q (.ref S.ph) H:=Q3 A.ob T.cl_Shelf T.n_Hheld zAS
theorem zGP (T:Txt K mg a) (A:ShAt a.a_Shelf H p S):zAv K "comings" (.ref p) H Q=Q (.ref S.pm) H:=Q3 A.ob T.cl_Shelf T.n_Hcomings JV
theorem zK8 (T:Txt K mg a) (A:ShAt a.a_Shelf H p S):zAv K "came" (.ref p) H Q=Q (.int S.ca) H:=Q3 A.ob T.cl_Shelf T.n_Hcame zAA
theorem Yp {m:Str} (A:ShAt a.a_Shelf H p S) (h:shK.contains m=false):zBI a.a_Shelf m (.ref p) H N=N H:=zDV A.ob (zLA h)
theorem zCE (A:ShAt a.a_Shelf H p S):zE1 S.cs S.os:=fun v hv h0=>by
 obtain⟨j,hj⟩:=List.mem_iff_getElem?.mp hv
 rcases A.fm.good j v hj with e | e | ⟨q,k,e,hq⟩
 ·omega
 ·omega
 ·have z:v.toNat=q:=by omega
  rw[z]
  exact⟨k,hq,Nat.le_trans (A.dp _ (List.mem_of_getElem? hq)) (by decide)⟩
end
def zE4 (DF:Addr):Sp:=fun vs H _ E=>∃ p,vs=[.ref p]/\∀ ea,H ea=none->E (.ref DF) (some ea) H
def zFM (C DF:Addr):Sp:=fun vs H Q E=>∃ p S x k y,vs=[.ref p,x,y]/\ShAt C H p S/\IsK H k x/\k.deep<=3/\(∀ i:Nat,S.os[i]? ≠ some (some k)) /\
 (2*S.n / 3<=S.os.length->∀ ea,H ea=none->E (.ref DF) (some ea) H) /\
 (3*(S.os.length+1)<=2*S.n->∀ c H',IsFirst (fun c=>Qx S.os k (cAt S.cs k.st c)) S.n c->But p S H H'->ShAt C H' p (zBL S k c y)->Q .non H')
def zCG (C DF:Addr):Sp:=fun vs H Q E=>∃ p S x k y,vs=[.ref p,x,y]/\ShAt C H p S/\IsK H k x/\k.deep<=3/\k.th.ok 3=true /\
 (∀ (i:Nat) H',S.os[i]? = some (some k)->But p S H H'->ShAt C H' p { S with hs:=S.hs.set i y }->Q (.bl false) H') /\
 (∀ c H',(∀ i:Nat,S.os[i]? ≠ some (some k))->3*(S.os.length+1)<=2*S.n->IsFirst (fun c=>Qx S.os k (cAt S.cs k.st c)) S.n c->But p S H H'->ShAt C H' p (zBL S k c y)->Q (.bl true) H') /\
 ((∀ i:Nat,S.os[i]? ≠ some (some k))->2*S.n / 3<=S.os.length->∀ ea H',Same H H'->H' ea=none->E (.ref DF) (some ea) H')
def zFG (C DL:Addr):Sp:=fun vs H Q E=>∃ p S x k,vs=[.ref p,x]/\ShAt C H p S/\IsK H k x/\k.deep<=3/\k.th.ok 3=true/\(∀ (i:Nat) H',S.os[i]? = some (some k)->Same H H'->Q (.int (i:Nat)) H') /\
 ((∀ i:Nat,S.os[i]? ≠ some (some k))->∀ ea H',Same H H'->H' ea=none->E (.ref DL) (some ea) H')
def JX (S:Sh) (k:Kd) (c i:Nat):Sh:={ S with cs:=S.cs.set (sl k.st S.n c) (-2),os:=S.os.set i none,hs:=S.hs.set i .non,we:=S.we+1 }
def Wq (C DL:Addr):Sp:=fun vs H Q E=>∃ p S x k,vs=[.ref p,x]/\ShAt C H p S/\IsK H k x/\k.deep<=3/\k.th.ok 3=true /\
 (∀ (i:Nat) c H',S.os[i]? = some (some k)->IsFirst (fun c=>Qx S.os k (cAt S.cs k.st c)) S.n c->But p S H H'->ShAt C H' p (JX S k c i)->Q ((S.hs[i]?).getD .non) H') /\
 ((∀ i:Nat,S.os[i]? ≠ some (some k))->∀ ea H',Same H H'->H' ea=none->E (.ref DL) (some ea) H')
def zFO (C:Addr):Sp:=fun vs H Q _=>∃ p S xs m,vs=[.ref p,.int m]/\ShAt C H p S/\H S.pr=some (.lst xs) /\
 (∀ H',(Yr S xs).filter (fun e=>decide (e.1 < m))=[]->Same H H'->Q .non H') /\
 (∀ l e t H',(Yr S xs).filter (fun e=>decide (e.1 < m))=l++[e]->Same H H'->H' t=some (.tup [.int e.1,e.2.1,e.2.2])->Q (.ref t) H')
def zGx (os:List (Option Kd)) (i:Nat) (k:Kd):Prop:=os[i]? = some (some k)/\∀ j:Nat,i < j->∀ k',os[j]? ≠ some (some k')
def zBY (os:List (Option Kd)):Prop:=∀ k,some k∈os->k.th.ok 3=true
def zFe (C DL:Addr):Sp:=fun vs H Q E=>∃ p S,vs=[.ref p]/\ShAt C H p S/\zBY S.os /\
 (∀ (i:Nat) c k x y t H',zGx S.os i k->IsFirst (fun c=>Qx S.os k (cAt S.cs k.st c)) S.n c->But p S H H'->ShAt C H' p (JX S k c i)->IsK H' k x->y=(S.hs[i]?).getD .non->H' t=some (.tup [x,y])->Q (.ref t) H') /\
 ((∀ (i:Nat) k,S.os[i]? ≠ some (some k))->∀ ea H',Same H H'->H' ea=none->E (.ref DL) (some ea) H')
def zCp (C:Addr):Sp:=fun vs H Q _=>∃ p S,vs=[.ref p]/\ShAt C H p S/\∀ t l1 l2 ys H',Same H H'->H l1=none->H l2=none->l1 ≠ l2->H' t=some (.tup [.ref l1,.ref l2])->H' l1=some (.lst (S.cs.map V.int))->H' l2=some (.lst ys)->IsKos H' S.os ys->Q (.ref t) H'
theorem zFn {H H':Hp} {os:List (Option Kd)} {xs:List V} (h:IsKos H os xs) (t:TupS H H') (i:Nat):IsKos H' (os.set i none) (xs.set i V.non):=(h.same t).set (show IsKo H' none V.non from rfl) i
def YC (cs:List Int):List Int:=cs.filter fun v=>decide (v ≠ -1) && decide (v ≠ -2)
def Qj (os:List (Option Kd)):List Kd:=os.filterMap id
def Fnd (cs:List Int) (os:List (Option Kd)) (k:Kd) (p:Nat):Prop:=∃ c,IsFirst (fun c=>Qx os k (cAt cs k.st c)) cs.length c/\cAt cs k.st c=(p:Int)
def zIV (cs:List Int) (os:List (Option Kd)) (bs:List Bool):Prop:=∀ (j:Nat) (b:Bool),bs[j]? = some b->∃ (v:Nat) (k:Kd),(plc os os.length)[j]? = some (v:Int)/\os[v]? = some (some k)/\(b=true ↔ Fnd cs os k v)
def zLm (cs:List Int) (os:List (Option Kd)):Prop:=∀ p k,os[p]? = some (some k)->Fnd cs os k p
def Fit (cs:List Int) (os:List (Option Kd)):Prop:=S8 (cs.length:Int)/\(os.length:Int)<=2*(cs.length:Int) / 3/\(((cz cs).count (some (.num (-2))):Nat):Int)<=((os.count none:Nat):Int)
def Frm (cs:List Int) (os:List (Option Kd)):Prop:=Fit cs os/\(Qj os).Nodup/\(YC cs).Perm (plc os os.length)/\zLm cs os
theorem zDT {os:List (Option Kd)} {i:Nat} (h:os[i]? = some none):Qj (os.take (i+1))=Qj (os.take i):=by
 unfold Qj
 rw[List.take_add_one,h,List.filterMap_append]
 simp
theorem zDS {os:List (Option Kd)} {i:Nat} {k:Kd} (h:os[i]? = some (some k)):Qj (os.take (i+1))=Qj (os.take i)++[k]:=by
 unfold Qj
 rw[List.take_add_one,h,List.filterMap_append]
 simp
theorem zAG {os:List (Option Kd)}:(Qj os).length<=os.length:=List.length_filterMap_le _ _
theorem keysOf_mem {os:List (Option Kd)} {k:Kd}:k∈Qj os ↔ some k∈os:=by
 unfold Qj
 simp[List.mem_filterMap]
theorem zEF {cs:List Int} {i:Nat} {v:Int} (h:cs[i]? = some v):YC (cs.take (i+1))=if v ≠ -1/\v ≠ -2 then YC (cs.take i)++[v] else YC (cs.take i):=by
 unfold YC
 rw[List.take_add_one,h,List.filter_append]
 by_cases z:v ≠ -1/\v ≠ -2
 ·rw[if_pos z]
  simp[z.1,z.2]
 ·rw[if_neg z]
  have:(decide (v ≠ -1) && decide (v ≠ -2))=false:=by
   rw[Bool.and_eq_false_iff]
   simp only[decide_eq_false_iff_not]
   omega
  simp only[Option.toList_some,List.filter_cons,this]
  simp
theorem heldL_mem {cs:List Int} {v:Int}:v∈YC cs ↔ v∈cs/\v ≠ -1/\v ≠ -2:=by
 unfold YC
 rw[List.mem_filter,Bool.and_eq_true,decide_eq_true_eq,decide_eq_true_eq]
theorem zGN {cs:List Int}:(YC cs).length<=cs.length:=List.length_filter_le _ _
theorem plc_iff {os:List (Option Kd)} {i:Nat} {v:Int}:v∈plc os i ↔ ∃ (p:Nat) (k:Kd),v=(p:Int)/\p < i/\os[p]? = some (some k):=by
 constructor
 ·intro h
  obtain⟨k,h1,h2,h3⟩:=zJU h
  exact⟨v.toNat,k,by omega,by omega,h3⟩
 ·rintro ⟨p,k,rfl,h1,h2⟩
  unfold plc
  refine List.mem_map.mpr ⟨p,List.mem_filter.mpr ⟨List.mem_range.mpr h1,?_⟩,rfl⟩
  rw[h2]
  rfl
theorem plc_rise {os:List (Option Kd)} {i:Nat}:(plc os i).Pairwise (· < ·):=by
 unfold plc
 rw[List.pairwise_map]
 exact (List.pairwise_lt_range.filter _).imp fun h=>Int.ofNat_lt.mpr h
theorem zJS {a b:List Int} (h:a.Perm b) (ha:a.Pairwise (· <= ·)) (hb:b.Pairwise (· < ·)):a=b:=PySem.W.ksm_same h ha (hb.imp Int.le_of_lt)
def zKO:Sp:=fun vs H Q _=>∃ p r cs xs os,vs=[.ref p,.ref r]/\H p=some (.lst (cs.map V.int))/\H r=some (.lst xs)/\IsKos H os xs/\(∀ o∈os,Yn 3 o)/\∀ b,(b=true ↔ Fit cs os)->Q (.bl b) H
def zKE:Sp:=fun vs H Q _=>∃ r xs os,vs=[.ref r]/\H r=some (.lst xs)/\IsKos H os xs/\(∀ o∈os,Yn 3 o)/\os.length<=76/\∀ H' b,Same H H'->(b=true ↔ (Qj os).Nodup)->Q (.bl b) H'
def zEe:Sp:=fun vs H Q _=>∃ r xs os,vs=[.ref r]/\H r=some (.lst xs)/\IsKos H os xs/\os.length<=1000/\∀ p H',Same H H'->H p=none->H' p=some (.lst ((plc os os.length).map V.int))->Q (.ref p) H'
def zHY:Sp:=fun vs H Q _=>∃ p r cs xs os,vs=[.ref p,.ref r]/\H p=some (.lst (cs.map V.int))/\H r=some (.lst xs)/\IsKos H os xs/\os.length<=1000/\cs.length<=1000/\(YC cs).length < 64/\∀ H' b,Same H H'->(b=true ↔ (YC cs).Perm (plc os os.length))->Q (.bl b) H'
def zIA:Sp:=fun vs H Q _=>∃ p r cs xs os,vs=[.ref p,.ref r]/\H p=some (.lst (cs.map V.int))/\H r=some (.lst xs)/\IsKos H os xs/\(∀ o∈os,Yn 3 o)/\os.length<=1000/\S8 (cs.length:Int)/\(YC cs).Perm (plc os os.length)/\∀ H' b,Same H H'->(b=true ↔ zLm cs os)->Q (.bl b) H'
def zJy:Sp:=fun vs H Q _=>∃ p r cs xs os,vs=[.ref p,.ref r]/\H p=some (.lst (cs.map V.int))/\H r=some (.lst xs)/\IsKos H os xs/\(∀ o∈os,Yn 3 o)/\cs.length<=100/\(YC cs).length < 64/\∀ H' b,Same H H'->(b=true ↔ Frm cs os)->Q (.bl b) H'
def zFY (C:Addr):Sp:=fun vs H Q _=>∃ p dx n,vs=[.ref p,.int n]/\H p=some (.ins C dx [])/\S8 n /\
 ∀ S H',(∀ b o,H b=some o->b ≠ p->H' b=some o)->ShAt C H' p S->S.n=n.toNat->S.cs=List.replicate n.toNat (-1)->S.os=[]->S.hs=[]->S.ms=[]->S.ca=0->S.we=0->S.ti=0->S.mo=0->H S.pc=none->H S.pr=none->H S.ph=none->H S.pm=none->Q .non H'
local macro_rules | `(tactic| walk_at "rd") => `(tactic| simp only [L2.zAr, L2.tC, L2.tOp, L2.tUn, L2.rI, L2.rI0, L2.rU, L2.zHw, L2.tB, L2.zLJ, L2.tOr, L2.zLY, L2.zKC, L2.zLn, L2.zKL, L2.tIf, L2.zH5, L2.zLe, L2.zIs, L2.zLX, L2.zKV, L2.Wz, L2.zF9, L2.zJ8, L2.tCB, L2.zEZ, L2.zFS, L2.zID, L2.zLx, L2.zLk, L2.Zq, L2.tSl, L2.zKH, L2.zEu, L2.Jg, L2.zJh, L2.zKx, L2.zLG, L2.zJi, L2.zJO, L2.zLc, L2.zJL, L2.zKX, L2.zIq, L2.zJe, L2.zLw, L2.J4, L2.Yq, L2.zIu, L2.zLv, L2.zJR, L2.tBM, L2.zMJ, Option.getD_some, L2.zKS, L2.zLi, L2.zJ4, L2.zLr,
 Int.reduceLT,Int.reduceLE,Int.reduceToNat,Int.reducePow,Int.reduceMul,Int.reduceSub,Int.reduceAdd,Int.reduceNeg,Int.reduceEq,Int.reduceNe,Int.reduceDiv,Int.reduceMod,Nat.reduceLT,Nat.reducePow,Nat.reduceLeDiff,Nat.reduceMul,
 List.map_cons,List.map_nil,List.length_cons,List.length_nil,List.cons_append,List.nil_append,Nat.zero_add,Nat.reduceAdd,Nat.reduceSub,Nat.sub_self,List.replicate_succ,List.replicate_zero,List.append_nil,List.getElem?_cons_zero,List.getElem?_cons_succ,List.set_cons_zero,List.set_cons_succ,
 Option.some.injEq,L2.V.int.injEq,L2.V.bl.injEq,L2.V.str.injEq,L2.V.ref.injEq,and_assoc,exists_and_left,exists_eq',exists_eq,exists_eq_left,exists_eq_left',decide_eq_true_eq,Bool.not_eq_true',decide_eq_false_iff_not,↓reduceIte,Bool.false_eq_true,if_true,if_false,Bool.not_true,Bool.not_false,true_and,and_true,List.cons.injEq,Bool.true_eq_false,reduceCtorEq,decide_true,decide_false,L2.zKy,L2.zDM,L2.zA5,L2.zDd,L2.zCN,L2.zEg,L2.zCc,L2.zEs,L2.zC1,L2.zDi,L2.zAw,L2.zDA,L2.zBy,L2.zCu,L2.zBC,L2.zDY,L2.zCe,L2.Q6,L2.Qz,L2.Yt,L2.zCK,L2.Zo,L2.Yu,L2.Zs,L2.zCh,L2.WZ,L2.ZX,L2.WU,L2.zC4,zDv,L2.zKW,L2.zFF,L2.zKo,L2.zLb,L2.zIZ,L2.zJz,L2.zKF,L2.zJ1,L2.zKT,L2.JK,L2.zLZ,L2.zKI,L2.zKJ,L2.zFQ,L2.zDq,L2.zMN,L2.zJx,L2.zJf,L2.zKZ,L2.zKd,L2.zKn,L2.zLS,L2.zEc,L2.zJ0,L2.zHk,L2.zJ3,L2.zBb])
theorem WE {α β:Type} {F:α->β->Prop} {a:α}:∀ {l:List α} {l':List β},Paired F (l++[a]) l'->∃ m b,l'=m++[b]/\Paired F l m/\F a b
 | [],_,.cons r .nil=>⟨[],_,rfl,.nil,r⟩
 | x::l,_,.cons (b:=b) r t=>by
  obtain⟨m,c,rfl,h1,h2⟩:=WE (l:=l) t
  exact⟨b::m,c,rfl,.cons r h1,h2⟩
theorem JP {α:Type} {p:α->Bool} {e:α}:∀ {L l:List α},L.filter p=l++[e]->∃ i:Nat,L[i]? = some e/\p e=true/\∀ j:Nat,i < j->∀ e',L[j]? = some e'->p e'=false
 | [],l,h=>by simp at h
 | a::r,l,h=>by
  rcases List.eq_nil_or_concat (r.filter p) with er | ⟨m,b,er⟩
  ·have none:∀ j:Nat,∀ e',r[j]? = some e'->p e'=false:=fun j e' he=>by
    cases hp:p e' with
    | false=>rfl
    | true =>
     have:e'∈r.filter p:=List.mem_filter.mpr ⟨List.mem_of_getElem? he,hp⟩
     rw[er] at this
     cases this
   rw[List.filter_cons] at h
   cases hp:p a with
   | false=>rw[hp,er] at h;simp at h
   | true =>
    rw[hp,er] at h
    have z:[a]=l++[e]:=h
    have z2:=congrArg List.getLast? z
    simp at z2
    subst z2
    refine⟨0,rfl,hp,fun j hj e' he=>?_⟩
    cases j with
    | zero=>omega
    | succ j=>exact none j e' (by simpa using he)
  ·rw[List.concat_eq_append] at er
   have eb:b=e:=by
    rw[List.filter_cons] at h
    cases hp:p a with
    | false =>
     rw[hp,er] at h
     have z:=congrArg List.getLast? (show m++[b]=l++[e] from h)
     simpa using z
    | true =>
     rw[hp,er] at h
     have z:=congrArg List.getLast? (show (a::m)++[b]=l++[e] from h)
     rw[List.getLast?_concat,List.getLast?_concat] at z
     exact Option.some.inj z
   subst eb
   obtain⟨i,h1,h2,h3⟩:=JP er
   refine⟨i+1,by simpa using h1,h2,fun j hj e' he=>?_⟩
   cases j with
   | zero=>omega
   | succ j=>exact h3 j (by omega) e' (by simpa using he)
section
variable {C p:Addr} {H:Hp} {S:Sh} {xs:List V}
theorem zHo (A:ShAt C H p S):(Yr S xs).filter (fun e=>decide (e.1 < S.ca+1))=Yr S xs:=by
 refine List.filter_eq_self.mpr fun e he=>?_
 unfold Yr at he
 have:=(List.of_mem_zip (List.mem_filter.mp he).1).1
 have:=A.cm _ this
 exact decide_eq_true (by omega)
theorem zHp {o:Option Kd} {x:V} (h:IsKo H o x):NN x=o.isSome:=by
 unfold NN
 rw[h.non]
 cases o <;> rfl
theorem zC5 (A:ShAt C H p S) (h:IsKos H S.os xs) {i:Nat} {o:Option Kd} (e:S.os[i]? = some o):∃ m x v,S.ms[i]? = some m/\xs[i]? = some x/\S.hs[i]? = some v/\IsKo H o x/\(S.ms.zip (xs.zip S.hs))[i]? = some (m,x,v):=by
 have hi:=(List.getElem?_eq_some_iff.mp e).1
 have l1:=A.l1
 have l2:=A.l2
 have l3:=h.len
 obtain⟨x,ex,ix⟩:=h.get' e
 refine⟨S.ms[i],x,S.hs[i],List.getElem?_eq_getElem (by omega),ex,List.getElem?_eq_getElem (by omega),ix,?_⟩
 rw[List.getElem?_zip_eq_some]
 exact⟨List.getElem?_eq_getElem (by omega),by rw[List.getElem?_zip_eq_some];exact⟨ex,List.getElem?_eq_getElem (by omega)⟩⟩
theorem zGy (A:ShAt C H p S) (h:IsKos H S.os xs) (hE:Yr S xs=[]):∀ (i:Nat) k,S.os[i]? ≠ some (some k):=fun i k e=>by
 obtain⟨m,x,v,_,_,_,ix,ez⟩:=zC5 A h e
 have:(m,x,v)∈Yr S xs:=List.mem_filter.mpr ⟨List.mem_of_getElem? ez,by show NN x=true;rw[zHp ix];rfl⟩
 rw[hE] at this
 cases this
theorem zGT (A:ShAt C H p S) (h:IsKos H S.os xs) {l:List (Int × V × V)} {e:Int × V × V} (hE:Yr S xs=l++[e]):∃ i k,zGx S.os i k/\xs[i]? = some e.2.1/\S.hs[i]? = some e.2.2:=by
 obtain⟨i,h1,h2,h3⟩:=JP (show (S.ms.zip (xs.zip S.hs)).filter (fun e=>NN e.2.1)=l++[e] from hE)
 rw[List.getElem?_zip_eq_some,List.getElem?_zip_eq_some] at h1
 obtain⟨_,g1,g2⟩:=h1
 obtain⟨o,eo,io⟩:=h.get g1
 have z:=zHp io
 rw[h2] at z
 cases o with
 | none=>cases z
 | some k =>
  refine⟨i,k,⟨eo,fun j hj k' ej=>?_⟩,g1,g2⟩
  obtain⟨m,x,v,_,_,_,ix,ez⟩:=zC5 A h ej
  have y:=h3 j hj _ ez
  have y2:=zHp ix
  rw[show NN x=false from y] at y2
  cases y2
end
section
variable {P:Program} {w:World} {K:W.Frag} {mg:Str->Option Value} {base:Heap} {a:Ad}
theorem zGB (T:Txt K mg a)(G_Hentries:FnOk P w K mg base CX0 1 a.f_Hentries a.d_Hentries ZJ (JL a.a_Shelf)):FnOk P w K mg base CX0 2 a.f_Hahead a.d_Hahead zAg (zFO a.a_Shelf):=by
 refine T.F_Hahead.ok sc_Hahead (fun vs H Q E h=>?_) (fun cdv A outer s H vs Q E hr h=>?_)
 ·obtain⟨p,S,xs,m,rfl,_⟩:=h
  rfl
 have nd:=sc_Hahead.nd
 obtain⟨p,S,xs,m,rfl,A,hx,q1,q2⟩:=h
 refine⟨_,(QB (zAu (i:=2) nd rfl (Or.inl rfl) "entry" ["number"] [1] rfl ⟨rfl,rfl,by decide +kernel,by decide +kernel,rfl,by decide +kernel,by decide +kernel,rfl,by decide +kernel⟩ rfl (YO (Yj (pv 0) T.cl_Shelf T.M_Hentries (G_Hentries.mono (by decide)) hr T.b_Hentries .nil QP)) (fun C s1 H1 fp=>(QS zAq (Qg YL (pv 0) QD (fun _ _=>rfl)) (pv 1) (QR _))) (fun C s1 H1 fp=>(pv 0)))
 (QG (QN (zDD (zGz (pv 2) (fun _=>rfl)) (Qg YL (pv 2) (JR Zg QD) (fun _ _=>rfl)) Q8)))),?_⟩
 have hel:(Yr S xs).length<=4096:=by
  have:=A.small
  have:=A.l2
  unfold Yr
  refine Nat.le_trans (List.length_filter_le _ _) ?_
  rw[List.length_zip]
  omega
 try walk_at "rd"
 rw[Yp A (by decide +kernel)]
 try walk_at "rd"
 refine⟨p,S,xs,rfl,A,hx,fun l ys H1 g1 nl hl pe=>?_⟩
 have pl:=Paired.length pe
 refine⟨l,rfl,⟨_,SqL.of hl⟩,YH (xs:=ys) (fun i zs H2=>Same H1 H2/\zs.length<=i/\Paired (EntR H2) zs (((Yr S xs).take i).filter (fun e=>decide (e.1 < m)))) ⟨Same.refl H1,Nat.zero_le _,.nil⟩ (fun i zs H2 _ h=>SqL.of (h.1 _ _ hl)) (fun i zs H2 hi h=>?_) (fun i y zs H2 ey h=>?_) (fun zs H2 h=>?_)⟩
 ·have:=h.2.1;exact Q0 (by omega)
 ·obtain⟨g,hz,pr⟩:=h
  obtain⟨e,ee,t,rfl,ht⟩:=Yo pe ey
  have ht2:=g _ _ ht
  try walk_at "rd"
  rw[Q2 (v:=V.int e.1) ht2 rfl,YK ee,List.filter_append]
  try walk_at "rd"
  by_cases c:e.1 < m
  ·rw[if_pos c]
   have e1:[e].filter (fun e:Int × V × V=>decide (e.1 < m))=[e]:=by simp[List.filter,c]
   rw[e1]
   exact⟨g,by rw[List.length_append,List.length_singleton];omega,Ys pr ⟨t,rfl,ht2⟩⟩
  ·rw[if_neg c]
   have e1:[e].filter (fun e:Int × V × V=>decide (e.1 < m))=[]:=by simp[List.filter,c]
   rw[e1,List.append_nil]
   exact⟨g,by omega,pr⟩
 ·obtain⟨g,hz,pr⟩:=h
  intro l2 hl2
  have gl:=QE (o:=HO.lst zs) hl2
  have hu:=QF (H:=H2) (a:=l2) (o:=HO.lst zs)
  have G:=(g1.trans g).trans gl
  have pr':=YV pr fun a _ b h=>EntR.same gl h
  rw[List.take_of_length_le (by omega)] at pr'
  generalize upd H2 l2 (HO.lst zs)=H3 at hu G pr' ⊢
  try walk_at "rd"
  refine⟨!zs.isEmpty,.inl ⟨zs,SqL.of hu,rfl⟩,?_⟩
  rcases List.eq_nil_or_concat zs with ez | ⟨zs',z,ez⟩
  ·subst ez
   generalize hE:(Yr S xs).filter (fun e=>decide (e.1 < m))=es at pr'
   cases pr'
   exact zI9 (q1 H3 hE G)
  ·rw[List.concat_eq_append] at ez
   subst ez
   obtain⟨es,e,hE,_,t,rfl,ht⟩:=WE pr'
   have ne:(!(zs'++[V.ref t]).isEmpty)=true:=by simp
   rw[ne]
   refine zMF ?_
   show ixC (V.ref l2) (V.int (-1)) _ _
   rw[Q4 hu (v:=V.ref t) ((J1 (c:=zs'.length) (by simp)).trans (by simp))]
   exact q2 es e t H3 hE G ht
theorem zAt (T:Txt K mg a)(G_Hahead:FnOk P w K mg base CX0 2 a.f_Hahead a.d_Hahead zAg (zFO a.a_Shelf))(G_Htake:FnOk P w K mg base (CXe P w) 13 a.f_Htake a.d_Htake We (Wq a.a_Shelf a.a_Lacking)):FnOk P w K mg base (CXe P w) 14 a.f_Htake_last a.d_Htake_last ZV (zFe a.a_Shelf a.a_Lacking):=by
 refine T.F_Htake_last.okE sc_Htake_last (fun vs H Q E h=>?_) (fun cdv A outer s H vs Q E hr h=>?_)
 ·obtain⟨p,S,rfl,_⟩:=h
  rfl
 have nd:=sc_Htake_last.nd
 obtain⟨p,S,rfl,A,hor,q1,q2⟩:=h
 obtain⟨bmL,xL⟩:=T.x_Lacking
 refine⟨_,(QB (QQ (i:=1) nd rfl (Or.inl rfl) (Qi (pv 0) T.cl_Shelf T.M_Hahead (G_Hahead.mono (by decide)) hr T.b_Hahead .nil QP (QA (QK Qv (Qd (pv 0) rfl) QD) QC)))
 (QB (QT (QS zEV (pv 1) Q8 (QR _)) (QG (JO hr.hd rfl T.m_Lacking xL (QA JC QC))) QO)
 (QB (QQ (i:=2) nd rfl (Or.inl rfl) (Qg YL (pv 1) QD (fun _ _=>rfl)))
 (QG (QN (ZW (QA (pv 2) (QA (Qi (pv 0) T.cl_Shelf T.M_Htake (G_Htake.mono (by decide)) hr T.b_Htake .nil (zFK (fun _ _ _ h=>h)) (QA (pv 2) QC)) QC)))))))),?_⟩
 obtain⟨xs,hx1,hx2⟩:=A.hr
 have all:=zHo A (xs:=xs)
 try walk_at "rd"
 rw[Yp A (by decide +kernel),zK8 T A]
 try walk_at "rd"
 refine⟨p,S,xs,S.ca+1,rfl,A,hx1,fun H1 hE g1=>?_,fun l e t H1 hE g1 ht=>?_⟩
 ·rw[all] at hE
  try walk_at "rd"
  exact⟨by decide,fun ea he=>q2 (zGy A hx2 hE) ea H1 g1 he⟩
 ·rw[all] at hE
  obtain⟨i,k,hlst,ex,eh⟩:=zGT A hx2 hE
  have A1:=A.same g1
  have ik:IsK H k e.2.1:=by
   obtain⟨o,eo,io⟩:=hx2.get ex
   rw[hlst.1] at eo
   cases eo
   exact io
  have kd:k.deep<=3:=A.dp _ (List.mem_of_getElem? hlst.1)
  try walk_at "rd"
  rw[Q2 (v:=e.2.1) ht rfl]
  try walk_at "rd"
  rw[Yp A1 (by decide +kernel)]
  try walk_at "rd"
  refine⟨p,S,e.2.1,k,rfl,A1,ik.same g1.tups,kd,hor k (List.mem_of_getElem? hlst.1),fun j c H2 hj hc b A2=>?_,fun hn=>absurd hlst.1 (hn i)⟩
  have ej:=A.fm.keys _ _ _ hj hlst.1
  subst ej
  have tt:=g1.tups.trans (A1.tups b)
  try walk_at "rd"
  refine⟨by decide,fun u hu=>?_⟩
  have gu:=QE (o:=HO.tup [e.2.1,(S.hs[j]?).getD V.non]) hu
  exact q1 j c k e.2.1 _ u _ hlst hc (fun z o e' m0 m1 m2 m3 m4=>gu _ _ (b z o (g1 _ _ e') m0 m1 m2 m3 m4)) (A2.same gu) ((ik.same tt).same gu.tups) rfl QF
end
section
variable {P:Program} {w:World} {K:W.Frag} {mg:Str->Option Value} {base:Heap} {a:Ad}
def zFJ:Sp:=fun vs H Q _=>∃ i,vs=[.int i]/\Q (.bl true) H
def zGn:Sp:=fun vs H Q _=>∃ (p:Addr) (cs:List Int) (x:V) (k:Kd) (c:Nat),vs=[.ref p,x]/\H p=some (.lst (cs.map V.int))/\IsP2 (cs.length:Int)/\IsK H k x/\k.deep<=3/\IsFirst (fun c=>cAt cs k.st c = -1) cs.length c/\Q (.int (sl k.st cs.length c:Nat)) H
def Far (b p:Addr) (S:Sh):Prop:=b ≠ p/\b ≠ S.pc/\b ≠ S.pr/\b ≠ S.ph/\b ≠ S.pm
def SameAd (S S':Sh):Prop:=S'.pc=S.pc/\S'.pr=S.pr/\S'.ph=S.ph/\S'.pm=S.pm/\S'.n=S.n
theorem zER {os:List (Option Kd)} {k:Kd} (h:zBY os) (hk:k.th.ok 3=true):zBY (os++[some k]):=fun k' hk'=>by
 rcases List.mem_append.mp hk' with z | z
 ·exact h k' z
 ·cases List.mem_singleton.mp z;exact hk
theorem zGk {os:List (Option Kd)} {i:Nat} (h:zBY os):zBY (os.set i none):=fun k' hk'=>by
 rcases List.mem_or_eq_of_mem_set hk' with z | z
 ·exact h k' z
 ·cases z
theorem zKi {i:Nat}:(List.replicate i true).map V.bl++[V.bl true]=V.bl true::(List.replicate i true).map V.bl:=by
 have e:[V.bl true]=[true].map V.bl:=rfl
 rw[e,← List.map_append,← List.replicate_succ',List.replicate_succ,List.map_cons]
theorem Zh {C:Addr} {H:Hp} {p b:Addr} {S:Sh} (A:ShAt C H p S) (h:H b=none):Far b p S:=by
 obtain⟨xs,h1,_⟩:=A.hr
 refine⟨fun e=>?_,fun e=>?_,fun e=>?_,fun e=>?_,fun e=>?_⟩
 ·rw[e,A.ob] at h;cases h
 ·rw[e,A.hc] at h;cases h
 ·rw[e,h1] at h;cases h
 ·rw[e,A.hh] at h;cases h
 ·rw[e,A.hm] at h;cases h
theorem zHN {n:Nat}:(List.replicate n [V.int (-1)]).flatten=(List.replicate n (-1:Int)).map V.int:=by
 induction n with
 | zero=>rfl
 | succ z ih=>rw[List.replicate_succ,List.flatten_cons,ih,List.replicate_succ];rfl
structure Hs (C:Addr) (H:Hp) (p:Addr) (S:Sh) (ks:List Kd):Prop where
 A:ShAt C H p S
 ok:zBY S.os
 hi:Hist S.n S.cs S.os ks
 la:∀ (i j:Nat) (k:Kd),S.os[i]? = some (some k)->i < j->ks[j]? ≠ some k
def KB (p:Addr) (S:Sh) (H H':Hp):Prop:=∀ b o,H b=some o->Far b p S->H' b=some o
def KOk (ks:List Kd):Prop:=∀ k∈ks,k.deep<=3/\k.th.ok 3=true
def Prs (os:List (Option Kd)) (k:Kd):Prop:=∃ i:Nat,os[i]? = some (some k)
theorem Hs.same {C:Addr} {H H':Hp} {p:Addr} {S:Sh} {ks:List Kd} (h:Hs C H p S ks) (g:Same H H'):Hs C H' p S ks:=⟨h.A.same g,h.ok,h.hi,h.la⟩
theorem KB.of {H H':Hp} {p:Addr} {S:Sh} (g:Same H H'):KB p S H H':=fun b o e _=>g b o e
theorem KB.but {H H':Hp} {p:Addr} {S:Sh} (b:But p S H H'):KB p S H H':=fun c o e f=>b c o e f.1 f.2.1 f.2.2.1 f.2.2.2.1 f.2.2.2.2
theorem SameAd.refl (S:Sh):SameAd S S:=⟨rfl,rfl,rfl,rfl,rfl⟩
theorem SameAd.trans {S S1 S2:Sh} (h:SameAd S S1) (h':SameAd S1 S2):SameAd S S2:=⟨h'.1.trans h.1,h'.2.1.trans h.2.1,h'.2.2.1.trans h.2.2.1,h'.2.2.2.1.trans h.2.2.2.1,h'.2.2.2.2.trans h.2.2.2.2⟩
theorem SameAd.far {S S':Sh} {b p:Addr} (h:SameAd S S') (f:Far b p S):Far b p S':=⟨f.1,by rw[h.1];exact f.2.1,by rw[h.2.1];exact f.2.2.1,by rw[h.2.2.1];exact f.2.2.2.1,by rw[h.2.2.2.1];exact f.2.2.2.2⟩
theorem zG7 {C:Addr} {H:Hp} {p b:Addr} {S:Sh} {l0 l1:List V} (A:ShAt C H p S) (f:Far b p S) (hb:H b=some (.lst l0)):ShAt C (upd H b (.lst l1)) p S:=by
 obtain⟨xs,h1,h2⟩:=A.hr
 obtain⟨f1,f2,f3,f4,f5⟩:=f
 have t:=YF (o:=HO.lst l1) hb
 exact⟨by rw[QH (Ne.symm f1)];exact A.ob,by rw[QH (Ne.symm f2)];exact A.hc,⟨xs,by rw[QH (Ne.symm f3)];exact h1,h2.same t⟩,by rw[QH (Ne.symm f4)];exact A.hh,by rw[QH (Ne.symm f5)];exact A.hm,A.ne,A.fm,A.s8,A.rm,A.l1,A.l2,A.dp,A.cm⟩
theorem KB.trans {H H1 H2:Hp} {p:Addr} {S S1:Sh} (a:KB p S H H1) (ad:SameAd S S1) (b:KB p S1 H1 H2):KB p S H H2:=fun c o e f=>b c o (a c o e f) (ad.far f)
theorem KB.tups {C:Addr} {H H':Hp} {p:Addr} {S:Sh} (A:ShAt C H p S) (b:KB p S H H'):TupS H H':=fun c xs e=>by
 obtain⟨ys,h1,_⟩:=A.hr
 refine b c _ e ⟨fun z=>?_,fun z=>?_,fun z=>?_,fun z=>?_,fun z=>?_⟩
 ·rw[z,A.ob] at e;cases e
 ·rw[z,A.hc] at e;cases e
 ·rw[z,h1] at e;cases e
 ·rw[z,A.hh] at e;cases e
 ·rw[z,A.hm] at e;cases e
def Fr (H:Hp) (p:Addr) (S:Sh):Prop:=H p=none/\H S.pc=none/\H S.pr=none/\H S.ph=none/\H S.pm=none
theorem Fr.far {H:Hp} {p b:Addr} {S:Sh} {o:HO} (f:Fr H p S) (e:H b=some o):Far b p S:=⟨QJ e f.1,QJ e f.2.1,QJ e f.2.2.1,QJ e f.2.2.2.1,QJ e f.2.2.2.2⟩
theorem Fr.same {H H1 H2:Hp} {p:Addr} {S:Sh} (f:Fr H p S) (g:Same H H1) (b:KB p S H1 H2):Same H H2:=fun c o e=>b c o (g c o e) (f.far e)
theorem Hs.came {C:Addr} {H H':Hp} {p:Addr} {S:Sh} {ks:List Kd} {k:Kd} {c:Nat} {y:V} (h:Hs C H p S ks) (hn:∀ i:Nat,S.os[i]? ≠ some (some k)) (hc:IsFirst (fun c=>Qx S.os k (cAt S.cs k.st c)) S.n c) (hok:k.th.ok 3=true) (A:ShAt C H' p (zBL S k c y)):Hs C H' p (zBL S k c y) (ks++[k]):=by
 refine⟨A,zER h.ok hok,h.hi.came h.A.fm hn hc,fun i j k' hi hj=>?_⟩
 have hi:(S.os++[some k])[i]? = some (some k'):=hi
 have hl:=h.hi.len
 by_cases z:i < S.os.length
 ·rw[List.getElem?_append_left z] at hi
  by_cases w:j < ks.length
  ·rw[List.getElem?_append_left w]
   exact h.la i j k' hi hj
  ·rw[List.getElem?_append_right (by omega)]
   intro e
   have e2:=List.mem_of_getElem? e
   rw[List.mem_singleton.mp e2] at hi
   exact hn i hi
 ·have:=(List.getElem?_eq_some_iff.mp hi).1
  rw[List.length_append,List.length_singleton] at this
  rw[List.getElem?_eq_none (by rw[List.length_append,List.length_singleton];omega)]
  exact fun e=>nomatch e
theorem Hs.gone {C:Addr} {H H':Hp} {p:Addr} {S:Sh} {ks:List Kd} {k:Kd} {c i:Nat} (h:Hs C H p S ks) (hi:S.os[i]? = some (some k)) (hc:IsFirst (fun c=>Qx S.os k (cAt S.cs k.st c)) S.n c) (A:ShAt C H' p (JX S k c i)):Hs C H' p (JX S k c i) ks:=by
 refine⟨A,zGk h.ok,h.hi.gone h.A.fm hi hc,fun i' j k' hi' hj=>?_⟩
 have hi':(S.os.set i none)[i']? = some (some k'):=hi'
 by_cases z:i=i'
 ·subst z
  rw[List.getElem?_set_self (List.getElem?_eq_some_iff.mp hi).1] at hi'
  cases hi'
 ·rw[List.getElem?_set_ne z] at hi'
  exact h.la i' j k' hi' hj
def zIc (C:Addr):Sp:=fun vs H Q _=>∃ (p:Addr) (S:Sh) (ks:List Kd) (x:V) (k:Kd) (w:Int),vs=[.ref p,.int w,x]/\Hs C H p S ks/\IsK H k x/\k.deep<=3/\k.th.ok 3=true /\
 (∀ S' H',SameAd S S'->KB p S H H'->Hs C H' p S' ks->Q (.bl false) H')/\∀ S' H',SameAd S S'->KB p S H H'->Hs C H' p S' (ks++[k])->Q (.bl true) H'
def zDk (K:W.Frag) (C:Addr):Sp:=fun vs H Q _=>∃ (p b:Addr) (S:Sh) (ns:List Int) (way bas pool:Int),vs=[.ref p,.ref b,.int way,.int bas,.int pool]/\Hs C H p S []/\SqL K H b (ns.map V.int)/\ns.length<=63/\0 < pool/\pool<=30/\0<=bas/\bas < 1000000000000 /\
 ∀ S' ks l cx H',SameAd S S'->KB p S H H'->Hs C H' p S' ks->Far l p S'->H l=none->H' l=some (.lst cx)->IsKos H' (ks.map some) cx->KOk ks->Q (.ref l) H'
def zKM:Sp:=fun vs H Q _=>∃ (t l1 l2:Addr) (cs:List Int) (ys:List V) (n:Nat),vs=[.ref t,.int (n:Nat)]/\H t=some (.tup [.ref l1,.ref l2])/\H l1=some (.lst (cs.map V.int))/\H l2=some (.lst ys)/\cs.length=n/\n<=4096/\∀ H',Same H H'->Q (.bl true) H'
theorem zGL (T:Txt K mg a):FnOk P w K mg base CX0 1 a.f_Lwhole a.d_Lwhole zAb zFJ:=by
 refine T.F_Lwhole.ok sc_Lwhole (fun vs H Q E h=>?_) (fun cdv A outer s H vs Q E hr h=>?_)
 ·obtain⟨i,rfl,_⟩:=h
  rfl
 have nd:=sc_Lwhole.nd
 obtain⟨i,rfl,q⟩:=h
 refine⟨_,(QG (QN (YJ (QL QU rfl T.z_isinstance boot_isinstance (QA (pv 0) (QA (QZ (v:=.ty "int") rfl T.z_int boot_int rfl) QC))) (Ye (zDx (QL QU rfl T.z_isinstance boot_isinstance (QA (pv 0) (QA (QZ (v:=.ty "bool") rfl T.z_bool boot_bool rfl) QC)))))))),?_⟩
 walk_at "rd"
 exact q
theorem zAi (T:Txt K mg a)(G_Lstamp:FnOk P w K mg base CX0 4 a.f_Lstamp a.d_Lstamp Y6 (zBB 3))(G_Lstep:FnOk P w K mg base CX0 1 a.f_Lstep a.d_Lstep zCA zFB):FnOk P w K mg base CX0 5 a.f_Lfirst_bare a.d_Lfirst_bare Y3 zGn:=by
 refine T.F_Lfirst_bare.ok sc_Lfirst_bare (fun vs H Q E h=>?_) (fun cdv A outer s H vs Q E hr h=>?_)
 ·obtain⟨p,cs,x,k,c,rfl,_⟩:=h
  rfl
 have nd:=sc_Lfirst_bare.nd
 obtain⟨p,cs,x,k,c,rfl,hp,h2,hk,hd,hc,q⟩:=h
 refine⟨_,(QB (QQ (i:=2) nd rfl (Or.inl rfl) (QM (G_Lstamp.mono (by decide)) hr rfl T.m_Lstamp T.F_Lstamp.kp T.b_Lstamp .nil QP (QA (pv 1) QC)))
 (QB (QQ (i:=3) nd rfl (Or.inl rfl) (QK QX (pv 2) (QL QW rfl T.z_len PySem.boot_len (QA (pv 0) QC))))
 (QB (zHf PassesOwn.never (QS zC2 (Qg YL (pv 0) (pv 3) (fun _ _=>rfl)) (JR Zg QD) (QR _)) (QG (QQ (i:=3) nd rfl (Or.inl rfl) (QK QX (QK Qv (pv 3) (QM (G_Lstep.mono (by decide)) hr rfl T.m_Lstep T.F_Lstep.kp T.b_Lstep .nil QP (QA (pv 2) QC))) (QL QW rfl T.z_len PySem.boot_len (QA (pv 0) QC))))))
 (QG (QN (pv 3)))))),?_⟩
 obtain⟨c1,c2,c3⟩:=hc
 have n0:0 < cs.length:=by omega
 have at':∀ i,atI (cs.map V.int) ((sl k.st cs.length i:Nat):Int)=some (V.int (cAt cs k.st i)):=fun i=>YM (by rw[List.getElem?_map,YZ n0];rfl)
 try walk_at "rd"
 refine⟨x,k,rfl,hk,hd,?_⟩
 show zAa [V.ref p] _ _
 rw[Qe hp,List.length_map]
 try walk_at "rd"
 refine⟨by omega,fun m σ H'=>∃ i,m=c - i/\i<=c/\H'=H/\σ=[some (.ref p),some x,some (.int k.st),some (.int (sl k.st cs.length i:Nat))],⟨_,0,rfl,Nat.zero_le _,rfl,by rw[Zw n0,zJq]⟩,?_⟩
 rintro m σ H' ⟨i,em,hi,eH,eσ⟩
 subst em eH eσ
 try walk_at "rd"
 rw[Q4 hp (at' i)]
 try walk_at "rd"
 by_cases z:cAt cs k.st i = -1
 ·have ei:i=c:=by
   rcases Nat.lt_or_ge i c with y | y
   ·exact absurd z (c3 i y)
   ·omega
  rw[if_neg (fun h=>h z),ei]
  exact q
 ·rw[if_pos z]
  have hne:i ≠ c:=fun e=>z (by rw[e];exact c2)
  refine⟨fun σ' H2=>H2=H'/\σ'=[some (.ref p),some x,some (.int k.st),some (.int (sl k.st cs.length (i+1):Nat))],fun σ' H2 h=>⟨c - (i+1),by omega,i+1,rfl,by omega,h.1,h.2⟩,?_⟩
  refine⟨_,rfl,?_⟩
  try walk_at "rd"
  show zAa [V.ref p] _ _
  rw[Qe hp,List.length_map]
  try walk_at "rd"
  rw[zI7 n0]
  exact⟨by omega,rfl⟩
theorem zHm (T:Txt K mg a)(G_Hput:FnOk P w K mg base (CXe P w) 12 a.f_Hput a.d_Hput zCi (zCG a.a_Shelf a.a_Full))(G_Htake:FnOk P w K mg base (CXe P w) 13 a.f_Htake a.d_Htake We (Wq a.a_Shelf a.a_Lacking))(G_Htake_last:FnOk P w K mg base (CXe P w) 14 a.f_Htake_last a.d_Htake_last ZV (zFe a.a_Shelf a.a_Lacking)):FnOk P w K mg base CX0 15 a.f_Lcame a.d_Lcame zCR (zIc a.a_Shelf):=by
 refine T.F_Lcame.ok sc_Lcame (fun vs H Q E h=>?_) (fun cdv A outer s H vs Q E hr h=>?_)
 ·obtain⟨p,S,ks,x,k,w,rfl,_⟩:=h
  rfl
 have nd:=sc_Lcame.nd
 obtain⟨p,S,ks,x,k,w,rfl,h,hk,hd,hok,q0,q1⟩:=h
 obtain⟨bmF,xFull⟩:=T.x_Full
 obtain⟨bmL,xLacking⟩:=T.x_Lacking
 refine⟨_,(QB (QQ (i:=3) nd rfl (Or.inl rfl) Q8)
 (QB (zJI ⟨rfl,rfl,rfl⟩ (fun pl RX=>(QG (QT (QS zAq (pv 1) QD (QR _)) (QG (QQ (i:=3) nd rfl (Or.inl rfl) (zCv (pv 0) T.cl_Shelf T.M_Hput (G_Hput.mono (by decide)) hr T.b_Hput .nil (QA (pv 2) (QA (pv 1) QC))))) (QG (QT (QS zAq (pv 1) QD (QR _)) (QG (Qm (zCv (pv 0) T.cl_Shelf T.M_Htake (G_Htake.mono (by decide)) hr T.b_Htake .nil (QA (pv 2) QC)))) (QG (Qm (zGS (pv 0) T.cl_Shelf T.M_Htake_last (G_Htake_last.mono (by decide)) hr T.b_Htake_last .nil)))))))) rfl T.m_Full xFull (fun ea=>(QG (QQ (i:=3) nd rfl (Or.inl rfl) Q8))) rfl T.m_Lacking xLacking (fun ea=>(QG (QQ (i:=3) nd rfl (Or.inl rfl) Q8))))
 (QG (QN (Qn zI4 (pv 3) Wj (QR _)))))),?_⟩
 have A:=h.A
 try walk_at "rd"
 by_cases hw:w < 5
 ·(try simp only[hw])
  try walk_at "rd"
  rw[Yp A (by decide +kernel)]
  refine⟨p,S,x,k,_,rfl,A,hk,hd,hok,(fun i H2 hi b A2=>?_),(fun c H2 hn hrm hc b A2=>?_),fun hn hf ea H2 g2 hea=>?_⟩
  ·(try walk_at "rd")
   refine⟨true,rfl,.inr ⟨_,rfl⟩,?_⟩
   rw[decide_eq_false (fun z=>by cases z)]
   exact q0 { S with hs:=S.hs.set i (V.int w) } H2 ⟨rfl,rfl,rfl,rfl,rfl⟩ (.but b) ⟨A2,h.ok,h.hi,h.la⟩
  ·(try walk_at "rd")
   refine⟨true,rfl,.inr ⟨_,rfl⟩,?_⟩
   rw[decide_eq_true rfl]
   exact q1 (zBL S k c (V.int w)) H2 ⟨rfl,rfl,rfl,rfl,rfl⟩ (.but b) (h.came hn hc hok A2)
  ·have G:=g2.trans (QE (o:=ExO ea (.ref a.a_Full)) hea)
   refine⟨ea,rfl,_,rfl,_,xFull,.inl ⟨by simp,true,rfl,.inl rfl,?_⟩⟩
   rw[decide_eq_false (fun z=>by cases z)]
   exact q0 S _ (.refl S) (.of G) (h.same G)
 ·(try simp only[hw])
  try walk_at "rd"
  by_cases hw7:w < 7
  ·(try simp only[hw7])
   try walk_at "rd"
   rw[Yp A (by decide +kernel)]
   refine⟨p,S,x,k,rfl,A,hk,hd,hok,(fun i c H2 hi hc b A2=>?_),fun hn ea H2 g2 hea=>?_⟩
   ·(try walk_at "rd")
    refine⟨true,rfl,.inl rfl,?_⟩
    rw[decide_eq_false (fun z=>by cases z)]
    exact q0 (JX S k c i) H2 ⟨rfl,rfl,rfl,rfl,rfl⟩ (.but b) (h.gone hi hc A2)
   ·have G:=g2.trans (QE (o:=ExO ea (.ref a.a_Lacking)) hea)
    refine⟨ea,rfl,_,rfl,_,xLacking,.inr ⟨xLacking.sub T.s_Lacking_Full,by simp,true,rfl,.inl rfl,?_⟩⟩
    rw[decide_eq_false (fun z=>by cases z)]
    exact q0 S _ (.refl S) (.of G) (h.same G)
  ·(try simp only[hw7])
   try walk_at "rd"
   rw[Yp A (by decide +kernel)]
   refine⟨p,S,rfl,A,h.ok,(fun i c k2 x2 y2 t H2 hL hc b A2 hk2 hy ht=>?_),fun hn ea H2 g2 hea=>?_⟩
   ·(try walk_at "rd")
    refine⟨true,rfl,.inl rfl,?_⟩
    rw[decide_eq_false (fun z=>by cases z)]
    exact q0 (JX S k2 c i) H2 ⟨rfl,rfl,rfl,rfl,rfl⟩ (.but b) (h.gone hL.1 hc A2)
   ·have G:=g2.trans (QE (o:=ExO ea (.ref a.a_Lacking)) hea)
    refine⟨ea,rfl,_,rfl,_,xLacking,.inr ⟨xLacking.sub T.s_Lacking_Full,by simp,true,rfl,.inl rfl,?_⟩⟩
    rw[decide_eq_false (fun z=>by cases z)]
    exact q0 S _ (.refl S) (.of G) (h.same G)
end
section
variable {P:Program} {w:World} {K:W.Frag} {mg:Str->Option Value} {base:Heap} {a:Ad}
theorem zEJ (T:Txt K mg a)(G_Lkey:FnOk P w K mg base CX0 5 a.f_Lkey a.d_Lkey zEa zGr)(G_Lcame:FnOk P w K mg base CX0 15 a.f_Lcame a.d_Lcame zCR (zIc a.a_Shelf)):FnOk P w K mg base CX0 16 a.f_Lwalked a.d_Lwalked JG (zDk K a.a_Shelf):=by
 refine T.F_Lwalked.ok sc_Lwalked (fun vs H Q E h=>?_) (fun cdv A outer s H vs Q E hr h=>?_)
 ·obtain⟨p,b,S,ns,way,bas,pool,rfl,_⟩:=h
  rfl
 have nd:=sc_Lwalked.nd
 obtain⟨p,b,S,ns,way,bas,pool,rfl,h,hS,h63,pl0,pl1,b0,b1,q⟩:=h
 refine⟨_,(QB (QQ (i:=5) nd rfl (Or.inl rfl) (ZU QC))
 (QB (YT PassesOwn.never rfl (YO (Zk zBp (pv 1) (Z2 QD) (Z2 QD))) (Qt (i:=6) nd rfl (Or.inl rfl)) (QB (QQ (i:=7) nd rfl (Or.inl rfl) (QM (G_Lkey.mono (by decide)) hr rfl T.m_Lkey T.F_Lkey.kp T.b_Lkey .nil QP (QA (pv 2) (QA (pv 3) (QA (QK QX (QK Qk (pv 6) QD) (pv 4)) QC)))))
 (QG (QT (QY (QM (G_Lcame.mono (by decide)) hr rfl T.m_Lcame T.F_Lcame.kp T.b_Lcame .nil QP (QA (pv 0) (QA (QK QX (pv 6) QD) (QA (pv 7) QC))))) (QG (Qm (Ws PySem.F.plainAttrs_list PySem.F.slot_list_append PySem.F.type_list_append ZH (pv 5) (QA (pv 7) QC)))) QO))))
 (QG (QN (pv 5))))),?_⟩
 try walk_at "rd"
 refine⟨by decide,fun l hl=>?_⟩
 have g1:=QE (o:=HO.lst []) hl
 refine⟨b,_,rfl,g1.seq hS,fun l0 hl0=>?_⟩
 obtain⟨cells,ec,lc⟩:=zIa ns (some 3) (some 83)
 rw[ec]
 have g2:=QE (o:=HO.lst (cells.map V.int)) hl0
 have G:=g1.trans g2
 have hl2:=g2 _ _ (QF (H:=H) (a:=l) (o:=HO.lst []))
 have hl02:upd (upd H l (HO.lst [])) l0 (HO.lst (cells.map V.int)) l0=some (HO.lst (cells.map V.int)):=QF
 have nl:l0 ≠ l:=fun e=>by rw[e,QF] at hl0;cases hl0
 have fl:=Zh h.A hl
 have fl0:=Zh (h.A.same g1) hl0
 have h2:=h.same G
 generalize upd (upd H l (HO.lst [])) l0 (HO.lst (cells.map V.int))=H2 at G hl2 hl02 h2 ⊢
 refine⟨l0,rfl,⟨_,SqL.of hl02⟩,Zz (xs:=cells.map V.int) (fun i σ H'=>∃ S' ks cx u v,Hs a.a_Shelf H' p S' ks/\SameAd S S'/\KB p S H H'/\H' l=some (.lst cx)/\IsKos H' (ks.map some) cx/\KOk ks/\ks.length<=i/\H' l0=some (.lst (cells.map V.int))/\σ=[some (.ref p),some (.ref b),some (.int way),some (.int bas),some (.int pool),some (.ref l),u,v]) ⟨S,[],[],none,none,h2,.refl S,.of G,hl2,IsKos.nil,fun k hk=>absurd hk List.not_mem_nil,Nat.zero_le _,hl02,rfl⟩ (fun i σ H' _ h=>?_) (fun i x σ H' e h=>?_) (fun σ H' h=>?_)⟩
 ·obtain⟨_,_,_,_,_,_,_,_,_,_,_,_,h,_⟩:=h
  exact SqL.of h
 ·obtain⟨S1,ks,cx,u,v,h1,ad,kb,hc,hk0,kk,il,h00,rfl⟩:=h
  obtain⟨cell,hcell,rfl⟩:=List.mem_map.mp (List.mem_of_getElem? e)
  have ill:i < cells.length:=by have:=(List.getElem?_eq_some_iff.mp e).1;rwa [List.length_map] at this
  try walk_at "rd"
  refine⟨pl0,way,bas,_,rfl,b0,b1,Int.emod_nonneg _ (by omega),by have:=Int.emod_lt_of_pos (cell / 8) pl0;omega,fun x2 k2 H5 g5 hk2 hd2 hok2=>?_⟩
  try walk_at "rd"
  refine⟨p,S1,ks,x2,k2,_,rfl,h1.same g5,hk2,hd2,hok2,(fun S2 H6 ad2 kb2 h2=>?_),fun S2 H6 ad2 kb2 h2=>?_⟩
  ·refine⟨false,rfl,?_⟩
   rw[if_neg (by decide)]
   have kk2:=kb.trans ad (.trans (.of g5) (.refl S1) kb2)
   have ts:=(KB.trans (.of g5) (.refl S1) kb2).tups h1.A
   exact⟨S2,ks,h2,ad.trans ad2,kk2,cx,kb2 _ _ (g5 _ _ hc) (ad.far fl),hk0.same ts,kk,by omega,kb2 _ _ (g5 _ _ h00) (ad.far fl0)⟩
  ·refine⟨true,rfl,?_⟩
   rw[if_pos rfl]
   have kk2:=kb.trans ad (.trans (.of g5) (.refl S1) kb2)
   have ts:=(KB.trans (.of g5) (.refl S1) kb2).tups h1.A
   have ts2:=kb2.tups (h1.A.same g5)
   have hc6:=kb2 _ _ (g5 _ _ hc) (ad.far fl)
   have f2:=(ad.trans ad2).far fl
   have cl:=hk0.len
   rw[List.length_map] at cl
   refine⟨.inl ⟨rfl,_,SqL.of hc6⟩,?_⟩
   rw[Ym hc6]
   have tb:=YF (o:=HO.lst (cx++[x2])) hc6
   refine⟨Qh (by omega),S2,ks++[k2],⟨zG7 h2.A f2 hc6,h2.ok,h2.hi,h2.la⟩,ad.trans ad2,fun c o e f=>?_,cx++[x2],QF,?_,fun k' hk'=>?_,by rw[List.length_append,List.length_singleton];omega,by rw[QH nl];exact kb2 _ _ (g5 _ _ h00) (ad.far fl0)⟩
   ·rw[QH (QJ e hl)]
    exact kk2 c o e f
   ·rw[List.map_append]
    exact ((hk0.same ts).same tb).snoc (o:=some k2) (IsK.same tb (IsK.same ts2 hk2))
   ·rcases List.mem_append.mp hk' with y | y
    ·exact kk k' y
    ·rw[List.mem_singleton.mp y];exact⟨hd2,hok2⟩
 ·obtain⟨S1,ks,cx,u,v,h1,ad,kb,hc,hk0,kk,il,h00,rfl⟩:=h
  try walk_at "rd"
  exact q S1 ks l cx _ ad kb h1 (ad.far fl) hl hc hk0 kk
theorem zCz (T:Txt K mg a)(G_Lwhole:FnOk P w K mg base CX0 1 a.f_Lwhole a.d_Lwhole zAb zFJ):FnOk P w K mg base CX0 2 a.f_Lis_form a.d_Lis_form WJ zKM:=by
 refine T.F_Lis_form.ok sc_Lis_form (fun vs H Q E h=>?_) (fun cdv A outer s H vs Q E hr h=>?_)
 ·obtain⟨t,l1,l2,cs,ys,n,rfl,_⟩:=h
  rfl
 have nd:=sc_Lis_form.nd
 obtain⟨t,l1,l2,cs,ys,n,rfl,ht,h1,h2,hn,n4,q⟩:=h
 refine⟨_,(QB (QT (PW.pt (zBU (W6 (QY (QL QU rfl T.z_isinstance boot_isinstance (QA (pv 0) (QA (QZ (v:=.ty "tuple") rfl T.z_tuple boot_tuple rfl) QC))))) (zBU (QS zC2 (QL QW rfl T.z_len PySem.boot_len (QA (pv 0) QC)) QD (QR _)) (zAM (W6 (QY (QL QU rfl T.z_isinstance boot_isinstance (QA (Qg YL (pv 0) QD (fun _ _=>rfl)) (QA (QZ (v:=.ty "list") rfl T.z_list boot_list rfl) QC))))))))) (QG (QN Wj)) QO)
 (QB (QT (PW.pt (zBU (W6 (QY (QL QU rfl T.z_isinstance boot_isinstance (QA (Qg YL (pv 0) QD (fun _ _=>rfl)) (QA (QZ (v:=.ty "list") rfl T.z_list boot_list rfl) QC))))) (zAM (QS zC2 (QL QW rfl T.z_len PySem.boot_len (QA (Qg YL (pv 0) QD (fun _ _=>rfl)) QC)) (pv 1) (QR _))))) (QG (QN Wj)) QO)
 (QG (QN (QL (zAZ rfl) rfl T.z_all boot_all (QA (Jt "_law_cell" [] [] rfl ⟨rfl,rfl,by decide +kernel,by decide +kernel,rfl,by decide +kernel,by decide +kernel,rfl,by decide +kernel⟩ rfl (YO (Qg YL (pv 0) QD (fun _ _=>rfl))) (fun C s1 H1 fp=>(QM (G_Lwhole.mono (by decide)) hr rfl T.m_Lwhole T.F_Lwhole.kp T.b_Lwhole .nil QP (QA (pv 0) QC)))) QC)))))),?_⟩
 try walk_at "rd"
 have i0:∀ Q',ixC (V.ref t) (V.int 0) H Q'=Q' (V.ref l1) H:=fun Q'=>Q2 ht rfl
 have i1:∀ Q',ixC (V.ref t) (V.int 1) H Q'=Q' (V.ref l2) H:=fun Q'=>Q2 ht rfl
 have s0:∀ Q',Q7 K [V.ref t,V.ty "tuple"] H Q'=Q' (.bl true) H:=fun Q'=>zDX ht
 have s1:∀ Q',Q7 K [V.ref l1,V.ty "list"] H Q'=Q' (.bl true) H:=fun Q'=>Wt h1
 have s2:∀ Q',Q7 K [V.ref l2,V.ty "list"] H Q'=Q' (.bl true) H:=fun Q'=>Wt h2
 have n0:∀ Q',zAa [V.ref t] H Q'=Q' (.int 2) H:=fun Q'=>zCt ht
 have n1:∀ Q',zAa [V.ref l1] H Q'=Q' (.int (n:Nat)) H:=fun Q'=>by rw[Qe h1,List.length_map,hn]
 iterate 8 ((try simp only[i0,i1,s0,s1,s2,n0,n1,not_true,not_false,ne_eq]);(try walk_at "rd"))
 refine⟨⟨_,SqL.of h1⟩,YH (xs:=cs.map V.int) (fun i zs H'=>H'=H/\zs=(List.replicate i true).map V.bl) ⟨rfl,rfl⟩ (fun _ _ _ _ h=>by rw[h.1];exact SqL.of h1) (fun i zs H' hi h=>?_) (fun i x zs H' e h=>?_) (fun zs H' h=>?_)⟩
 ·obtain⟨_,rfl⟩:=h
  rw[List.length_map] at hi
  rw[List.length_map,List.length_replicate]
  exact Q0 (by omega)
 ·obtain⟨rfl,rfl⟩:=h
  obtain⟨c,_,rfl⟩:=List.mem_map.mp (List.mem_of_getElem? e)
  try walk_at "rd"
  exact⟨_,rfl,rfl,zKi⟩
 ·obtain⟨rfl,rfl⟩:=h
  intro pz hpz
  refine⟨pz,List.replicate _ true,rfl,SqL.of QF,?_⟩
  rw[show (List.replicate (cs.map V.int).length true).all id=true by rw[List.all_eq_true];exact fun b hb=>List.eq_of_mem_replicate hb]
  exact q _ (QE hpz)
end
section
variable {P:Program} {w:World} {K:W.Frag} {mg:Str->Option Value} {base:Heap} {a:Ad}
def DueO (ks ts:List Kd) (os:List (Option Kd)) (i:Nat):Prop:=os.length=ks.length/\∀ (j:Nat) (k:Kd),ks[j]? = some k->os[j]? = some (if j < i/\(k∈ks.drop (j+1)\/k ∉ ts) then none else some k)
def zHl:Sp:=fun vs H Q _=>∃ (l th:Addr) (cx tx:List V) (ks ts:List Kd) (n:Nat),vs=[.ref l,.ref th,.int (n:Nat)]/\H l=some (.lst cx)/\IsKos H (ks.map some) cx/\H th=some (.lst tx)/\IsKos H (ts.map some) tx/\KOk ks/\KOk ts/\S8 (n:Int)/\n<=64/\3*ks.length<=2*n /\
 ∀ t l1 l2 L ys os H',Same H H'->H l1=none->H l2=none->H' t=some (.tup [.ref l1,.ref l2])->H' l1=some (.lst ((L.map (gm os)).map V.int))->H' l2=some (.lst ys)->IsKos H' os ys->LB (fun p=>(ks[p]?).map Kd.st) n ks.length L->DueO ks ts os ks.length->Q (.ref t) H'
def LdI (H0:Hp) (pc pr ps:Addr) (n:Nat) (ks:List Kd) (cx:List V) (i:Nat) (H':Hp):Prop:=∃ (L:List Int) (ss:List Int),Same H0 H'/\LB (fun p=>(ks[p]?).map Kd.st) n i L/\H' pc=some (.lst (L.map V.int))/\H' pr=some (.lst (cx.take i))/\H' ps=some (.lst (ss.map V.int))/\ss.length=i/\∀ j,j < i->∃ s:Nat,ss[j]? = some (s:Int)/\L[s]? = some (j:Int)
def Ld2 (H0:Hp) (pc pr ps:Addr) (ks ts:List Kd) (L:List Int) (ss:List Int) (i:Nat) (H':Hp):Prop:=∃ (os:List (Option Kd)) (ys:List V),Same H0 H'/\DueO ks ts os i/\H' pc=some (.lst ((L.map (gm os)).map V.int))/\H' pr=some (.lst ys)/\IsKos H' os ys/\H' ps=some (.lst (ss.map V.int))
theorem zLD {n:Nat} {ks:List Kd} {L:List Int} {os:List (Option Kd)} {s k:Nat} (n0:0 < n) (hL:LB (fun p=>(ks[p]?).map Kd.st) n ks.length L) (hs:L[s]? = some (k:Int)) (io:k < os.length):(L.map (gm os)).set s (-2)=L.map (gm (os.set k none)):=by
 have La:=hL.laid n0
 have hsl:s < L.length:=(List.getElem?_eq_some_iff.mp hs).1
 refine List.ext_getElem? fun j=>?_
 by_cases z:s=j
 ·subst z
  rw[List.getElem?_set_self (by rw[List.length_map];exact hsl),List.getElem?_map,hs]
  show some (-2)=some (gm (os.set k none) (k:Int))
  rw[Yd,List.getElem?_set_self io]
 ·rw[List.getElem?_set_ne z,List.getElem?_map,List.getElem?_map]
  cases hj:L[j]? with
  | none=>rfl
  | some v =>
   show some (gm os v)=some (gm (os.set k none) v)
   rcases hL.ge n0 hj with y | ⟨p,hp,y⟩
   ·rw[Za (by omega),Za (by omega)]
   ·have pi:k ≠ p:=fun q=>by
     subst q
     exact z (La.one _ _ _ hs (by rw[hj,y]) (by omega))
    rw[y,Yd,Yd,List.getElem?_set_ne pi]
theorem zK0 {n:Nat} {ks:List Kd} {L:List Int} (n0:0 < n) (hL:LB (fun p=>(ks[p]?).map Kd.st) n ks.length L):L.map (gm (ks.map some))=L:=by
 refine (List.map_congr_left fun v hv=>?_).trans (List.map_id L)
 obtain⟨j,hj⟩:=List.getElem?_of_mem hv
 rcases hL.ge n0 hj with y | ⟨p,hp,y⟩
 ·rw[Za (by omega)];rfl
 ·rw[y,Yd,List.getElem?_map,List.getElem?_eq_getElem hp];rfl
theorem DueO.zero {ks ts:List Kd}:DueO ks ts (ks.map some) 0:=⟨List.length_map ..,fun j k hk=>by rw[List.getElem?_map,hk,if_neg (fun h=>absurd h.1 (Nat.not_lt_zero _))];rfl⟩
theorem DueO.out {ks ts:List Kd} {os:List (Option Kd)} {i:Nat} {k:Kd} (h:DueO ks ts os i) (hk:ks[i]? = some k) (c:k∈ks.drop (i+1)\/k ∉ ts):DueO ks ts (os.set i none) (i+1):=by
 refine⟨by rw[List.length_set];exact h.1,fun j k' hk'=>?_⟩
 by_cases z:i=j
 ·subst z
  rw[hk] at hk'
  cases hk'
  rw[List.getElem?_set_self (by rw[h.1];exact (List.getElem?_eq_some_iff.mp hk).1),if_pos ⟨Nat.lt_succ_self _,c⟩]
 ·rw[List.getElem?_set_ne z,h.2 j k' hk']
  by_cases y:k'∈ks.drop (j+1)\/k' ∉ ts
  ·by_cases w:j < i
   ·rw[if_pos ⟨w,y⟩,if_pos ⟨by omega,y⟩]
   ·rw[if_neg (fun h=>w h.1),if_neg (fun h=>by omega)]
  ·rw[if_neg (fun h=>y h.2),if_neg (fun h=>y h.2)]
theorem DueO.stay {ks ts:List Kd} {os:List (Option Kd)} {i:Nat} {k:Kd} (h:DueO ks ts os i) (hk:ks[i]? = some k) (c:¬ (k∈ks.drop (i+1)\/k ∉ ts)):DueO ks ts os (i+1):=by
 refine⟨h.1,fun j k' hk'=>?_⟩
 rw[h.2 j k' hk']
 by_cases y:k'∈ks.drop (j+1)\/k' ∉ ts
 ·by_cases w:j < i
  ·rw[if_pos ⟨w,y⟩,if_pos ⟨by omega,y⟩]
  ·rw[if_neg (fun h=>w h.1),if_neg (fun h=>?_)]
   have:j=i:=by omega
   subst this
   rw[hk] at hk'
   cases hk'
   exact c y
 ·rw[if_neg (fun h=>y h.2),if_neg (fun h=>y h.2)]
theorem some_mem {ks:List Kd} {k:Kd}:some k∈ks.map some ↔ k∈ks:=by
 refine⟨fun h=>?_,fun h=>List.mem_map.mpr ⟨k,h,rfl⟩⟩
 obtain⟨j,h1,h2⟩:=List.mem_map.mp h
 cases h2
 exact h1
theorem zCg {ks:List Kd} (h:KOk ks):∀ o∈ks.map some,Yn 20 o:=fun o ho=>by
 obtain⟨k,hk,rfl⟩:=List.mem_map.mp ho
 exact Nat.le_trans (h k hk).1 (by decide)
theorem zIF (T:Txt K mg a)(G_Lfirst_bare:FnOk P w K mg base CX0 5 a.f_Lfirst_bare a.d_Lfirst_bare Y3 zGn):FnOk P w K mg base CX0 6 a.f_Llaid a.d_Llaid zCO zHl:=by
 refine T.F_Llaid.ok sc_Llaid (fun vs H Q E h=>?_) (fun cdv A outer s H vs Q E hr h=>?_)
 ·obtain⟨l,th,cx,tx,ks,ts,n,rfl,_⟩:=h
  rfl
 have nd:=sc_Llaid.nd
 obtain⟨l,th,cx,tx,ks,ts,n,rfl,hl,hcx,hth,htx,kk,kt,s8,n64,hlt,q⟩:=h
 refine⟨_,(QB (QQ (i:=3) nd rfl (Or.inl rfl) (QK zHV (ZU (QA (JR Zg QD) QC)) (pv 2)))
 (QB (QQ (i:=4) nd rfl (Or.inl rfl) (ZU QC))
 (QB (QQ (i:=5) nd rfl (Or.inl rfl) (ZU QC))
 (QB (YT PassesOwn.never rfl (YO (pv 0)) (Qt (i:=6) nd rfl (Or.inl rfl)) (QB (Qm (Ws PySem.F.plainAttrs_list PySem.F.slot_list_append PySem.F.type_list_append ZH (pv 5) (QA (QM (G_Lfirst_bare.mono (by decide)) hr rfl T.m_Lfirst_bare T.F_Lfirst_bare.kp T.b_Lfirst_bare .nil QP (QA (pv 3) (QA (pv 6) QC))) QC)))
 (QB (ZK (QL QW rfl T.z_len PySem.boot_len (QA (pv 4) QC)) (ZR (pv 3) (Qg YL (pv 5) (JR Zg QD) (fun _ _=>rfl)) Wp))
 (QG (Qm (Ws PySem.F.plainAttrs_list PySem.F.slot_list_append PySem.F.type_list_append ZH (pv 4) (QA (pv 6) QC)))))))
 (QB (YT PassesOwn.never rfl (Y7 rfl T.z_range (QA (QL QW rfl T.z_len PySem.boot_len (QA (pv 0) QC)) QC)) (Qt (i:=7) nd rfl (Or.inl rfl)) (QG (QT (PW.pt (zBU (QS (zK3 hr.units) (Qg YL (pv 0) (pv 7) (fun _ _=>rfl)) (Zk zBp (pv 0) (Z2 (QK Qv (pv 7) QD)) Jl) (by with_unfolding_all rfl)) (zAM (QS (zBO hr.units) (Qg YL (pv 0) (pv 7) (fun _ _=>rfl)) (pv 1) (by with_unfolding_all rfl))))) (QB (ZK (JR Zg QD) (ZR (pv 3) (Qg YL (pv 5) (pv 7) (fun _ _=>rfl)) Wp))
 (QG (ZK Q8 (ZR (pv 4) (pv 7) Wp)))) QO)))
 (QG (QN (ZW (QA (pv 3) (QA (pv 4) QC)))))))))),?_⟩
 have n0:0 < n:=by have:=s8.range;omega
 have r8:=s8.range
 have cl:=hcx.len
 rw[List.length_map] at cl
 try walk_at "rd"
 refine⟨by decide,fun l0 hl0=>?_⟩
 have u1:=QE (o:=HO.lst [V.int (-1)]) hl0
 refine⟨l0,_,[V.int (-1)],rfl,rfl,QF,by omega,by omega,?_,fun pc hpc=>?_⟩
 ·show 1*((n:Nat):Int).toNat<=sizeLine
  exact Nat.le_of_lt (Q0 (by omega))
 rw[Int.toNat_natCast,zHN]
 have u2:=QE (o:=HO.lst ((List.replicate n (-1:Int)).map V.int)) hpc
 refine⟨by decide,fun pr hpr=>?_⟩
 have u3:=QE (o:=HO.lst []) hpr
 refine⟨by decide,fun ps hps=>?_⟩
 have u4:=QE (o:=HO.lst []) hps
 have npr:pc ≠ pr:=fun e=>by rw[← e,QF] at hpr;cases hpr
 have nps:pc ≠ ps:=QJ (u3 _ _ QF) hps
 have nrs:pr ≠ ps:=fun e=>by rw[← e,QF] at hps;cases hps
 have fpc:H pc=none:=u1.free hpc
 have fpr:H pr=none:=(u1.trans u2).free hpr
 have fps:H ps=none:=(u1.trans (u2.trans u3)).free hps
 have G:=u1.trans (u2.trans (u3.trans u4))
 have hc4:=(u3.trans u4) _ _ (QF (H:=upd H l0 (HO.lst [V.int (-1)])) (a:=pc) (o:=HO.lst ((List.replicate n (-1:Int)).map V.int)))
 have hr4:=u4 _ _ (QF (H:=upd (upd H l0 (HO.lst [V.int (-1)])) pc (HO.lst ((List.replicate n (-1:Int)).map V.int))) (a:=pr) (o:=HO.lst []))
 have hs4:upd (upd (upd (upd H l0 (HO.lst [V.int (-1)])) pc (HO.lst ((List.replicate n (-1:Int)).map V.int))) pr (HO.lst [])) ps (HO.lst []) ps=some (HO.lst []):=QF
 generalize upd (upd (upd (upd H l0 (HO.lst [V.int (-1)])) pc (HO.lst ((List.replicate n (-1:Int)).map V.int))) pr (HO.lst [])) ps (HO.lst [])=H4 at G hc4 hr4 hs4 ⊢
 refine⟨⟨_,SqL.of (G _ _ hl)⟩,Zz (xs:=cx) (fun i σ H'=>LdI H pc pr ps n ks cx i H'/\∃ u,σ=[some (.ref l),some (.ref th),some (.int (n:Nat)),some (.ref pc),some (.ref pr),some (.ref ps),u,none]) ⟨⟨_,[],G,.zero,hc4,hr4,hs4,rfl,fun j h=>absurd h (Nat.not_lt_zero _)⟩,none,rfl⟩ (fun _ _ _ _ h=>by obtain⟨⟨_,_,g,_⟩,_⟩:=h;exact SqL.of (g _ _ hl)) (fun i x σ H' e h=>?_) (fun σ H' h=>?_)⟩
 ·obtain⟨⟨L,ss,g,lb,hc,hr',hs',sll,hsl⟩,u,rfl⟩:=h
  have il:i < ks.length:=by have:=(List.getElem?_eq_some_iff.mp e).1;omega
  obtain⟨o,e1,e2⟩:=hcx.get e
  have ek:ks[i]? = some ks[i]:=List.getElem?_eq_getElem il
  rw[List.getElem?_map,ek] at e1
  cases e1
  have kd:=kk _ (List.getElem_mem il)
  have La:=lb.laid n0
  have ll:=La.len
  obtain⟨c,hc2⟩:=lb.room (by omega) s8.p2 ks[i].st
  have hx:IsK H' ks[i] x:=IsK.same g.tups e2
  try walk_at "rd"
  refine⟨.inl ⟨rfl,_,SqL.of hs'⟩,pc,L,x,ks[i],c,rfl,hc,by rw[ll];exact s8.p2,hx,kd.1,by rw[ll];exact hc2,?_⟩
  show zK2 (V.ref ps) [V.int ((sl ks[i].st L.length c:Nat):Int)] _ _
  rw[ll]
  have slt:sl ks[i].st n c < L.length:=by rw[ll];exact JW n0
  have hat:L[sl ks[i].st n c]? = some (-1):=by
   have:=YZ (cs:=L) (m:=ks[i].st) (c:=c) (by omega)
   rw[ll,hc2.2.1] at this
   exact this
  generalize hw:sl ks[i].st n c=w at slt hat ⊢
  rw[Ym hs',List.length_map,sll]
  refine⟨Qh (by omega),?_⟩
  have hr5:upd H' ps (HO.lst (ss.map V.int++[V.int (w:Int)])) pr=some (.lst (cx.take i)):=by rw[QH nrs];exact hr'
  have hc5:upd H' ps (HO.lst (ss.map V.int++[V.int (w:Int)])) pc=some (.lst (L.map V.int)):=by rw[QH nps];exact hc
  have l5:(ss.map V.int++[V.int (w:Int)]).length=i+1:=by rw[List.length_append,List.length_map,sll];rfl
  have a5:(ss.map V.int++[V.int (w:Int)])[i]? = some (V.int (w:Int)):=by rw[List.getElem?_append_right (by rw[List.length_map,sll];exact Nat.le_refl _),List.length_map,sll,Nat.sub_self];rfl
  rw[Qe hr5,List.length_take,show min i cx.length=i by omega,Q4 QF ((J1 l5).trans a5),Yg hc5 rfl (by rw[List.length_map];exact slt),← List.map_set]
  have hr6:upd (upd H' ps (HO.lst (ss.map V.int++[V.int (w:Int)]))) pc (HO.lst ((L.set w (i:Int)).map V.int)) pr=some (.lst (cx.take i)):=by rw[QH (Ne.symm npr)];exact hr5
  refine⟨.inl ⟨rfl,_,SqL.of hr6⟩,?_⟩
  rw[Ym hr6,List.length_take]
  refine⟨Qh (by omega),L.set w (i:Int),ss++[(w:Int)],fun b o eb=>?_,?_,by rw[QH npr];exact QF,?_,?_,by rw[List.length_append,sll];rfl,fun j hj=>?_⟩
  ·rw[QH (QJ eb fpr),QH (QJ eb fpc),QH (QJ eb fps)]
   exact g b o eb
  ·rw[← hw]
   exact .put lb (by rw[ek];rfl) hc2
  ·rw[QF,List.take_add_one,e];rfl
  ·rw[QH (Ne.symm nrs),QH (Ne.symm nps),QF,List.map_append];rfl
  ·by_cases z:j < i
   ·obtain⟨s,s1,s2⟩:=hsl j z
    refine⟨s,by rw[List.getElem?_append_left (by omega)];exact s1,?_⟩
    rw[List.getElem?_set_ne (fun y=>by subst y;rw[hat] at s2;have:=Option.some.inj s2;omega)]
    exact s2
   ·have:j=i:=by omega
    subst this
    exact⟨w,by rw[List.getElem?_append_right (by omega),sll,Nat.sub_self];rfl,List.getElem?_set_self slt⟩
 ·obtain⟨⟨L,ss,g,lb,hc,hr',hs',sll,hsl⟩,u,rfl⟩:=h
  rw[cl] at lb sll hsl
  rw[List.take_length] at hr'
  try walk_at "rd"
  rw[Qe (g _ _ hl),cl]
  refine⟨_,rfl,by omega,by omega,?_⟩
  rw[Int.toNat_natCast]
  have La:=lb.laid n0
  have ll:=La.len
  refine ZO (fun i σ H2=>Ld2 H pc pr ps ks ts L ss i H2/\∃ v,σ=[some (.ref l),some (.ref th),some (.int (n:Nat)),some (.ref pc),some (.ref pr),some (.ref ps),u,v]) ⟨⟨ks.map some,cx,g,.zero,by rw[zK0 n0 lb];exact hc,hr',hcx.same g.tups,hs'⟩,none,rfl⟩ (fun i σ H2 hi h=>?_) (fun σ H2 h=>?_)
  ·obtain⟨⟨os,ys,g2,D,hc2,hr2,hos2,hs2⟩,v,rfl⟩:=h
   have ek:ks[i]? = some ks[i]:=List.getElem?_eq_getElem hi
   obtain⟨x,ex,hx⟩:=(hcx.same g2.tups).get' (show (ks.map some)[i]? = some (some ks[i]) by rw[List.getElem?_map,ek];rfl)
   obtain⟨s,s1,s2⟩:=hsl i hi
   have zEG:∀ H3,Same H2 H3->(ks[i]∈ks.drop (i+1)\/ks[i] ∉ ts)->ixC (V.ref ps) (V.int (i:Int)) H3 fun i_1 H4=>zHE (V.ref pc) i_1 (V.int (-2)) H4 fun H5=>zHE (V.ref pr) (V.int (i:Int)) V.non H5 fun H6=>Ld2 H pc pr ps ks ts L ss (i+1) H6:=fun H3 g3 c=>by
    have sL:s < L.length:=(List.getElem?_eq_some_iff.mp s2).1
    rw[Q4 (g3 _ _ hs2) (v:=V.int (s:Int)) (YM (by rw[List.getElem?_map,s1];rfl)),Yg (g3 _ _ hc2) rfl (by rw[List.length_map,List.length_map];exact sL),← List.map_set,zLD n0 lb s2 (by rw[D.1];exact hi)]
    have hr3:upd H3 pc (HO.lst ((L.map (gm (os.set i none))).map V.int)) pr=some (.lst ys):=by rw[QH (Ne.symm npr)];exact g3 _ _ hr2
    have t1:=YF (o:=HO.lst ((L.map (gm (os.set i none))).map V.int)) (g3 _ _ hc2)
    have t2:=YF (o:=HO.lst (ys.set i V.non)) hr3
    rw[Yg hr3 rfl (by rw[hos2.len,D.1];exact hi)]
    refine⟨os.set i none,ys.set i V.non,fun b o eb=>?_,D.out ek c,by rw[QH npr];exact QF,QF,zFn (hos2.same g3.tups) (t1.trans t2) i,?_⟩
    ·rw[QH (QJ eb fpr),QH (QJ eb fpc)]
     exact g3 _ _ (g2 b o eb)
    ·rw[QH (Ne.symm nrs),QH (Ne.symm nps)]
     exact g3 _ _ hs2
   try walk_at "rd"
   rw[Int.zero_add,Q4 (g2 _ _ hl) (YM ex)]
   refine⟨l,cx,rfl,SqL.of (g2 _ _ hl),fun t2 ht2=>?_⟩
   rw[show (some ((i:Int)+1))=some ((i+1:Nat):Int) from rfl,zFA]
   have gt:=QE (o:=HO.lst (cx.drop (i+1))) ht2
   refine⟨t2,_,(ks.drop (i+1)).map some,some ks[i],rfl,SqL.of QF,?_,IsKo.same gt.tups hx,zCg (fun k hk=>kk k (List.mem_of_mem_drop hk)),_,rfl,?_⟩
   ·rw[List.map_drop]
    exact (hcx.drop (i+1)).same (g2.trans gt).tups
   show (if decide (some ks[i]∈(ks.drop (i+1)).map some)=true then _ else _)
   refine Yc (fun z=>zEG _ gt (.inl (some_mem.mp (of_decide_eq_true z)))) (fun z=>?_)
   rw[Q4 (gt _ _ (g2 _ _ hl)) (YM ex)]
   refine⟨th,tx,ts.map some,some ks[i],rfl,SqL.of (gt _ _ (g2 _ _ hth)),htx.same (g2.trans gt).tups,IsKo.same gt.tups hx,zCg kt,_,rfl,?_⟩
   show (if (!decide (some ks[i]∈ts.map some))=true then _ else _)
   refine Yc (fun y=>zEG _ gt (.inr (fun h=>?_))) (fun y=>?_)
   ·rw[decide_eq_true (some_mem.mpr h)] at y
    cases y
   ·refine⟨os,ys,g2.trans gt,D.stay ek (fun h=>?_),gt _ _ hc2,gt _ _ hr2,hos2.same gt.tups,gt _ _ hs2⟩
    rcases h with h | h
    ·exact z (decide_eq_true (some_mem.mpr h))
    ·exact y (by rw[decide_eq_false (fun w=>h (some_mem.mp w))];rfl)
  ·obtain⟨⟨os,ys,g2,D,hc2,hr2,hos2,hs2⟩,v,rfl⟩:=h
   try walk_at "rd"
   refine⟨by decide,fun t ht=>?_⟩
   have gt:=QE (o:=HO.tup [V.ref pc,V.ref pr]) ht
   exact q t pc pr L ys os _ (g2.trans gt) fpc fpr QF (gt _ _ hc2) (gt _ _ hr2) (hos2.same gt.tups) lb D
end
section
variable {P:Program} {w:World} {K:W.Frag} {mg:Str->Option Value} {base:Heap} {a:Ad}
theorem zIx {H:Hp} {os:List (Option Kd)} {xs:List V} (h:IsKos H os xs):IsKos H os.reverse xs.reverse:=by
 have hl:=h.len
 refine⟨by rw[List.length_reverse,List.length_reverse];exact hl,fun i o x e1 e2=>?_⟩
 have il:i < os.length:=by have:=(List.getElem?_eq_some_iff.mp e1).1;rwa [List.length_reverse] at this
 rw[List.getElem?_reverse il] at e1
 rw[List.getElem?_reverse (by omega),hl] at e2
 exact h.2 _ o x e1 e2
def zDh (C:Addr):Sp:=fun vs H Q _=>∃ (p l th:Addr) (S:Sh) (cx tx:List V) (ks ts:List Kd) (tu:Bool),vs=[.ref p,.ref l,.ref th,.bl tu]/\Hs C H p S []/\H l=some (.lst cx)/\IsKos H (ks.map some) cx/\H th=some (.lst tx)/\IsKos H (ts.map some) tx/\KOk ks/\KOk ts/\Far l p S/\Far th p S/\3*ks.length<=2*S.n/\ks.length<=1000 /\
 ∀ S' t l1 l2 ys H',Hs C H' p S' ks->SameAd S S'->(∀ k,Prs S'.os k ↔ k∈ks/\k∈ts)->KB p S H H'->(∀ b o,H b=some o->Far b p S->b ≠ l1/\b ≠ l2)->l1 ≠ l2->H' t=some (.tup [.ref l1,.ref l2])->H' l1=some (.lst (S'.cs.map V.int))->H' l2=some (.lst ys)->IsKos H' S'.os ys->Q (.ref t) H'
def S1I (C:Addr) (H:Hp) (p:Addr) (S:Sh) (ks:List Kd) (i:Nat) (H':Hp):Prop:=∃ S',Hs C H' p S' (ks.take i)/\SameAd S S'/\KB p S H H'/\∀ k∈ks.take i,Prs S'.os k
def S2I (C:Addr) (H:Hp) (p:Addr) (S:Sh) (ks ts ms:List Kd) (j:Nat) (H':Hp):Prop:=∃ S',Hs C H' p S' ks/\SameAd S S'/\KB p S H H'/\(∀ k∈ks,k∈ts->Prs S'.os k)/\∀ k∈ms.take j,k ∉ ts->¬ Prs S'.os k
theorem zFh {os:List (Option Kd)} {i:Nat} {k k':Kd} (hi:os[i]? = some (some k)) (hn:k' ≠ k) (h:Prs os k'):Prs (os.set i none) k':=by
 obtain⟨j,hj⟩:=h
 exact⟨j,by rw[List.getElem?_set_ne (fun e=>by subst e;rw[hi] at hj;cases hj;exact hn rfl)];exact hj⟩
theorem zGU {os:List (Option Kd)} {i:Nat} {k':Kd} (h:Prs (os.set i none) k'):Prs os k':=by
 obtain⟨j,hj⟩:=h
 by_cases z:i=j
 ·subst z
  by_cases y:i < os.length
  ·rw[List.getElem?_set_self y] at hj;cases hj
  ·rw[List.getElem?_eq_none (by rw[List.length_set];omega)] at hj;cases hj
 ·rw[List.getElem?_set_ne z] at hj
  exact⟨j,hj⟩
theorem zH4 {n:Nat} {cs:List Int} {os:List (Option Kd)} {i:Nat} {k:Kd} (F:Fm n cs os) (hi:os[i]? = some (some k)):∀ j:Nat,(os.set i none)[j]? ≠ some (some k):=fun j hj=>by
 by_cases z:i=j
 ·subst z
  rw[List.getElem?_set_self (List.getElem?_eq_some_iff.mp hi).1] at hj
  cases hj
 ·rw[List.getElem?_set_ne z] at hj
  exact z (F.keys i j k hi hj)
theorem Hs.mem {C:Addr} {H:Hp} {p:Addr} {S:Sh} {ks:List Kd} {k:Kd} (h:Hs C H p S ks) (hp:Prs S.os k):k∈ks:=by
 obtain⟨i,hi⟩:=hp
 exact List.mem_of_getElem? (h.hi.at_ i k hi)
theorem zEr (T:Txt K mg a)(G_Hhas:FnOk P w K mg base CX0 12 a.f_Hhas a.d_Hhas zEj (zGv a.a_Shelf))(G_Hput:FnOk P w K mg base (CXe P w) 12 a.f_Hput a.d_Hput zCi (zCG a.a_Shelf a.a_Full))(G_Htake:FnOk P w K mg base (CXe P w) 13 a.f_Htake a.d_Htake We (Wq a.a_Shelf a.a_Lacking))(G_Hform:FnOk P w K mg base CX0 1 a.f_Hform a.d_Hform Jw (zCp a.a_Shelf)):FnOk P w K mg base CX0 14 a.f_Lsecond a.d_Lsecond JE (zDh a.a_Shelf):=by
 refine T.F_Lsecond.ok sc_Lsecond (fun vs H Q E h=>?_) (fun cdv A outer s H vs Q E hr h=>?_)
 ·obtain⟨p,l,th,S,cx,tx,ks,ts,tu,rfl,_⟩:=h
  rfl
 have nd:=sc_Lsecond.nd
 obtain⟨p,l,th,S,cx,tx,ks,ts,tu,rfl,h,hl,hcx,hth,htx,kk,kt,fl,ft,hlt,k1,q⟩:=h
 refine⟨_,(QB (YT PassesOwn.never rfl (YO (pv 1)) (Qt (i:=4) nd rfl (Or.inl rfl)) (QB (QT (QY (Qi (pv 0) T.cl_Shelf T.M_Hhas (G_Hhas.mono (by decide)) hr T.b_Hhas .nil QP (QA (pv 4) QC))) (QG (Qm (Qi (pv 0) T.cl_Shelf T.M_Htake (G_Htake.mono (by decide)) hr T.b_Htake .nil zIX (QA (pv 4) QC)))) QO)
 (QG (Qm (Qi (pv 0) T.cl_Shelf T.M_Hput (G_Hput.mono (by decide)) hr T.b_Hput .nil zIX (QA (pv 4) (QA QD QC)))))))
 (QB (QQ (i:=5) nd rfl (Or.inl rfl) (Qy YI rfl T.z_list boot_list (QA (pv 1) QC)))
 (QB (QT (QY (pv 3)) (QG (QQ (i:=5) nd rfl (Or.inl rfl) (zDn rfl rfl T.z_list rfl T.z_reversed (pv 5)))) QO)
 (QB (YT PassesOwn.never rfl (YO (pv 5)) (Qt (i:=4) nd rfl (Or.inl rfl)) (QG (QT (PW.pt (zEN (QS (zBO hr.units) (pv 4) (pv 2) (by with_unfolding_all rfl)) (zB8 (QY (Qi (pv 0) T.cl_Shelf T.M_Hhas (G_Hhas.mono (by decide)) hr T.b_Hhas .nil QP (QA (pv 4) QC)))))) (QG (Qm (Qi (pv 0) T.cl_Shelf T.M_Htake (G_Htake.mono (by decide)) hr T.b_Htake .nil zIX (QA (pv 4) QC)))) QO)))
 (QG (QN (Yj (pv 0) T.cl_Shelf T.M_Hform (G_Hform.mono (by decide)) hr T.b_Hform .nil QP))))))),?_⟩
 have cl:=hcx.len
 rw[List.length_map] at cl
 try walk_at "rd"
 refine⟨⟨_,SqL.of hl⟩,Zz (xs:=cx) (fun i σ H'=>S1I a.a_Shelf H p S ks i H'/\∃ u,σ=[some (.ref p),some (.ref l),some (.ref th),some (.bl tu),u,none]) ⟨⟨S,h,.refl S,.of (.refl _),fun k hk=>absurd hk List.not_mem_nil⟩,none,rfl⟩ (fun _ _ _ _ h=>by obtain⟨⟨_,_,_,kb,_⟩,_⟩:=h;exact SqL.of (kb _ _ hl fl)) (fun i x σ H' e h=>?_) (fun σ H' h=>?_)⟩
 ·obtain⟨⟨S1,h1,ad,kb,pr1⟩,u,rfl⟩:=h
  have il:i < ks.length:=by have:=(List.getElem?_eq_some_iff.mp e).1;omega
  obtain⟨o,e1,e2⟩:=hcx.get e
  have ek:ks[i]? = some ks[i]:=List.getElem?_eq_getElem il
  rw[List.getElem?_map,ek] at e1
  cases e1
  have kd:=kk _ (List.getElem_mem il)
  have hx:IsK H' ks[i] x:=IsK.same (kb.tups h.A) e2
  have nn:=ad.2.2.2.2
  have A1:=h1.A
  have ol:=h1.hi.len
  rw[List.length_take] at ol
  try walk_at "rd"
  have putk:∀ H2 S2,Hs a.a_Shelf H2 p S2 (ks.take i)->SameAd S S2->KB p S H H2->IsK H2 ks[i] x->(∀ j:Nat,S2.os[j]? ≠ some (some ks[i]))->(∀ k∈ks.take i,k ≠ ks[i]->Prs S2.os k)->zBI a.a_Shelf (Str.ofString "put") (V.ref p) H2 fun H1=>zCG a.a_Shelf a.a_Full [V.ref p,x,V.int 0] H1 (fun x H1=>S1I a.a_Shelf H p S ks (i+1) H1) E0:=fun H2 S2 h2 ad2 kb2 hx2 hn2 pr2=>by
   rw[Yp h2.A (by decide +kernel)]
   have ol2:=h2.hi.len
   rw[List.length_take] at ol2
   have n2:=ad2.2.2.2.2
   refine⟨p,S2,x,ks[i],_,rfl,h2.A,hx2,kd.1,kd.2,(fun j H3 hj b A3=>absurd hj (hn2 j)),(fun c H3 hn hrm hc b A3=>?_),fun hn hf=>?_⟩
   ·refine⟨zBL S2 ks[i] c (V.int 0),?_,ad2.trans ⟨rfl,rfl,rfl,rfl,rfl⟩,kb2.trans ad2 (.but b),fun k hk=>?_⟩
    ·rw[List.take_add_one,ek]
     exact h2.came hn hc kd.2 A3
    ·rw[List.take_add_one,ek] at hk
     have here:Prs (S2.os++[some ks[i]]) ks[i]:=⟨S2.os.length,by rw[List.getElem?_append_right (Nat.le_refl _),Nat.sub_self];rfl⟩
     by_cases z:k=ks[i]
     ·rw[z];exact here
     ·rcases List.mem_append.mp hk with y | y
      ·obtain⟨j,hj⟩:=pr2 k y z
       exact⟨j,(List.getElem?_append_left (List.getElem?_eq_some_iff.mp hj).1).trans hj⟩
      ·exact absurd (List.mem_singleton.mp y) z
   ·exfalso
    omega
  rw[Yp A1 (by decide +kernel)]
  refine⟨p,S1,x,ks[i],rfl,A1,hx,kd.1,kd.2,(fun j hj H2 g2=>⟨true,rfl,?_⟩),fun hn H2 g2=>⟨false,rfl,?_⟩⟩
  ·rw[if_pos rfl,Yp (A1.same g2) (by decide +kernel)]
   refine⟨p,S1,x,ks[i],rfl,A1.same g2,hx.same g2.tups,kd.1,kd.2,(fun j2 c H3 hj2 hc b A3=>?_),fun hn=>absurd hj (hn j)⟩
   have kb3:KB p S1 H' H3:=.trans (.of g2) (.refl S1) (.but b)
   exact putk H3 (JX S1 ks[i] c j2) ((h1.same g2).gone hj2 hc A3) (ad.trans ⟨rfl,rfl,rfl,rfl,rfl⟩) (kb.trans ad kb3) (hx.same (kb3.tups A1)) (zH4 A1.fm hj2) fun k hk hne=>zFh hj2 hne (pr1 k hk)
  ·rw[if_neg (by decide)]
   exact putk H2 S1 (h1.same g2) ad (kb.trans ad (.of g2)) (hx.same g2.tups) hn fun k hk _=>pr1 k hk
 ·obtain⟨⟨S1,h1,ad,kb,pr1⟩,u,rfl⟩:=h
  rw[cl,List.take_length] at h1 pr1
  have ts1:=kb.tups h.A
  have hl1:=kb _ _ hl fl
  try walk_at "rd"
  rw[YU hl1]
  intro m0 hm0
  have g2:=QE (o:=HO.lst cx) hm0
  have hm2:upd H' m0 (HO.lst cx) m0=some (HO.lst cx):=QF
  have f0:=Zh h1.A hm0
  generalize upd H' m0 (HO.lst cx)=H2 at g2 hm2 ⊢
  have h2:=h1.same g2
  have hcx2:=(hcx.same ts1).same g2.tups
  have th1:=kb _ _ hth ft
  have loop2:∀ (m:Addr) (zx:List V) (ms:List Kd) (H3:Hp),Same H' H3->Far m p S1->H3 m=some (.lst zx)->IsKos H3 (ms.map some) zx->(∀ k,k∈ms ↔ k∈ks) ->
    (∃ xs,SqL K H3 m xs)/\zEd (Itl K m) (Wz 4) (zKV (zLJ (zHw (tOp (zKa K true) (zAr 4) (zAr 2))) (tB (JK a.a_Shelf (Str.ofString "has") (zGv a.a_Shelf) [] E0 (zAr 0) (zFS (zAr 4) zEZ)))) (zID (JK a.a_Shelf (Str.ofString "take") (Wq a.a_Shelf a.a_Lacking) [] E0 (zAr 0) (zFS (zAr 4) zEZ))) zH5)
     { nx:=zIs (JK a.a_Shelf (Str.ofString "form") (zCp a.a_Shelf) [] E0 (zAr 0) zEZ) { nx:=fun x H'=>Q V.non H',rt:=Q },rt:=Q }
     [some (V.ref p),some (V.ref l),some (V.ref th),some (V.bl tu),u,some (V.ref m)] H3:=fun m zx ms H3 g3 fm hm hzx hms=>by
   have zl:=hzx.len
   rw[List.length_map] at zl
   refine⟨⟨_,SqL.of hm⟩,Zz (xs:=zx) (fun j σ H4=>S2I a.a_Shelf H3 p S1 ks ts ms j H4/\∃ u,σ=[some (.ref p),some (.ref l),some (.ref th),some (.bl tu),u,some (.ref m)]) ⟨⟨S1,h1.same g3,.refl S1,.of (.refl _),fun k hk _=>pr1 k hk,fun k hk=>absurd hk List.not_mem_nil⟩,_,rfl⟩ (fun _ _ _ _ h=>by obtain⟨⟨_,_,_,kb,_⟩,_⟩:=h;exact SqL.of (kb _ _ hm fm)) (fun j x σ H4 e h=>?_) (fun σ H4 h=>?_)⟩
   ·obtain⟨⟨S4,h4,ad4,kb4,pr4,no4⟩,u4,rfl⟩:=h
    have jl:j < ms.length:=by have:=(List.getElem?_eq_some_iff.mp e).1;omega
    obtain⟨o,e1,e2⟩:=hzx.get e
    have ek:ms[j]? = some ms[j]:=List.getElem?_eq_getElem jl
    rw[List.getElem?_map,ek] at e1
    cases e1
    have kd:=kk _ ((hms _).mp (List.getElem_mem jl))
    have ts4:=kb4.tups (h1.A.same g3)
    have hx:IsK H4 ms[j] x:=IsK.same ts4 e2
    have th4:=kb4 _ _ (g3 _ _ th1) (ad.far ft)
    have tk:∀ k,k∈ms.take (j+1)->k∈ms.take j\/k=ms[j]:=fun k hk=>by
     rw[List.take_add_one,ek] at hk
     exact (List.mem_append.mp hk).imp id List.mem_singleton.mp
    try walk_at "rd"
    refine⟨th,tx,ts.map some,some ms[j],rfl,SqL.of th4,((htx.same ts1).same g3.tups).same ts4,hx,zCg kt,_,rfl,?_⟩
    show (if (!decide (some ms[j]∈ts.map some))=true then _ else _)
    refine Yc (fun y=>?_) (fun y=>?_)
    ·have nt:ms[j] ∉ ts:=fun w=>by rw[decide_eq_true (some_mem.mpr w)] at y;cases y
     rw[Yp h4.A (by decide +kernel)]
     refine⟨p,S4,x,ms[j],rfl,h4.A,hx,kd.1,kd.2,(fun i hi H5 g5=>⟨true,rfl,?_⟩),fun hn H5 g5=>⟨false,rfl,?_⟩⟩
     ·rw[if_pos rfl,Yp (h4.A.same g5) (by decide +kernel)]
      refine⟨p,S4,x,ms[j],rfl,h4.A.same g5,hx.same g5.tups,kd.1,kd.2,(fun i2 c H6 hi2 hc b A6=>?_),fun hn=>absurd hi (hn i)⟩
      have kb6:KB p S4 H4 H6:=.trans (.of g5) (.refl S4) (.but b)
      refine⟨JX S4 ms[j] c i2,(h4.same g5).gone hi2 hc A6,ad4.trans ⟨rfl,rfl,rfl,rfl,rfl⟩,kb4.trans ad4 kb6,fun k hk ht=>zFh hi2 (fun z=>nt (z ▸ ht)) (pr4 k hk ht),fun k hk ht hp=>?_⟩
      rcases tk k hk with z | z
      ·exact no4 k z ht (zGU hp)
      ·rw[z] at hp
       obtain⟨i3,hi3⟩:=hp
       exact zH4 h4.A.fm hi2 i3 hi3
     ·rw[if_neg (by decide)]
      refine⟨S4,h4.same g5,ad4,kb4.trans ad4 (.of g5),pr4,fun k hk ht hp=>?_⟩
      rcases tk k hk with z | z
      ·exact no4 k z ht hp
      ·rw[z] at hp
       obtain⟨i3,hi3⟩:=hp
       exact hn i3 hi3
    ·refine⟨S4,h4,ad4,kb4,pr4,fun k hk ht hp=>?_⟩
     rcases tk k hk with z | z
     ·exact no4 k z ht hp
     ·rw[z] at ht
      exact y (by rw[decide_eq_false (fun w=>ht (some_mem.mp w))];rfl)
   ·obtain⟨⟨S4,h4,ad4,kb4,pr4,no4⟩,u4,rfl⟩:=h
    rw[zl,List.take_length] at no4
    try walk_at "rd"
    rw[Yp h4.A (by decide +kernel)]
    have kb5:KB p S H H4:=kb.trans ad (.trans (.of g3) (.refl S1) kb4)
    refine⟨p,S4,rfl,h4.A,fun t l1 l2 ys H5 g5 n1 n2 n3 ht hl1 hl2 hys=>?_⟩
    refine q S4 t l1 l2 ys H5 (h4.same g5) (ad.trans ad4) (fun k=>⟨fun hp=>⟨h4.mem hp,?_⟩,fun hp=>pr4 k hp.1 hp.2⟩) (kb5.trans (ad.trans ad4) (.of g5)) (fun b o eb fb=>⟨QJ (kb5 b o eb fb) n1,QJ (kb5 b o eb fb) n2⟩) n3 ht hl1 hl2 hys
    ·exact Decidable.byContradiction fun z=>no4 k ((hms k).mpr (h4.mem hp)) z hp
  try walk_at "rd"
  refine Yc (fun _=>?_) (fun _=>?_)
  ·refine⟨cx,hm2,fun m1 hm1=>?_⟩
   have g3:=QE (o:=HO.lst cx.reverse) hm1
   exact loop2 m1 cx.reverse ks.reverse _ (g2.trans g3) (Zh h2.A hm1) QF (by rw[List.map_reverse];exact zIx (hcx2.same g3.tups)) fun k=>List.mem_reverse
  ·exact loop2 m0 cx ks H2 g2 f0 hm2 hcx2 fun k=>Iff.rfl
end
theorem zHe {cs:List Int} {v:Int}:(cz cs).count (some (Kd.num v))=cs.count v:=by
 unfold cz
 induction cs with
 | nil=>rfl
 | cons c cs ih =>
  rw[List.map_cons,List.count_cons,List.count_cons,ih]
  by_cases z:c=v
  ·subst z;simp
  ·rw[if_neg (fun h=>z (by have:=eq_of_beq h;injection this with this;injection this)),if_neg (fun h=>z (eq_of_beq h))]
theorem zHU {cs:List Int}:cs.countP (fun v=>v != -1)=(YC cs).length+cs.count (-2):=by
 unfold YC
 induction cs with
 | nil=>rfl
 | cons c cs ih =>
  rw[List.countP_cons,List.filter_cons,List.count_cons,ih]
  by_cases z1:c = -1
  ·subst z1;simp
  ·by_cases z2:c = -2
   ·subst z2;simp;omega
   ·simp[z1,z2];omega
theorem zBe {os:List (Option Kd)}:∀ i,i<=os.length->(plc os i).length+(os.take i).count none=i
 | 0,_=>by simp[plc]
 | i+1,h=>by
  have e:os[i]? = some os[i]:=List.getElem?_eq_getElem (by omega)
  have ih:=zBe (os:=os) i (by omega)
  rw[zDj e,List.take_add_one,e,List.count_append]
  cases os[i] with
  | none=>simp;omega
  | some k=>simp;omega
theorem zHQ {C:Addr} {H:Hp} {p:Addr} {S:Sh} (A:ShAt C H p S):Frm S.cs S.os/\(YC S.cs).length < S.n:=by
 have F:=A.fm
 have fl:=F.len
 have kn:(Qj S.os).Nodup:=by
  unfold Qj
  refine List.pairwise_filterMap.mpr (List.pairwise_iff_getElem.mpr fun i j hi hj hij b hb b' hb' e=>?_)
  subst e
  have:=F.keys i j b (by rw[List.getElem?_eq_getElem hi];exact congrArg some hb) (by rw[List.getElem?_eq_getElem hj];exact congrArg some hb')
  omega
 have hm:∀ v,v∈YC S.cs ↔ v∈plc S.os S.os.length:=fun v=>by
  rw[heldL_mem,plc_iff]
  constructor
  ·rintro ⟨h1,h2,h3⟩
   obtain⟨j,hj⟩:=List.getElem?_of_mem h1
   rcases F.good j v hj with z | z | ⟨q,k,z,e⟩
   ·exact absurd z h2
   ·exact absurd z h3
   ·exact⟨q,k,z,(List.getElem?_eq_some_iff.mp e).1,e⟩
  ·rintro ⟨q,k,z,_,e⟩
   obtain⟨c,c1,c2,_⟩:=F.has q k e
   have:=F.at k.st c
   rw[c2,← z] at this
   exact⟨List.mem_of_getElem? this,by omega,by omega⟩
 have hn:(YC S.cs).Nodup:=by
  unfold YC
  refine List.pairwise_filter.mpr (List.pairwise_iff_getElem.mpr fun i j hi hj hij h1 h2 e=>?_)
  have e1:=List.getElem?_eq_getElem hi
  have e2:=List.getElem?_eq_getElem hj
  rw[← e] at e2
  rcases F.good i _ e1 with z | z | ⟨q,k,z,_⟩
  ·rw[z] at h1;exact absurd h1 (by decide)
  ·rw[z] at h1;exact absurd h1 (by decide)
  ·have:=F.one i j _ e1 e2 (by omega)
   omega
 have pn:(plc S.os S.os.length).Nodup:=plc_rise.imp fun h=>Int.ne_of_lt h
 have pm:(YC S.cs).Perm (plc S.os S.os.length):=List.perm_iff_count.mpr fun v=>by
  rw[hn.count,pn.count]
  simp only[hm v]
 have c1:=zHU (cs:=S.cs)
 have c2:=zBe (os:=S.os) S.os.length (Nat.le_refl _)
 rw[List.take_length] at c2
 have c3:=pm.length_eq
 have c4:=F.few
 have c5:=A.rm
 have c6:=F.room
 refine⟨⟨⟨by rw[fl];exact A.s8,by rw[fl];omega,by rw[zHe];omega⟩,kn,pm,fun q k e=>?_⟩,by omega⟩
 unfold Fnd
 rw[fl]
 exact F.there e
theorem zE7 {H:Hp}:∀ {os:List (Option Kd)} {xs hs:List V} {ms:List Int},IsKos H os xs->hs.length=os.length->ms.length=os.length->IsKos H ((Qj os).map some) (((ms.zip (xs.zip hs)).filter fun e=>NN e.2.1).map fun e=>e.2.1)
 | [],xs,hs,ms,h,h1,h2=>by
  have:xs=[]:=List.eq_nil_of_length_eq_zero h.len
  subst this
  cases ms with
  | nil=>exact IsKos.nil
  | cons m ms=>cases h2
 | o::os,xs,hs,ms,h,h1,h2=>by
  have hl:=h.len
  cases xs with
  | nil=>cases hl
  | cons x xs =>
  cases hs with
  | nil=>cases h1
  | cons y hs =>
  cases ms with
  | nil=>cases h2
  | cons m ms =>
  have ho:IsKo H o x:=h.2 0 o x rfl rfl
  have ih:=zE7 (H:=H) (os:=os) (xs:=xs) (hs:=hs) (ms:=ms) ⟨by simpa using hl,fun i o' x' e1 e2=>h.2 (i+1) o' x' (by simpa using e1) (by simpa using e2)⟩ (by simpa using h1) (by simpa using h2)
  show IsKos H ((Qj (o::os)).map some) ((((m,x,y)::ms.zip (xs.zip hs)).filter fun e=>NN e.2.1).map fun e=>e.2.1)
  cases o with
  | none =>
   have e:x=V.non:=ho
   subst e
   rw[List.filter_cons_of_neg (p:=fun e:Int × V × V=>NN e.2.1) (a:=(m,V.non,y)) (show ¬ (NN V.non=true) by decide)]
   exact ih
  | some k =>
   have ne:NN x=true:=by
    unfold NN
    rw[decide_eq_false (fun e=>by subst e;cases k <;> first | exact nomatch ho | (obtain⟨_,_,h,_⟩:=ho;exact nomatch h))]
    rfl
   rw[List.filter_cons_of_pos (p:=fun e:Int × V × V=>NN e.2.1) (a:=(m,x,y)) ne]
   refine⟨?_,fun i o' x' e1 e2=>?_⟩
   ·rw[List.map_cons,List.length_cons,ih.len];rfl
   ·cases i with
    | zero=>cases e1;cases e2;exact ho
    | succ i=>exact ih.2 i o' x' e1 e2
theorem Hs.due {C:Addr} {H:Hp} {p:Addr} {S:Sh} {ks ts:List Kd} (h:Hs C H p S ks) (ht:∀ k,Prs S.os k ↔ k∈ks/\k∈ts):DueO ks ts S.os ks.length:=by
 have hl:=h.hi.len
 refine⟨hl.symm,fun j k hk=>?_⟩
 have jl:=(List.getElem?_eq_some_iff.mp hk).1
 have ej:S.os[j]? = some S.os[j]:=List.getElem?_eq_getElem (by omega)
 rw[ej]
 cases eo:S.os[j] with
 | some k' =>
  rw[eo] at ej
  have e2:=h.hi.at_ j k' ej
  rw[hk] at e2
  cases e2
  rw[if_neg]
  rintro ⟨_,z | z⟩
  ·obtain⟨i,hi⟩:=List.getElem?_of_mem z
   rw[List.getElem?_drop] at hi
   exact h.la j (j+1+i) k ej (by omega) hi
  ·exact z ((ht k).mp ⟨j,ej⟩).2
 | none =>
  rw[eo] at ej
  suffices hs:k∈ks.drop (j+1)\/k ∉ ts by rw[if_pos ⟨jl,hs⟩]
  refine Decidable.byContradiction fun hc=>?_
  have kt:k∈ts:=Decidable.byContradiction fun z=>hc (.inr z)
  obtain⟨i,hi⟩:=(ht k).mpr ⟨List.mem_of_getElem? hk,kt⟩
  rcases Nat.lt_trichotomy i j with z | z | z
  ·exact h.la i j k hi z hk
  ·subst z
   rw[hi] at ej
   cases ej
  ·refine hc (.inl (List.mem_of_getElem? (i:=i - (j+1)) ?_))
   rw[List.getElem?_drop,show j+1+(i - (j+1))=i by omega]
   exact h.hi.at_ i k hi
theorem DueO.uniq {ks ts:List Kd} {os os':List (Option Kd)} {i:Nat} (h:DueO ks ts os i) (h':DueO ks ts os' i):os=os':=by
 refine List.ext_getElem? fun j=>?_
 by_cases z:j < ks.length
 ·have e:ks[j]? = some ks[j]:=List.getElem?_eq_getElem z
  rw[h.2 j _ e,h'.2 j _ e]
 ·rw[List.getElem?_eq_none (by rw[h.1];omega),List.getElem?_eq_none (by rw[h'.1];omega)]
theorem Hs.cells {C:Addr} {H:Hp} {p:Addr} {S:Sh} {ks ts:List Kd} {os:List (Option Kd)} {L:List Int} {n:Nat} (h:Hs C H p S ks) (e:S.n=n) (D:DueO ks ts S.os ks.length) (lb:LB (fun p=>(ks[p]?).map Kd.st) n ks.length L) (D':DueO ks ts os ks.length):S.os=os/\S.cs=L.map (gm os):=by
 obtain⟨L',l',e'⟩:=h.hi.lb
 have eo:=D.uniq D'
 rw[e] at l'
 rw[e',l'.uniq lb,eo]
 exact⟨rfl,rfl⟩
theorem prs_iff {os:List (Option Kd)} {k:Kd}:Prs os k ↔ k∈Qj os:=by
 rw[keysOf_mem]
 exact⟨fun ⟨i,h⟩=>List.mem_of_getElem? h,fun h=>List.getElem?_of_mem h⟩
theorem Hs.kok {C:Addr} {H:Hp} {p:Addr} {S:Sh} {ks:List Kd} (h:Hs C H p S ks):KOk (Qj S.os):=fun k hk=>by
 have:=keysOf_mem.mp hk
 exact⟨h.A.dp _ this,h.ok _ this⟩
section
variable {P:Program} {w:World} {K:W.Frag} {mg:Str->Option Value} {base:Heap} {a:Ad}
theorem zFa {α β:Type} {R:α->β->Prop}:∀ {ps:List α} {es:List β} {i:Nat} {p:α},Paired R ps es->ps[i]? = some p->∃ e,es[i]? = some e/\R p e
 | _,_,_,_,.nil,h=>by simp at h
 | _,_,0,_,.cons r _,h=>by simp at h;subst h;exact⟨_,rfl,r⟩
 | _,_,i+1,p,.cons _ t,h=>by
  obtain⟨e,h1,h2⟩:=zFa (i:=i) (p:=p) t (by simpa using h)
  exact⟨e,by simpa using h1,h2⟩
theorem zHC {C:Addr} {H H2:Hp} {p dx:Addr} {S:Sh} {n:Nat} (np:H p=none) (nx:H dx=none) (ne:dx ≠ p) (kp:∀ b o,upd (upd H dx (HO.own p)) p (HO.ins C dx []) b=some o->b ≠ p->H2 b=some o) (A:ShAt C H2 p S) (en:S.n=((n:Nat):Int).toNat) (ecs:S.cs=List.replicate ((n:Nat):Int).toNat (-1)) (eo:S.os=[])
  (f1:upd (upd H dx (HO.own p)) p (HO.ins C dx []) S.pc=none) (f2:upd (upd H dx (HO.own p)) p (HO.ins C dx []) S.pr=none) (f3:upd (upd H dx (HO.own p)) p (HO.ins C dx []) S.ph=none) (f4:upd (upd H dx (HO.own p)) p (HO.ins C dx []) S.pm=none):Same H H2/\Fr H p S/\Hs C H2 p S []:=by
 have g:Same H (upd (upd H dx (HO.own p)) p (HO.ins C dx [])):=(QE nx).trans (QE (by rw[QH (Ne.symm ne)];exact np))
 refine⟨fun b o e=>kp b o (g b o e) (QJ e np),⟨np,g.free f1,g.free f2,g.free f3,g.free f4⟩,A,fun k hk=>?_,?_,fun i j k e=>?_⟩
 ·rw[eo] at hk;cases hk
 ·rw[ecs,eo,en];exact Hist.nil
 ·rw[eo] at e;simp at e
def zDG (K:W.Frag):Sp:=fun vs H Q _=>∃ (a:Addr) (ns:List Int),vs=[.ref a]/\SqL K H a (ns.map V.int)/\ns.length<=63/\∀ H',Q (.bl true) H'
theorem zMD (T:Txt K mg a)(G_Lcell_at:FnOk P w K mg base CX0 1 a.f_Lcell_at a.d_Lcell_at WS (zHJ K))(G_H__init__:FnOk P w K mg base CX0 12 a.f_H__init__ a.d_H__init__ Ya (zFY a.a_Shelf))(G_Lwalked:FnOk P w K mg base CX0 16 a.f_Lwalked a.d_Lwalked JG (zDk K a.a_Shelf))(G_Hpairs:FnOk P w K mg base CX0 2 a.f_Hpairs a.d_Hpairs zAC (zFj a.a_Shelf))(G_Hform:FnOk P w K mg base CX0 1 a.f_Hform a.d_Hform Jw (zCp a.a_Shelf))(G_Lis_form:FnOk P w K mg base CX0 2 a.f_Lis_form a.d_Lis_form WJ zKM)(G_in_form:FnOk P w K mg base CX0 12 a.f_in_form a.d_in_form JN zJy)(G_Llaid:FnOk P w K mg base CX0 6 a.f_Llaid a.d_Llaid zCO zHl)(G_Lsecond:FnOk P w K mg base CX0 14 a.f_Lsecond a.d_Lsecond JE (zDh a.a_Shelf)):FnOk P w K mg base CX0 17 a.f_law a.d_law zHR (zDG K):=by
 refine T.F_law.ok sc_law (fun vs H Q E h=>?_) (fun cdv A outer s H vs Q E hr h=>?_)
 ·obtain⟨b,ns,rfl,_⟩:=h
  rfl
 have nd:=sc_law.nd
 obtain⟨b,ns,rfl,hS,h63,q⟩:=h
 refine⟨_,(QB (QQ (i:=1) nd rfl (Or.inl rfl) (QK zLP QD (QK QX (QM (G_Lcell_at.mono (by decide)) hr rfl T.m_Lcell_at T.F_Lcell_at.kp T.b_Lcell_at .nil QP (QA (pv 0) (QA QD QC))) QD)))
 (QB (QQ (i:=2) nd rfl (Or.inl rfl) (QK Qv QD (QK QX (QK Qk (QM (G_Lcell_at.mono (by decide)) hr rfl T.m_Lcell_at T.F_Lcell_at.kp T.b_Lcell_at .nil QP (QA (pv 0) (QA QD QC))) QD) QD)))
 (QB (QQ (i:=3) nd rfl (Or.inl rfl) (QK QX (QM (G_Lcell_at.mono (by decide)) hr rfl T.m_Lcell_at T.F_Lcell_at.kp T.b_Lcell_at .nil QP (QA (pv 0) (QA QD QC))) QD))
 (QB (QQ (i:=4) nd rfl (Or.inl rfl) (QK QX (QM (G_Lcell_at.mono (by decide)) hr rfl T.m_Lcell_at T.F_Lcell_at.kp T.b_Lcell_at .nil QP (QA (pv 0) (QA QD QC))) (QK Zu QD QD)))
 (QB (QQ (i:=5) nd rfl (Or.inl rfl) (zFN T.mk_Shelf (G_H__init__.mono (by decide)) hr rfl T.m_Shelf T.b_H__init___0 .nil QP (QA (pv 1) QC)))
 (QB (QQ (i:=6) nd rfl (Or.inl rfl) (QM (G_Lwalked.mono (by decide)) hr rfl T.m_Lwalked T.F_Lwalked.kp T.b_Lwalked .nil QP (QA (pv 5) (QA (pv 0) (QA (pv 3) (QA (pv 4) (QA (pv 2) QC)))))))
 (QB (zFV (i:=7) nd rfl (Or.inl rfl) "_law_pair" [] [] rfl ⟨rfl,rfl,by decide +kernel,by decide +kernel,rfl,by decide +kernel,by decide +kernel,rfl,by decide +kernel⟩ rfl (YO (Yj (pv 5) T.cl_Shelf T.M_Hpairs (G_Hpairs.mono (by decide)) hr T.b_Hpairs .nil QP)) (fun C s1 H1 fp=>(Qg YL (pv 0) QD (fun _ _=>rfl))))
 (QB (QQ (i:=8) nd rfl (Or.inl rfl) (Yj (pv 5) T.cl_Shelf T.M_Hform (G_Hform.mono (by decide)) hr T.b_Hform .nil QP))
 (QB (QT (PW.pt (zBU (W6 (QY (QM (G_Lis_form.mono (by decide)) hr rfl T.m_Lis_form T.F_Lis_form.kp T.b_Lis_form .nil QP (QA (pv 8) (QA (pv 1) QC))))) (zAM (QS zGM (QM (G_in_form.mono (by decide)) hr rfl T.m_in_form T.F_in_form.kp T.b_in_form .nil QP (QA (Qy YI rfl T.z_list boot_list (QA (Qg YL (pv 8) QD (fun _ _=>rfl)) QC)) (QA (Qy YI rfl T.z_list boot_list (QA (Qg YL (pv 8) QD (fun _ _=>rfl)) QC)) QC))) Wj (QR _))))) (QG (QN Wj)) QO)
 (QB (QT (PW.pt (zBU (QS zDB (QL QW rfl T.z_len PySem.boot_len (QA (pv 6) QC)) (QK Qk (QK Q1 QD (pv 1)) QD) (QR _)) (zAM (QS (zJt hr.units) (ZW (QA (Qy YI rfl T.z_list boot_list (QA (Qg YL (pv 8) QD (fun _ _=>rfl)) QC)) (QA (Qy YI rfl T.z_list boot_list (QA (Qg YL (pv 8) QD (fun _ _=>rfl)) QC)) QC))) (QM (G_Llaid.mono (by decide)) hr rfl T.m_Llaid T.F_Llaid.kp T.b_Llaid .nil QP (QA (pv 6) (QA (pv 7) (QA (pv 1) QC)))) (QR _))))) (QG (QN Wj)) QO)
 (QB (QQ (i:=9) nd rfl (Or.inl rfl) (QM (G_Lsecond.mono (by decide)) hr rfl T.m_Lsecond T.F_Lsecond.kp T.b_Lsecond .nil QP (QA (zFN T.mk_Shelf (G_H__init__.mono (by decide)) hr rfl T.m_Shelf T.b_H__init___0 .nil QP (QA (pv 1) QC)) (QA (pv 6) (QA (pv 7) (QA (Qn YS (QK QX (QK Qk (QM (G_Lcell_at.mono (by decide)) hr rfl T.m_Lcell_at T.F_Lcell_at.kp T.b_Lcell_at .nil QP (QA (pv 0) (QA QD QC))) QD) QD) QD (QR _)) QC))))))
 (QG (QN (YJ (QM (G_Lis_form.mono (by decide)) hr rfl T.m_Lis_form T.F_Lis_form.kp T.b_Lis_form .nil QP (QA (pv 9) (QA (pv 1) QC))) (Ye (Qn (zJr hr.units) (pv 9) (pv 8) (QR _))))))))))))))))),?_⟩
 try walk_at "rd"
 refine⟨b,ns,0,rfl,hS,by decide,?_⟩
 try walk_at "rd"
 refine⟨⟨by omega,by omega,by decide⟩,b,ns,0,rfl,hS,by decide,?_⟩
 try walk_at "rd"
 refine⟨b,ns,1,rfl,hS,by decide,?_⟩
 try walk_at "rd"
 refine⟨b,ns,2,rfl,hS,by decide,?_⟩
 try walk_at "rd"
 have pl0:0 < 1+YR ns 0 / 4 % 30/\1+YR ns 0 / 4 % 30<=30:=by omega
 generalize 1+YR ns 0 / 4 % 30=pool at pl0 ⊢
 generalize YR ns 1 % 5=way
 have bs0:0<=YR ns 2 % 1000000000000/\YR ns 2 % 1000000000000 < 1000000000000:=by omega
 generalize YR ns 2 % 1000000000000=bas at bs0 ⊢
 have h8:S8 (8*2 ^ (YR ns 0 % 4).toNat):=S8.of_pow (by omega)
 have n64:(8:Int)*2 ^ (YR ns 0 % 4).toNat<=64:=by
  have hk:(YR ns 0 % 4).toNat<=3:=by omega
  generalize (YR ns 0 % 4).toNat=k at hk ⊢
  have:k=0\/k=1\/k=2\/k=3:=by omega
  rcases this with rfl | rfl | rfl | rfl <;> decide
 generalize (8:Int)*2 ^ (YR ns 0 % 4).toNat=n0 at h8 n64 ⊢
 obtain⟨n,rfl⟩:=Int.eq_ofNat_of_zero_le (show 0<=n0 by have:=h8.range;omega)
 have hn8:=h8.range
 refine fun p dx np nx ne=>⟨p,dx,_,rfl,QF,h8,fun S H2 kp A en ecs eo eh em eca ewe eti emo f1 f2 f3 f4=>⟨rfl,?_⟩⟩
 obtain⟨g2,F0,h0⟩:=zHC np nx ne kp A en ecs eo f1 f2 f3 f4
 refine⟨p,b,S,ns,way,bas,pool,rfl,h0,g2.seq hS,h63,pl0.1,pl0.2,bs0.1,bs0.2,fun S1 ks l cx H3 ad kb h1 fl hl0 hl hcx kk=>?_⟩
 have en1:S1.n=n:=ad.2.2.2.2.trans en
 have G3:=F0.same g2 kb
 try walk_at "rd"
 rw[Yp h1.A (by decide +kernel)]
 obtain⟨xs,hxr,hxs⟩:=h1.A.hr
 have el:(Yr S1 xs).length<=1000:=by
  have e1:(Yr S1 xs).length<=(S1.ms.zip (xs.zip S1.hs)).length:=List.length_filter_le _ _
  rw[List.length_zip] at e1
  have:=h1.A.l2
  have:=h1.A.rm
  omega
 refine⟨p,S1,xs,rfl,h1.A,hxr,fun l4 ys H4 g4 nl4 hl4 pr4=>⟨l4,rfl,⟨_,SqL.of hl4⟩,YH (xs:=ys) (fun i zs H'=>H'=H4/\zs=((Yr S1 xs).map fun e=>e.2.1).take i) ⟨rfl,rfl⟩ (fun _ _ _ _ h=>by rw[h.1];exact SqL.of hl4) (fun i zs H' hi h=>?_) (fun i x zs H' e h=>?_) (fun zs H' h=>?_)⟩⟩
 ·obtain⟨_,rfl⟩:=h
  rw[List.length_take,List.length_map]
  exact Qh (by omega)
 ·obtain⟨rfl,rfl⟩:=h
  obtain⟨e1,e2,t1,rfl,e3⟩:=zFa pr4 e
  try walk_at "rd"
  rw[Q2 e3 rfl]
  exact⟨rfl,by rw[List.take_add_one,List.getElem?_map,e2];rfl⟩
 obtain⟨rfl,rfl⟩:=h
 rw[List.take_of_length_le (by rw[List.length_map,Paired.length pr4];exact Nat.le_refl _)]
 intro pt hpt
 try walk_at "rd"
 have htx:IsKos H3 ((Qj S1.os).map some) ((Yr S1 xs).map fun e=>e.2.1):=zE7 hxs h1.A.l1 h1.A.l2
 generalize ((Yr S1 xs).map fun e=>e.2.1)=tx at htx ⊢
 have g5:Same H3 (upd H' pt (HO.lst tx)):=g4.trans (QE hpt)
 have hpt5:upd H' pt (HO.lst tx) pt=some (.lst tx):=QF
 have fpt:Far pt p S1:=Zh (h1.A.same g4) hpt
 generalize upd H' pt (HO.lst tx)=H5 at g5 hpt5 ⊢
 have A5:=h1.A.same g5
 have cl:=hcx.len
 rw[List.length_map] at cl
 have ln:=h1.A.fm.len
 have rm:=h1.A.rm
 have kl:=h1.hi.len
 rw[Yp A5 (by decide +kernel)]
 refine⟨p,S1,rfl,A5,fun t l1 l2 ys2 H6 g6 n1 n2 n12 ht hl1 hl2 hys=>⟨t,l1,l2,S1.cs,ys2,n,rfl,ht,hl1,hl2,by omega,by omega,fun H7 g7=>⟨true,rfl,?_⟩⟩⟩
 have hl7:=g7 _ _ (g6 _ _ (g5 _ _ hl))
 have hp7:=g7 _ _ (g6 _ _ hpt5)
 have G7:=G3.trans (g5.trans (g6.trans g7))
 have h7:=h1.same (g5.trans (g6.trans g7))
 have hcx7:=hcx.same (g5.trans (g6.trans g7)).tups
 have htx7:=htx.same (g5.trans (g6.trans g7)).tups
 replace ht:=g7 _ _ ht
 replace hl1:=g7 _ _ hl1
 replace hl2:=g7 _ _ hl2
 replace hys:=hys.same g7.tups
 rw[if_neg (by decide),Q2 ht rfl,YU hl1]
 intro m1 hm1
 have g8:=QE (o:=HO.lst (S1.cs.map V.int)) hm1
 have hm18:upd H7 m1 (HO.lst (S1.cs.map V.int)) m1=_:=QF
 generalize upd H7 m1 (HO.lst (S1.cs.map V.int))=H8 at g8 hm18 ⊢
 try walk_at "rd"
 rw[Q2 (g8 _ _ ht) rfl,YU (g8 _ _ hl2)]
 intro m2 hm2
 have g9:=QE (o:=HO.lst ys2) hm2
 have hm29:upd H8 m2 (HO.lst ys2) m2=_:=QF
 generalize upd H8 m2 (HO.lst ys2)=H9 at g9 hm29 ⊢
 have fr:=zHQ h1.A
 refine⟨m1,m2,S1.cs,ys2,S1.os,rfl,g9 _ _ hm18,hm29,hys.same (g8.trans g9).tups,h1.A.dp,by omega,by omega,fun H10 b' g10 hb=>?_⟩
 have:=hb.mpr fr.1
 subst this
 refine⟨true,true,rfl,rfl,false,rfl,?_⟩
 have g:=g8.trans (g9.trans g10)
 rw[if_neg (by decide),Qe (g _ _ hl7)]
 refine⟨.inl ⟨by decide,by decide⟩,_,rfl,?_⟩
 rw[if_neg (by omega),Q2 (g _ _ ht) rfl,YU (g _ _ hl1)]
 intro m3 hm3
 have g11:=QE (o:=HO.lst (S1.cs.map V.int)) hm3
 have hm31:upd H10 m3 (HO.lst (S1.cs.map V.int)) m3=_:=QF
 generalize upd H10 m3 (HO.lst (S1.cs.map V.int))=H11 at g11 hm31 ⊢
 have G11:=g.trans g11
 try walk_at "rd"
 rw[Q2 (G11 _ _ ht) rfl,YU (G11 _ _ hl2)]
 intro m4 hm4
 have g12:=QE (o:=HO.lst ys2) hm4
 have hm42:upd H11 m4 (HO.lst ys2) m4=_:=QF
 generalize upd H11 m4 (HO.lst ys2)=H12 at g12 hm42 ⊢
 refine⟨by decide,fun t2 ht2=>?_⟩
 have g13:=QE (o:=HO.tup [V.ref m3,V.ref m4]) ht2
 have ht23:upd H12 t2 (HO.tup [V.ref m3,V.ref m4]) t2=_:=QF
 have hm33:=g13 _ _ (g12 _ _ hm31)
 have hm43:=g13 _ _ hm42
 generalize upd H12 t2 (HO.tup [V.ref m3,V.ref m4])=H13 at g13 ht23 hm33 hm43 ⊢
 have G13:=G11.trans (g12.trans g13)
 have D1:DueO ks (Qj S1.os) S1.os ks.length:=h1.due fun k=>⟨fun h=>⟨h1.mem h,prs_iff.mp h⟩,fun h=>prs_iff.mpr h.2⟩
 refine⟨l,pt,cx,tx,ks,Qj S1.os,n,rfl,G13 _ _ hl7,hcx7.same G13.tups,G13 _ _ hp7,htx7.same G13.tups,kk,h1.kok,h8,by omega,by omega,fun t3 a1 a2 L ys3 os3 H14 g14 na1 na2 ht3 ha1 ha2 hys3 lb D3=>?_⟩
 obtain⟨eo3,ec3⟩:=h1.cells en1 D1 lb D3
 subst eo3
 rw[← ec3] at ha1
 have G14:=G13.trans g14
 refine⟨t2,t3,m3,m4,a1,a2,_,ys2,_,ys3,cz S1.cs,S1.os,cz S1.cs,S1.os,rfl,rfl,g14 _ _ ht23,ht3,QJ hm33 na1,QJ hm43 na2,g14 _ _ hm33,g14 _ _ hm43,ha1,ha2,Y5 _,hys.same G14.tups,Y5 _,hys3,zCC,fun o ho=>shal_mono (h1.A.dp o ho),false,by simp,?_⟩
 rw[if_neg (by decide)]
 have hS14:=(G7.trans G14).seq hS
 have h14:=h7.same G14
 have hl14:=G14 _ _ hl7
 have hp14:=G14 _ _ hp7
 have hcx14:=hcx7.same G14.tups
 have htx14:=htx7.same G14.tups
 replace ht:=G14 _ _ ht
 replace hl1:=G14 _ _ hl1
 replace hl2:=G14 _ _ hl2
 replace hys:=hys.same G14.tups
 clear G14 G13 G11 g14 g13 g12 g11 g10 g9 g8 g7 g6 g5 g4 g hm18 hm29 hm31 hm33 hm42 hm43 ht23 hb hm1 hm2 hm3 hm4 ht2 na1 na2 ht3 ha1 ha2 hys3 D3
 refine fun p2 dx2 np2 nx2 ne2=>⟨p2,dx2,_,rfl,QF,h8,fun T2 H15 kp2 A2 en2 ecs2 eo2 _ _ _ _ _ _ q1 q2 q3 q4=>⟨rfl,?_⟩⟩
 obtain⟨g15,F2,h2⟩:=zHC np2 nx2 ne2 kp2 A2 en2 ecs2 eo2 q1 q2 q3 q4
 have en3:T2.n=n:=en2
 refine⟨b,ns,1,rfl,g15.seq hS14,by decide,_,rfl,p2,l,pt,T2,cx,tx,ks,Qj S1.os,_,rfl,h2,g15 _ _ hl14,hcx14.same g15.tups,g15 _ _ hp14,htx14.same g15.tups,kk,h1.kok,F2.far hl14,F2.far hp14,by omega,by omega,fun S2 t5 b1 b2 ys5 H16 h5 ad5 pr5 kb5 far5 n5 ht5 hb1 hb2 hys5=>?_⟩
 have en5:S2.n=n:=ad5.2.2.2.2.trans en3
 have D5:=h5.due pr5
 obtain⟨L5,lb5,ec1⟩:=h1.hi.lb
 rw[en1] at lb5
 obtain⟨eo5,ec5⟩:=h5.cells en5 D5 lb5 D1
 rw[← ec1] at ec5
 rw[ec5] at hb1
 rw[eo5] at hys5
 refine⟨t5,b1,b2,S1.cs,ys5,n,rfl,ht5,hb1,hb2,by omega,by omega,fun H17 g17=>⟨true,rfl,?_⟩⟩
 have G17:=(F2.same g15 kb5).trans g17
 have nb:=far5 l1 _ (g15 _ _ hl1) (F2.far hl1)
 have nc:=far5 l2 _ (g15 _ _ hl2) (F2.far hl2)
 rw[if_pos rfl]
 exact⟨t5,t,b1,b2,l1,l2,_,ys5,_,ys2,cz S1.cs,S1.os,cz S1.cs,S1.os,rfl,rfl,g17 _ _ ht5,G17 _ _ ht,Ne.symm nb.1,Ne.symm nc.2,g17 _ _ hb1,g17 _ _ hb2,G17 _ _ hl1,G17 _ _ hl2,Y5 _,hys5.same g17.tups,Y5 _,hys.same G17.tups,zCC,fun o ho=>shal_mono (h1.A.dp o ho),by simpa using q H17⟩
end
section
variable {P:Program} {w:World} {K:W.Frag} {mg:Str->Option Value} {base:Heap} {a:Ad}
theorem WC (T:Txt K mg a):FnOk P w K mg base CX0 1 a.f_text_stamp a.d_text_stamp ZZ zDv:=by
 refine T.F_text_stamp.ok sc_text_stamp (fun vs H Q E h=>?_) (fun cdv A outer s H vs Q E hr h=>?_)
 ·obtain⟨x,rfl,_⟩:=h
  rfl
 have nd:=sc_text_stamp.nd
 obtain⟨x,rfl,q⟩:=h
 refine⟨_,(QB (QQ (i:=1) nd rfl (Or.inl rfl) QD)
 (QB (YT PassesOwn.never rfl (zIb (pv 0)) (Qt (i:=2) nd rfl (Or.inl rfl)) (QG (QQ (i:=1) nd rfl (Or.inl rfl) (QK QX (QK Qv (QK Q1 QD (pv 1)) (QL zBQ rfl T.z_ord boot_ord (QA (pv 2) QC))) (Qq (v:=.int 2147483647) rfl T.c_TURN ⟨_,rfl⟩)))))
 (QG (QN (pv 1))))),?_⟩
 walk_at "rd"
 refine zDg (fun i σ H'=>H'=H/\∃ u,σ=[some (.str x),some (.int (tst (x.cps.toList.take i))),u]) ⟨rfl,_,rfl⟩ (fun i c σ H' hc h=>?_) (fun σ H' h=>?_)
 ·obtain⟨rfl,u,rfl⟩:=h
  walk_at "rd"
  refine⟨.inl ⟨by decide,by decide⟩,?_⟩
  rw[YK hc,zDU]
 ·obtain⟨rfl,u,rfl⟩:=h
  walk_at "rd"
  have e:x.cps.toList.take x.cps.size=x.cps.toList:=List.take_of_length_le (by simp)
  rw[e]
  exact q
theorem JU {n k:Nat} (T:Txt K mg a) (hn:1<=n) (G_text_stamp:FnOk P w K mg base CX0 1 a.f_text_stamp a.d_text_stamp ZZ zDv)
  (G_tuple_stamp:∀ m,k=m+1->FnOk P w K mg base CX0 n a.f_tuple_stamp a.d_tuple_stamp Yv (zL1 m)):FnOk P w K mg base CX0 (n+1) a.f_stamp a.d_stamp Z6 (zBB k):=by
 refine T.F_stamp.ok sc_stamp (fun vs H Q E h=>?_) (fun cdv A outer s H vs Q E hr h=>?_)
 ·obtain⟨v,k,rfl,_⟩:=h
  rfl
 have nd:=sc_stamp.nd
 obtain⟨v,kd,rfl,hk,hd,q⟩:=h
 cases kd with
 | num i =>
  unfold IsK at hk
  subst hk
  refine⟨_,(QB (QT (QY (QL QU rfl T.z_isinstance boot_isinstance (QA (pv 0) (QA (QZ (v:=.ty "str") rfl T.z_str boot_str rfl) QC)))) QV QO) (QB (QT (QY (QL QU rfl T.z_isinstance boot_isinstance (QA (pv 0) (QA (QZ (v:=.ty "tuple") rfl T.z_tuple boot_tuple rfl) QC)))) QV QO) (QG (QN (QK QX (pv 0) (Qq (v:=.int 2147483647) rfl T.c_TURN ⟨_,rfl⟩)))))),?_⟩
  walk_at "rd"
  unfold Kd.st at q
  exact q
 | txt x =>
  unfold IsK at hk
  subst hk
  refine⟨_,(QB (QT (QY (QL QU rfl T.z_isinstance boot_isinstance (QA (pv 0) (QA (QZ (v:=.ty "str") rfl T.z_str boot_str rfl) QC)))) (QG (QN (QM (G_text_stamp.mono hn) hr rfl T.m_text_stamp T.F_text_stamp.kp T.b_text_stamp .nil QP (QA (pv 0) QC)))) QO) (QB Wf QV)),?_⟩
  walk_at "rd"
  unfold Kd.st at q
  exact q
 | tup ks =>
  unfold IsK at hk
  obtain⟨b,ws,rfl,hb,_,hks⟩:=hk
  unfold Kd.deep at hd
  obtain⟨m,rfl⟩:∃ m,k=m+1:=⟨k - 1,by omega⟩
  have G_tuple_stamp:=G_tuple_stamp m rfl
  refine⟨_,(QB (QT (QY (QL QU rfl T.z_isinstance boot_isinstance (QA (pv 0) (QA (QZ (v:=.ty "str") rfl T.z_str boot_str rfl) QC)))) QV QO) (QB (QT (QY (QL QU rfl T.z_isinstance boot_isinstance (QA (pv 0) (QA (QZ (v:=.ty "tuple") rfl T.z_tuple boot_tuple rfl) QC)))) (QG (QN (QM G_tuple_stamp hr rfl T.m_tuple_stamp T.F_tuple_stamp.kp T.b_tuple_stamp .nil QP (QA (pv 0) QC)))) QO) QV)),?_⟩
  (iterate 4 ((try simp only[Q6 hb,Qz hb]);(try walk_at "rd")))
  unfold Kd.st at q
  exact⟨_,_,_,rfl,hb,hks,by omega,q⟩
theorem W3 {n k:Nat} (T:Txt K mg a) (G_stamp:FnOk P w K mg base CX0 n a.f_stamp a.d_stamp Z6 (zBB k)):FnOk P w K mg base CX0 (n+1) a.f_tuple_stamp a.d_tuple_stamp Yv (zL1 k):=by
 refine T.F_tuple_stamp.ok sc_tuple_stamp (fun vs H Q E h=>?_) (fun cdv A outer s H vs Q E hr h=>?_)
 ·obtain⟨v,k,ks,rfl,_⟩:=h
  rfl
 have nd:=sc_tuple_stamp.nd
 obtain⟨b,ws,ks,rfl,hb,hks,hd,q⟩:=h
 refine⟨_,(QB (QQ (i:=1) nd rfl (Or.inl rfl) QD)
 (QB (YT PassesOwn.never rfl (zD2 (pv 0)) (Qt (i:=2) nd rfl (Or.inl rfl)) (QG (QQ (i:=1) nd rfl (Or.inl rfl) (QK QX (QK zDr (QK Q1 QD (pv 1)) (QM G_stamp hr rfl T.m_stamp T.F_stamp.kp T.b_stamp .nil QP (QA (pv 2) QC))) (Qq (v:=.int 2147483647) rfl T.c_TURN ⟨_,rfl⟩)))))
 (QG (QN (pv 1))))),?_⟩
 walk_at "rd"
 refine⟨⟨_,SqT.of hb⟩,?_⟩
 refine zC3 (xs:=ws) (fun i σ H'=>H'=H/\∃ u,σ=[some (.ref b),some (.int (Kd.stL 11 (ks.take i))),u]) ⟨rfl,_,by unfold Kd.stL;rfl⟩ (fun i σ H' _ h=>by rw[h.1];exact SqT.of hb) (fun i x σ H' hc h=>?_) (fun σ H' h=>?_)
 ·obtain⟨rfl,u,rfl⟩:=h
  obtain⟨k',e1,e2⟩:=hks.get hc
  walk_at "rd"
  refine⟨.inl ⟨by decide,by decide⟩,x,k',rfl,e2,Nat.le_trans (Kd.deep_le (List.mem_of_getElem? e1)) hd,?_⟩
  walk_at "rd"
  rw[YK e1,Kd.stL_snoc]
 ·obtain⟨rfl,u,rfl⟩:=h
  walk_at "rd"
  rw[List.take_of_length_le (by rw[hks.length];exact Nat.le_refl _)]
  exact q
theorem Wr (T:Txt K mg a):∀ d:Nat,FnOk P w K mg base CX0 (2*d+2) a.f_stamp a.d_stamp Z6 (zBB d)
 | 0=>JU (n:=1) (k:=0) T (Nat.le_refl _) (WC T) (fun m h=>by cases h)
 | d + 1 => JU (n := 2 * d + 3) (k := d + 1) T (by omega) (WC T) (fun m h => by
   cases h
   exact W3 T (Wr T d))
theorem zGE (T:Txt K mg a):FnOk P w K mg base CX0 1 a.f_stride a.d_stride zAI zC9:=by
 refine T.F_stride.ok sc_stride (fun vs H Q E h=>?_) (fun cdv A outer s H vs Q E hr h=>?_)
 ·obtain⟨m,rfl,_⟩:=h
  rfl
 have nd:=sc_stride.nd
 obtain⟨m,rfl,h0,q⟩:=h
 refine⟨_,(QG (QN (QK zL4 (QK Qk (pv 0) QD) QD))),?_⟩
 walk_at "rd"
 rw[zFz (by omega)]
 exact q
theorem zHg (T:Txt K mg a)(G_stride:FnOk P w K mg base CX0 1 a.f_stride a.d_stride zAI zC9):FnOk P w K mg base CX0 2 a.f_probe a.d_probe Jh zBm:=by
 refine T.F_probe.ok sc_probe (fun vs H Q E h=>?_) (fun cdv A outer s H vs Q E hr h=>?_)
 ·obtain⟨m,s,c,rfl,_⟩:=h
  rfl
 have nd:=sc_probe.nd
 obtain⟨m,s,c,rfl,h0,h1,h2,h3,q⟩:=h
 refine⟨_,(QG (QN (QK QX (QK Qv (pv 0) (QK Q1 (pv 2) (QM (G_stride.mono (by decide)) hr rfl T.m_stride T.F_stride.kp T.b_stride .nil QP (QA (pv 0) QC)))) (pv 1)))),?_⟩
 walk_at "rd"
 refine⟨_,rfl,h0,?_⟩
 walk_at "rd"
 refine⟨.inl ⟨by omega,by omega⟩,h1,?_⟩
 have e:pr m s c.toNat=(m+c*std m) % s:=by unfold pr;rw[Int.toNat_of_nonneg h2]
 rw[← e]
 exact q
theorem zDI (T:Txt K mg a):FnOk P w K mg base CX0 1 a.f_Lcell_at a.d_Lcell_at WS (zHJ K):=by
 refine T.F_Lcell_at.ok sc_Lcell_at (fun vs H Q E h=>?_) (fun cdv A outer s H vs Q E hr h=>?_)
 ·obtain⟨b,ns,k,rfl,_⟩:=h
  rfl
 have nd:=sc_Lcell_at.nd
 obtain⟨b,ns,k,rfl,hS,h0,q⟩:=h
 refine⟨_,(QB (QT (QS zAq (pv 1) (QL ZY rfl T.z_len PySem.boot_len (QA (pv 0) QC)) (QR _)) (QG (QN (Qg zFi (pv 0) (pv 1) (fun _ _=>rfl)))) QO)
 (QG (QN QD))),?_⟩
 walk_at "rd"
 refine⟨_,.inl hS,?_⟩
 rw[List.length_map]
 refine Yc (fun c=>?_) (fun c=>?_)
 ·have e:k=((k.toNat:Nat):Int):=by omega
  have hk:k.toNat < ns.length:=by omega
  refine⟨b,_,k,V.int ns[k.toNat],rfl,rfl,hS,?_,?_⟩
  ·have e3:atI (ns.map V.int) ((k.toNat:Nat):Int)=some (V.int ns[k.toNat]):=YM (by simp[hk])
   rw[← e] at e3
   exact e3
  ·have e2:YR ns k=ns[k.toNat]:=by unfold YR;rw[List.getElem?_eq_getElem hk];rfl
   rw[← e2];exact q
 ·have e2:YR ns k=0:=by unfold YR;rw[List.getElem?_eq_none (by omega)];rfl
  rw[e2] at q
  exact q
theorem zH0 (T:Txt K mg a):FnOk P w K mg base CX0 1 a.f_Ltext a.d_Ltext W2 Jx:=by
 refine T.F_Ltext.ok sc_Ltext (fun vs H Q E h=>?_) (fun cdv A outer s H vs Q E hr h=>?_)
 ·obtain⟨i,n,rfl,_⟩:=h
  rfl
 have nd:=sc_Ltext.nd
 obtain⟨i,n,rfl,h0,h1,q⟩:=h
 refine⟨_,(QB (QQ (i:=2) nd rfl (Or.inl rfl) JC)
 (QB (QQ (i:=2) nd rfl (Or.inl rfl) (QK ZS (pv 2) JC))
 (QB (QQ (i:=3) nd rfl (Or.inl rfl) JC)
 (QB (YT PassesOwn.never rfl (Y7 rfl T.z_range (QA (pv 1) QC)) (Qt (i:=4) nd rfl (Or.inl rfl)) (QB (QQ (i:=0) nd rfl (Or.inl rfl) (QK QX (QK Qv (QK Q1 (pv 0) QD) QD) QD))
 (QG (QQ (i:=3) nd rfl (Or.inl rfl) (QK ZS (pv 3) (Qg zLB (pv 2) (QK QX (pv 0) QD) (fun _ _=>rfl)))))))
 (QG (QN (pv 3))))))),?_⟩
 walk_at "rd"
 refine⟨by decide +kernel,?_⟩
 generalize hz:(Str.ofString " !\"#$&'()*+,-./0123456789:;<=>?@ABCDEFGHIJKLMNOPQRSTUVWXYZ[\\]^_`" ++ Str.ofString "abcdefghijklmnopqrstuvwxyz{|}~")=z
 have hl:z.cps.toList.length=94:=by rw[← hz];decide +kernel
 have hl2:z.length<=sizeLine:=by rw[← hz];decide +kernel
 refine⟨by omega,by omega,?_⟩
 refine ZO (fun k σ H'=>H'=H/\∃ (i:Int) (x:Str) (u:Option V),σ=[some (.int i),some (.int n),some (.str z),some (.str x),u]/\x.length=k) ⟨rfl,_,_,_,rfl,rfl⟩ (fun k σ H' hi h=>?_) (fun σ H' h=>?_)
 ·obtain⟨rfl,i,x,u,rfl,hx⟩:=h
  walk_at "rd"
  refine⟨.inr ⟨by decide,by decide⟩,?_⟩
  obtain⟨c,hc⟩:=zKz (l:=z.cps.toList) (i:=(i*48271+11) % 2147483629 % 94) (by omega) (by rw[hl];omega)
  refine⟨z,_,c,rfl,rfl,hl2,hc,⟨#[c]⟩,rfl,?_,rfl,?_⟩
  ·show x.length+1<=sizeLine
   exact Nat.le_of_lt (Qh (by omega))
  ·rw[Jn,hx];rfl
 ·obtain⟨rfl,i,x,u,rfl,hx⟩:=h
  walk_at "rd"
  exact q x (by omega)
theorem Wk {d:Nat} (T:Txt K mg a) (G_Lstamp:∀ m,d=m+1->FnOk P w K mg base CX0 d a.f_Lstamp a.d_Lstamp Y6 (zBB m)):FnOk P w K mg base CX0 (d+1) a.f_Lstamp a.d_Lstamp Y6 (zBB d):=by
 refine T.F_Lstamp.ok sc_Lstamp (fun vs H Q E h=>?_) (fun cdv A outer s H vs Q E hr h=>?_)
 ·obtain⟨v,k,rfl,_⟩:=h
  rfl
 have nd:=sc_Lstamp.nd
 obtain⟨v,k,rfl,hk,hd,q⟩:=h
 cases k with
 | num i =>
  unfold IsK at hk
  subst hk
  refine⟨_,(QB (QT (QY (QL QU rfl T.z_isinstance boot_isinstance (QA (pv 0) (QA (QZ (v:=.ty "int") rfl T.z_int boot_int rfl) QC)))) (QG (QN (QK QX (pv 0) QD))) QO) QV),?_⟩
  walk_at "rd"
  unfold Kd.st at q
  exact q
 | txt x =>
  unfold IsK at hk
  subst hk
  refine⟨_,(QB (QT (QY (QL QU rfl T.z_isinstance boot_isinstance (QA (pv 0) (QA (QZ (v:=.ty "int") rfl T.z_int boot_int rfl) QC)))) QV QO) (QB (QT (QY (QL QU rfl T.z_isinstance boot_isinstance (QA (pv 0) (QA (QZ (v:=.ty "str") rfl T.z_str boot_str rfl) QC)))) (QB (QQ (i:=1) nd rfl (Or.inl rfl) QD)
   (QB (YT PassesOwn.never rfl (zIb (pv 0)) (Qt (i:=2) nd rfl (Or.inl rfl)) (QG (QQ (i:=1) nd rfl (Or.inl rfl) (QK QX (QK Qv (QK Q1 QD (pv 1)) (QL zBQ rfl T.z_ord boot_ord (QA (pv 2) QC))) QD))))
   (QG (QN (pv 1))))) QO) QV)),?_⟩
  walk_at "rd"
  refine zDg (fun i σ H'=>H'=H/\∃ u w,σ=[some (.str x),some (.int (tst (x.cps.toList.take i))),u,w]) ⟨rfl,_,_,rfl⟩ (fun i c σ H' hc h=>?_) (fun σ H' h=>?_)
  ·obtain⟨rfl,u,w,rfl⟩:=h
   walk_at "rd"
   refine⟨.inl ⟨by decide,by decide⟩,?_⟩
   rw[YK hc,zDU]
  ·obtain⟨rfl,u,w,rfl⟩:=h
   walk_at "rd"
   have e:x.cps.toList.take x.cps.size=x.cps.toList:=List.take_of_length_le (by simp)
   rw[e]
   unfold Kd.st at q
   exact q
 | tup ks =>
  unfold IsK at hk
  obtain⟨b,ws,rfl,hb,hz,hks⟩:=hk
  unfold Kd.deep at hd
  unfold Kd.st at q
  obtain⟨m,rfl⟩:∃ m,d=m+1:=⟨d - 1,by omega⟩
  have G_Lstamp:=G_Lstamp m rfl
  refine⟨_,(QB (QT (QY (QL QU rfl T.z_isinstance boot_isinstance (QA (pv 0) (QA (QZ (v:=.ty "int") rfl T.z_int boot_int rfl) QC)))) QV QO) (QB (QT (QY (QL QU rfl T.z_isinstance boot_isinstance (QA (pv 0) (QA (QZ (v:=.ty "str") rfl T.z_str boot_str rfl) QC)))) QV QO) (QB (QQ (i:=1) nd rfl (Or.inl rfl) QD)
   (QB (YT PassesOwn.never rfl (zD2 (pv 0)) (Qt (i:=3) nd rfl (Or.inl rfl)) (QG (QQ (i:=1) nd rfl (Or.inl rfl) (QK QX (QK zDr (QK Q1 QD (pv 1)) (QM G_Lstamp hr rfl T.m_Lstamp T.F_Lstamp.kp T.b_Lstamp .nil QP (QA (pv 3) QC))) QD))))
   (QG (QN (pv 1))))))),?_⟩
  (iterate 4 ((try simp only[Yt hb,Q6 hb]);(try walk_at "rd")))
  refine⟨⟨_,SqT.of hb⟩,?_⟩
  refine zC3 (xs:=ws) (fun i σ H'=>H'=H/\∃ u w,σ=[some (.ref b),some (.int (Kd.stL 11 (ks.take i))),u,w]) ⟨rfl,_,_,by unfold Kd.stL;rfl⟩ (fun i σ H' _ h=>by rw[h.1];exact SqT.of hb) (fun i x σ H' hc h=>?_) (fun σ H' h=>?_)
  ·obtain⟨rfl,u,w,rfl⟩:=h
   obtain⟨k',e1,e2⟩:=hks.get hc
   walk_at "rd"
   refine⟨.inl ⟨by decide,by decide⟩,x,k',rfl,e2,Nat.le_trans (Kd.deep_le (List.mem_of_getElem? e1)) (by omega),?_⟩
   walk_at "rd"
   rw[YK e1,Kd.stL_snoc]
  ·obtain⟨rfl,u,w,rfl⟩:=h
   walk_at "rd"
   rw[List.take_of_length_le (by rw[hks.length];exact Nat.le_refl _)]
   exact q
theorem WQ (T:Txt K mg a):∀ d:Nat,FnOk P w K mg base CX0 (d+1) a.f_Lstamp a.d_Lstamp Y6 (zBB d)
 | 0=>Wk T (fun m h=>by cases h)
 | d+1=>Wk T (fun m h=>by cases h;exact WQ T d)
theorem zHT (T:Txt K mg a):FnOk P w K mg base CX0 1 a.f_Lstep a.d_Lstep zCA zFB:=by
 refine T.F_Lstep.ok sc_Lstep (fun vs H Q E h=>?_) (fun cdv A outer s H vs Q E hr h=>?_)
 ·obtain⟨m,rfl,_⟩:=h
  rfl
 have nd:=sc_Lstep.nd
 obtain⟨m,rfl,q⟩:=h
 refine⟨_,(QB (QT (QS YS (QK QX (QK Qk (pv 0) QD) QD) QD (QR _)) (QG (QN (QK Qv (QK Qk (pv 0) QD) QD))) QO)
 (QG (QN (QK Qk (pv 0) QD)))),?_⟩
 walk_at "rd"
 rw[← zJG] at q
 refine Yc (fun c=>?_) (fun c=>?_)
 ·rw[if_pos c] at q;exact q
 ·rw[if_neg c] at q;exact q
theorem zHA (T:Txt K mg a)(G_Ltext:FnOk P w K mg base CX0 1 a.f_Ltext a.d_Ltext W2 Jx):FnOk P w K mg base CX0 2 a.f_Lleaf a.d_Lleaf zCF zGp:=by
 refine T.F_Lleaf.ok sc_Lleaf (fun vs H Q E h=>?_) (fun cdv A outer s H vs Q E hr h=>?_)
 ·obtain⟨i,rfl,_⟩:=h
  rfl
 have nd:=sc_Lleaf.nd
 obtain⟨i,rfl,h0,h1,q⟩:=h
 refine⟨_,(QB (QQ (i:=1) nd rfl (Or.inl rfl) (QK Qk (pv 0) QD))
 (QB (QT (QS YS (QK QX (pv 0) QD) QD (QR _)) (QG (QN (QK JI (QK QX (pv 1) QD) QD))) QO)
 (QB (QT (QS YS (QK QX (pv 0) QD) QD (QR _)) (QG (QN (QK Qv (QK JI (QK QX (QK Q1 (pv 1) (QK Zu QD QD)) (QK JI (QK Q1 QD (QK Zu QD QD)) QD)) (QK Zu QD QD)) QD))) QO)
 (QB (QT (QS YS (QK QX (pv 0) QD) QD (QR _)) (QG (QN (QM (G_Ltext.mono (by decide)) hr rfl T.m_Ltext T.F_Ltext.kp T.b_Ltext .nil QP (QA (pv 1) (QA (QK QX (QK Qk (pv 1) QD) QD) QC))))) QO)
 (QG (QN (QK Qv (QK QX (pv 1) QD) (QK Q1 QD (QK QX (QK Qk (pv 1) QD) QD))))))))),?_⟩
 have qn:∀ j,-10 ^ 60 < j->j < 10 ^ 60->Q (.int j) H:=fun j a b=>q _ (.num j) Z4 zAf (zD4 a b)
 have qt:∀ x:Str,x.length<=60->Q (.str x) H:=fun x h=>q _ (.txt x) Js W0 (zEC h)
 walk_at "rd"
 refine Yc (fun _=>qn _ (by omega) (by omega)) (fun _=>Yc (fun _=>?_) (fun _=>Yc (fun _=>?_) (fun _=>?_)))
 ·refine⟨⟨by decide,by decide,by decide⟩,.inl ⟨by omega,by omega⟩,.inl ⟨by decide,by decide⟩,?_⟩
  generalize i / 4*_=z
  exact qn _ (by omega) (by omega)
 ·refine⟨_,_,rfl,by omega,by omega,fun x hx=>qt x (by omega)⟩
 ·exact⟨.inl ⟨by decide,by decide⟩,qn _ (by omega) (by omega)⟩
end
section
variable {P:Program} {w:World} {K:W.Frag} {mg:Str->Option Value} {base:Heap} {a:Ad}
theorem zDo (T:Txt K mg a)(G_Ltext:FnOk P w K mg base CX0 1 a.f_Ltext a.d_Ltext W2 Jx)(G_Lleaf:FnOk P w K mg base CX0 2 a.f_Lleaf a.d_Lleaf zCF zGp):FnOk P w K mg base CX0 3 a.f_Lany_key a.d_Lany_key WI zJ6:=by
 refine T.F_Lany_key.ok sc_Lany_key (fun vs H Q E h=>?_) (fun cdv A outer s H vs Q E hr h=>?_)
 ·obtain⟨i,rfl,_⟩:=h
  rfl
 have nd:=sc_Lany_key.nd
 obtain⟨i,rfl,h0,h1,q⟩:=h
 refine⟨_,(QB (QQ (i:=1) nd rfl (Or.inr rfl) (QK Qk (pv 0) QD))
 (QB (QT (QS YS (QK QX (pv 0) QD) QD (QR _)) (QG (QN (QM (G_Ltext.mono (by decide)) hr rfl T.m_Ltext T.F_Ltext.kp T.b_Ltext .nil QP (QA (pv 1) (QA (QK QX (pv 1) QD) QC))))) QO)
 (QB (QT (QS zAq (QK QX (pv 0) QD) QD (QR _)) (QG (QN (QM (G_Lleaf.mono (by decide)) hr rfl T.m_Lleaf T.F_Lleaf.kp T.b_Lleaf .nil QP (QA (pv 1) QC)))) QO)
 (QB (zFV (i:=2) nd rfl (Or.inl rfl) "_law_k" ["_law_rest"] [1] rfl ⟨rfl,rfl,by decide +kernel,by decide +kernel,rfl,by decide +kernel,by decide +kernel,rfl,by decide +kernel⟩ rfl (Y7 rfl T.z_range (QA (QK QX (pv 1) QD) QC)) (fun C s1 H1 fp=>(QM (G_Lleaf.mono (by decide)) hr rfl T.m_Lleaf T.F_Lleaf.kp T.b_Lleaf .nil QP (QA (QK Qv (QK Qk (pv 1) (QK Qv (QK Q1 (pv 0) (pv 0)) QD)) (QK Q1 QD (pv 0))) QC))))
 (QB (QT (PW.pt (zEN (QS YS (QK QX (pv 0) QD) QD (QR _)) (zB8 (QS zDB (QL QW rfl T.z_len PySem.boot_len (QA (pv 2) QC)) QD (QR _))))) (QG (ZK (ZW (QA (Qy zBc rfl T.z_tuple boot_tuple (QA (Zk zBp (pv 2) (Z2 QD) Jl) QC)) (QA (ZW QC) QC))) (ZR (pv 2) (QK QX (QK Qk (pv 1) QD) (QL QW rfl T.z_len PySem.boot_len (QA (pv 2) QC))) Wp))) QO)
 (QG (QN (Qy zBc rfl T.z_tuple boot_tuple (QA (pv 2) QC))))))))),?_⟩
 walk_at "rd"
 refine Yc (fun _=>?_) (fun _=>Yc (fun _=>?_) (fun _=>?_))
 ·exact⟨_,_,rfl,by omega,by omega,fun x hxl=>q _ (.txt x) H (Same.refl H) Js (by rw[W0];decide) (zEC (by omega) 3)⟩
 ·exact⟨_,rfl,by omega,by omega,fun v k hk hd ho=>q v k H (Same.refl H) hk (by omega) (ho 3)⟩
 refine⟨by omega,by omega,?_⟩
 refine zDb (fun n ys H'=>H'=H/\ys.length=n/\∃ ks,IsKs H ks ys/\Kd.deepL ks=0/\∀ k∈ks,zFD k) ⟨rfl,rfl,[],IsKs.nil,rfl,fun k hk=>by cases hk⟩ (fun n ys H' hn h=>?_) (fun n ys H' hn h=>?_) (fun ys H' h=>?_)
 ·obtain⟨rfl,hl,_⟩:=h
  exact Qh (by omega)
 ·obtain⟨rfl,hl,ks,hks,hd,hok⟩:=h
  have hn7:n < 7:=by omega
  have nn:((n:Int))*n<=6*6:=Int.mul_le_mul (by omega) (by omega) (by omega) (by omega)
  have n0:0<=((n:Int))*n:=Int.mul_nonneg (by omega) (by omega)
  have e1:0<=i / 6 / ((n:Int)*n+1):=Int.ediv_nonneg (by omega) (by omega)
  have e2:i / 6 / ((n:Int)*n+1)<=i / 6:=Int.ediv_le_self _ (by omega)
  walk_at "rd"
  rw[Int.zero_add]
  refine⟨.inl ⟨by omega,by omega⟩,by omega,by omega,.inl ⟨by omega,by omega⟩,_,rfl,by omega,by omega,fun v k hk hdk hko=>?_⟩
  refine⟨rfl,by rw[List.length_append,hl];rfl,ks++[k],hks.snoc hk,?_,fun x hx=>(List.mem_append.mp hx).elim (hok x) fun y=>by rw[List.mem_singleton.mp y];exact hko⟩
  have:Kd.deepL (ks++[k])<=0:=Kd.deepL_le fun x hx=>by
   rcases List.mem_append.mp hx with y | y
   ·have:=Kd.deep_le y;omega
   ·rw[List.mem_singleton.mp y];omega
  omega
 obtain⟨rfl,hl,ks,hks,hd,hok⟩:=h
 have ksl:ks.length=ys.length:=(hks.length).symm
 intro p hp
 have d0:∀ k∈ks,k.deep<=0:=fun k hk=>by have:=Kd.deep_le hk;omega
 have ml:ys.length<=6:=by omega
 have fin:∀ H1 t vs ks',Same H' H1->H1 t=some (HO.tup vs)->vs.length<=6->IsKs H1 ks' vs->Kd.deepL ks'<=2->(∀ k∈ks',k.th.ok 2=true)->Q (.ref t) H1:=fun H1 t vs ks' g ht hv hk hdp ho=>q _ (.tup ks') H1 g (Z7 ht (by omega) hk) (by unfold Kd.deep;omega) (zAP (by rw[← hk.length];exact hv) ho)
 have g1:=QE (o:=HO.lst ys) hp
 have plain:zJv [V.ref p] (upd H' p (HO.lst ys)) Q:=by
  rw[zAm QF]
  intro t ht
  have g2:=g1.trans (QE (o:=HO.tup ys) ht)
  exact fin _ t ys ks g2 QF ml (hks.same g2.tups) (by omega) (fun k hk=>hok k hk 2)
 refine Yc (fun _=>?_) (fun _=>plain)
 rw[Qe QF]
 refine⟨_,rfl,Yc (fun c0=>?_) (fun _=>plain)⟩
 refine⟨p,_,rfl,SqL.of QF,fun r hr'=>?_⟩
 rw[show (some (1:Int))=some ((1:Nat):Int) from rfl,zFA]
 have g2:=QE (o:=HO.lst (ys.drop 1)) hr'
 show zJv [V.ref r] _ _
 rw[zAm QF]
 intro t ht
 have g3:=QE (o:=HO.tup (ys.drop 1)) ht
 refine⟨by decide,fun p1 hp1=>⟨by decide,fun p2 hp2=>?_⟩⟩
 have g4:=QE (o:=HO.tup []) hp1
 have g5:=QE (o:=HO.tup [V.ref t,V.ref p1]) hp2
 have gl:=(g2.trans g3).trans (g4.trans g5)
 have hp5:=gl _ _ (QF (H:=H') (a:=p) (o:=HO.lst ys))
 rw[Qe hp5]
 refine⟨_,rfl,by omega,?_⟩
 have j0:=Int.emod_nonneg (i / 6 / 7) (show (ys.length:Int) ≠ 0 by omega)
 have j1:=Int.emod_lt_of_pos (i / 6 / 7) (show 0 < (ys.length:Int) by omega)
 rw[Yg hp5 (j:=(i / 6 / 7 % (ys.length:Int)).toNat) (by omega) (by omega),zAm QF]
 intro t2 ht2
 have gA:Same H' _:=g1.trans gl
 have gB:=gA.upd (o:=HO.lst (ys.set (i / 6 / 7 % (ys.length:Int)).toNat (V.ref p2))) hp
 have gC:=gB.trans (QE (o:=HO.tup (ys.set (i / 6 / 7 % (ys.length:Int)).toNat (V.ref p2))) ht2)
 have tups:∀ b xs,upd (upd (upd (upd (upd H' p (HO.lst ys)) r (HO.lst (ys.drop 1))) t (HO.tup (ys.drop 1))) p1 (HO.tup [])) p2 (HO.tup [V.ref t,V.ref p1]) b=some (HO.tup xs)->_:=(YF (o:=HO.lst (ys.set (i / 6 / 7 % (ys.length:Int)).toNat (V.ref p2))) hp5).trans (QE (o:=HO.tup (ys.set (i / 6 / 7 % (ys.length:Int)).toNat (V.ref p2))) ht2).tups
 refine fin _ t2 _ (ks.set (i / 6 / 7 % (ys.length:Int)).toNat (.tup [.tup (ks.drop 1),.tup []])) gC QF (by rw[List.length_set];exact ml) ((hks.same gC.tups).set ?_ _) (Kd.deepL_le fun k hk=>?_) (fun k hk=>?_)
 ·refine Z7 (tups _ _ QF) (by show 2<=1000;decide) (IsKs.two ?_ ?_)
  ·refine Z7 (tups _ _ ((g4.trans g5) _ _ QF)) (by rw[List.length_drop];omega) ((hks.same gC.tups).drop 1)
  ·exact Z7 (tups _ _ (g5 _ _ QF)) (by decide) IsKs.nil
 ·rcases List.mem_or_eq_of_mem_set hk with y | y
  ·have:=d0 k y;omega
  ·subst y
   have z:Kd.deepL (ks.drop 1)<=0:=Kd.deepL_le fun k hk=>d0 k (List.mem_of_mem_drop hk)
   simp only[Kd.deep,Kd.deepL]
   omega
 ·rcases List.mem_or_eq_of_mem_set hk with y | y
  ·exact hok k y 2
  ·subst y
   refine zAP (by show 2<=6;decide) fun k hk=>?_
   rcases List.mem_cons.mp hk with y | y
   ·subst y
    exact zAP (by rw[List.length_drop];omega) fun k hk=>hok k (List.mem_of_mem_drop hk) 0
   ·rw[List.mem_singleton.mp y]
    exact zAP (by show 0<=6;decide) fun k hk=>by cases hk
end
section
variable {P:Program} {w:World} {K:W.Frag} {mg:Str->Option Value} {base:Heap} {a:Ad}
theorem Wo (T:Txt K mg a):FnOk P w K mg base CX0 1 a.f_is_number a.d_is_number Yb zFc:=by
 refine T.F_is_number.ok sc_is_number (fun vs H Q E h=>?_) (fun cdv A outer s H vs Q E hr h=>?_)
 ·obtain⟨B,v,t,rfl,_⟩:=h
  rfl
 have nd:=sc_is_number.nd
 obtain⟨B,v,t,rfl,ht,hs,q⟩:=h
 refine⟨_,(QG (QN (YJ (QL QU rfl T.z_isinstance boot_isinstance (QA (pv 0) (QA (QZ (v:=.ty "int") rfl T.z_int boot_int rfl) QC))) (Ye (zDx (QL QU rfl T.z_isinstance boot_isinstance (QA (pv 0) (QA (QZ (v:=.ty "bool") rfl T.z_bool boot_bool rfl) QC)))))))),?_⟩
 cases t with
 | num i=>unfold L2.IsT at ht;subst ht;walk_at "rd";exact q
 | txt i=>unfold L2.IsT at ht;obtain⟨rfl,_⟩:=ht;walk_at "rd";exact q
 | tup ts=>unfold L2.IsT at ht;obtain⟨b,ws,rfl,hb,_,_⟩:=ht;(iterate 4 ((try simp only[Yt hb]);(try walk_at "rd")));exact q
 | odd o =>
  unfold L2.IsT at ht
  cases o with
  | bl b=>cases (show v=.bl b from ht);walk_at "rd";exact q
  | non=>cases (show v=.non from ht);walk_at "rd";exact q
  | lst=>obtain⟨b,xs,rfl,hb⟩:=(show ∃ a xs,v=.ref a/\B a=some (.lst xs) from ht);(iterate 4 ((try simp only[Zs (hs _ _ hb)]);(try walk_at "rd")));exact q
  | dct=>obtain⟨b,xs,rfl,hb⟩:=(show ∃ a xs,v=.ref a/\B a=some (.dK xs) from ht);(iterate 4 ((try simp only[WU (hs _ _ hb)]);(try walk_at "rd")));exact q
theorem WF {n k:Nat} (T:Txt K mg a) (hn:1<=k) (G_is_number:FnOk P w K mg base CX0 1 a.f_is_number a.d_is_number Yb zFc) (G_are_parts:∀ m,n=m+1->FnOk P w K mg base CX0 k a.f_are_parts a.d_are_parts Zr (zKA m)):FnOk P w K mg base CX0 (k+1) a.f_is_part a.d_is_part Y8 (zCV n):=by
 refine T.F_is_part.ok sc_is_part (fun vs H Q E h=>?_) (fun cdv A outer s H vs Q E hr h=>?_)
 ·obtain⟨B,v,t,rfl,_⟩:=h
  rfl
 have nd:=sc_is_part.nd
 obtain⟨B,v,t,rfl,ht,hs,q⟩:=h
 have q0:=q H (Same.refl H)
 cases t with
 | num i =>
  refine⟨_,(QB (QT (QY (QM (G_is_number.mono hn) hr rfl T.m_is_number T.F_is_number.kp T.b_is_number .nil QP (QA (pv 0) QC))) (QG (QN (zDN zAq zAq (JR Zg (QK Zu QD QD)) (pv 0) (QK Zu QD QD)))) QO) QV),?_⟩
  have ht0:=ht
  unfold L2.IsT at ht;subst ht
  unfold Th.ok at q0
  walk_at "rd"
  refine⟨B,_,_,rfl,ht0,hs,?_⟩
  unfold Th.isNum
  walk_at "rd"
  refine Yc (fun c=>?_) (fun c=>?_)
  ·rw[decide_eq_true (by omega : -10 ^ 60 < i)] at q0;exact q0
  ·rw[decide_eq_false (by omega:¬ -10 ^ 60 < i)] at q0;exact q0
 | txt x =>
  refine⟨_,(QB (QT (QY (QM (G_is_number.mono hn) hr rfl T.m_is_number T.F_is_number.kp T.b_is_number .nil QP (QA (pv 0) QC))) QV QO) (QB (QT (QY (QL QU rfl T.z_isinstance boot_isinstance (QA (pv 0) (QA (QZ (v:=.ty "str") rfl T.z_str boot_str rfl) QC)))) (QG (QN (Qn zBN (QL QW rfl T.z_len PySem.boot_len (QA (pv 0) QC)) (Qq (v:=.int 60) rfl T.c_MOST_SIGNS ⟨_,rfl⟩) (QR _)))) QO) QV)),?_⟩
  have ht0:=ht
  unfold L2.IsT at ht;obtain⟨rfl,hx⟩:=ht
  unfold Th.ok at q0
  walk_at "rd"
  refine⟨B,_,_,rfl,ht0,hs,?_⟩
  unfold Th.isNum
  walk_at "rd"
  refine⟨Nat.le_of_lt (Qh hx),_,rfl,?_⟩
  have e:decide ((x.length:Int)<=60)=decide (x.length<=60):=decide_eq_decide.mpr (by omega)
  rw[e]
  exact q0
 | tup ts =>
  have ht0:=ht
  unfold L2.IsT at ht;obtain⟨b,ws,rfl,hb,hw,hts⟩:=ht
  unfold Th.ok at q
  cases n with
  | zero =>
   refine⟨_,(QB (QT (QY (QM (G_is_number.mono hn) hr rfl T.m_is_number T.F_is_number.kp T.b_is_number .nil QP (QA (pv 0) QC))) QV QO) (QB (QT (QY (QL QU rfl T.z_isinstance boot_isinstance (QA (pv 0) (QA (QZ (v:=.ty "str") rfl T.z_str boot_str rfl) QC)))) QV QO) (QB (QT (QY (QL QU rfl T.z_isinstance boot_isinstance (QA (pv 0) (QA (QZ (v:=.ty "tuple") rfl T.z_tuple boot_tuple rfl) QC)))) (QG (QN (YJ (Qn zDB (pv 1) QD (QR _)) (Ye zHy)))) QO) QV))),?_⟩
   (iterate 4 ((try simp only[Q6 hb,Qz hb]);(try walk_at "rd")))
   refine⟨B,_,_,rfl,ht0,hs,?_⟩
   unfold Th.isNum
   (iterate 4 ((try simp only[Q6 hb,Qz hb]);(try walk_at "rd")))
   exact q H (Same.refl H)
  | succ m =>
   have G_are_parts:=G_are_parts m rfl
   refine⟨_,(QB (QT (QY (QM (G_is_number.mono hn) hr rfl T.m_is_number T.F_is_number.kp T.b_is_number .nil QP (QA (pv 0) QC))) QV QO) (QB (QT (QY (QL QU rfl T.z_isinstance boot_isinstance (QA (pv 0) (QA (QZ (v:=.ty "str") rfl T.z_str boot_str rfl) QC)))) QV QO) (QB (QT (QY (QL QU rfl T.z_isinstance boot_isinstance (QA (pv 0) (QA (QZ (v:=.ty "tuple") rfl T.z_tuple boot_tuple rfl) QC)))) (QG (QN (YJ (Qn zDB (pv 1) QD (QR _)) (Ye (QM G_are_parts hr rfl T.m_are_parts T.F_are_parts.kp T.b_are_parts .nil QP (QA (pv 0) (QA (QK JI (pv 1) QD) QC))))))) QO) QV))),?_⟩
   (iterate 4 ((try simp only[Q6 hb,Qz hb]);(try walk_at "rd")))
   refine⟨B,_,_,rfl,ht0,hs,?_⟩
   unfold Th.isNum
   (iterate 4 ((try simp only[Q6 hb,Qz hb]);(try walk_at "rd")))
   rw[if_pos (by omega)]
   refine⟨B,b,ws,ts,by rw[show ((m+1:Nat):Int) - 1=(m:Int) by omega],hb,hw,hts,hs,fun H' g=>?_⟩
   have:=q H' g
   rw[decide_eq_true (by omega:0 < m+1),Bool.true_and] at this
   exact this
 | odd o =>
  refine⟨_,(QB (QT (QY (QM (G_is_number.mono hn) hr rfl T.m_is_number T.F_is_number.kp T.b_is_number .nil QP (QA (pv 0) QC))) QV QO) (QB (QT (QY (QL QU rfl T.z_isinstance boot_isinstance (QA (pv 0) (QA (QZ (v:=.ty "str") rfl T.z_str boot_str rfl) QC)))) QV QO) (QB (QT (QY (QL QU rfl T.z_isinstance boot_isinstance (QA (pv 0) (QA (QZ (v:=.ty "tuple") rfl T.z_tuple boot_tuple rfl) QC)))) QV QO) (QG (QN Wj))))),?_⟩
  have ht0:=ht
  unfold L2.IsT at ht
  unfold Th.ok at q0
  cases o with
  | bl b=>cases (show v=.bl b from ht);walk_at "rd";refine⟨B,_,_,rfl,ht0,hs,?_⟩;unfold Th.isNum;walk_at "rd";exact q0
  | non=>cases (show v=.non from ht);walk_at "rd";refine⟨B,_,_,rfl,ht0,hs,?_⟩;unfold Th.isNum;walk_at "rd";exact q0
  | lst=>obtain⟨b,xs,rfl,hb⟩:=(show ∃ a xs,v=.ref a/\B a=some (.lst xs) from ht);have hb:=hs _ _ hb;(iterate 4 ((try simp only[Zo hb,Yu hb]);(try walk_at "rd")));refine⟨B,_,_,rfl,ht0,hs,?_⟩;unfold Th.isNum;(iterate 4 ((try simp only[Zo hb,Yu hb]);(try walk_at "rd")));exact q0
  | dct=>obtain⟨b,xs,rfl,hb⟩:=(show ∃ a xs,v=.ref a/\B a=some (.dK xs) from ht);have hb:=hs _ _ hb;(iterate 4 ((try simp only[WZ hb,ZX hb]);(try walk_at "rd")));refine⟨B,_,_,rfl,ht0,hs,?_⟩;unfold Th.isNum;(iterate 4 ((try simp only[WZ hb,ZX hb]);(try walk_at "rd")));exact q0
theorem Ja {n k:Nat} (T:Txt K mg a) (G_is_part:FnOk P w K mg base CX0 k a.f_is_part a.d_is_part Y8 (zCV n)):FnOk P w K mg base CX0 (k+1) a.f_are_parts a.d_are_parts Zr (zKA n):=by
 refine T.F_are_parts.ok sc_are_parts (fun vs H Q E h=>?_) (fun cdv A outer s H vs Q E hr h=>?_)
 ·obtain⟨B,b,ws,ts,rfl,_⟩:=h
  rfl
 have nd:=sc_are_parts.nd
 obtain⟨B,b,ws,ts,rfl,hb,hw,hts,hs,q⟩:=h
 have hl:=hts.length
 refine⟨_,(QG (QN (YJ (Qn zBN (QL QW rfl T.z_len PySem.boot_len (QA (pv 0) QC)) (Qq (v:=.int 6) rfl T.c_MOST_PARTS ⟨_,rfl⟩) (QR _)) (Ye (QL (zAZ rfl) rfl T.z_all boot_all (QA (Jt "thing" ["levels"] [1] rfl ⟨rfl,rfl,by decide +kernel,by decide +kernel,rfl,by decide +kernel,by decide +kernel,rfl,by decide +kernel⟩ rfl (zD2 (pv 0)) (fun C s1 H1 fp=>(QM G_is_part hr rfl T.m_is_part T.F_is_part.kp T.b_is_part .nil QP (QA (pv 0) (QA (pv 1) QC))))) QC)))))),?_⟩
 (iterate 4 ((try simp only[zCt hb]);(try walk_at "rd")))
 refine Yc (fun c=>?_) (fun c=>?_)
 ·refine⟨⟨_,SqT.of hb⟩,?_⟩
  refine zF6 (xs:=ws) (fun i ys H'=>Same H H'/\i<=ts.length/\ys=(ts.take i).map fun t=>V.bl (t.ok n)) ⟨Same.refl H,Nat.zero_le _,rfl⟩ (fun i ys H' _ h=>SqT.of (h.1 _ _ hb)) (fun i ys H' hi h=>?_) (fun i x ys H' hi h=>?_) (fun ys H' h=>?_)
  ·obtain⟨_,_,rfl⟩:=h
   rw[List.length_map,List.length_take]
   exact Qh (by omega)
  ·obtain⟨g,hle,rfl⟩:=h
   obtain⟨t',e1,e2⟩:=hts.get hi
   walk_at "rd"
   refine⟨B,x,t',rfl,e2.same g.tups,hs.trans g,fun H2 g2=>⟨g.trans g2,?_,?_⟩⟩
   ·exact (List.getElem?_eq_some_iff.mp e1).1
   ·rw[YK e1,List.map_append];rfl
  ·obtain⟨g,_,rfl⟩:=h
   rw[hl,List.take_length]
   intro p hp
   have e:ts.map (fun t=>V.bl (t.ok n))=(ts.map fun t=>t.ok n).map V.bl:=by rw[List.map_map];rfl
   refine⟨p,ts.map fun t=>t.ok n,rfl,SqL.of (by rw[QF,e]),?_⟩
   have z:=q _ (g.trans (QE (o:=HO.lst (ts.map fun t=>V.bl (t.ok n))) hp))
   rw[zFm,decide_eq_true (by omega:ts.length<=6),Bool.true_and] at z
   exact z
 ·have z:=q H (Same.refl H)
  rw[decide_eq_false (by omega:¬ ts.length<=6),Bool.false_and] at z
  exact z
theorem Zt (T:Txt K mg a):∀ n:Nat,FnOk P w K mg base CX0 (2*n+2) a.f_is_part a.d_is_part Y8 (zCV n)
 | 0=>WF (n:=0) (k:=1) T (Nat.le_refl _) (Wo T) (fun m h=>by cases h)
 | n + 1 => WF (n := n + 1) (k := 2 * n + 3) T (by omega) (Wo T) (fun m h => by
   cases h
   exact Ja T (Zt T n))
theorem zGF (T:Txt K mg a)(G_is_part:FnOk P w K mg base CX0 8 a.f_is_part a.d_is_part Y8 (zCV 3)):FnOk P w K mg base CX0 9 a.f_is_key a.d_is_key J3 zJ2:=by
 refine T.F_is_key.ok sc_is_key (fun vs H Q E h=>?_) (fun cdv A outer s H vs Q E hr h=>?_)
 ·obtain⟨B,v,t,rfl,_⟩:=h
  rfl
 have nd:=sc_is_key.nd
 obtain⟨B,v,t,rfl,ht,hs,q⟩:=h
 refine⟨_,(QG (QN (QM G_is_part hr rfl T.m_is_part T.F_is_part.kp T.b_is_part .nil QP (QA (pv 0) (QA (Qq (v:=.int 3) rfl T.c_DEEPEST ⟨_,rfl⟩) QC))))),?_⟩
 walk_at "rd"
 exact⟨B,v,t,rfl,ht,hs,q⟩
end
section
variable {P:Program} {w:World} {K:W.Frag} {mg:Str->Option Value} {base:Heap} {a:Ad}
theorem zAz (T:Txt K mg a):FnOk P w K mg base CX0 1 a.f_is_number a.d_is_number Yb zKQ:=by
 refine T.F_is_number.ok sc_is_number (fun vs H Q E h=>?_) (fun cdv A outer s H vs Q E hr h=>?_)
 ·obtain⟨x,n,s,rfl,_⟩:=h
  rfl
 have nd:=sc_is_number.nd
 obtain⟨x,n,s,rfl,hx,q⟩:=h
 refine⟨_,(QG (QN (YJ (QL QU rfl T.z_isinstance boot_isinstance (QA (pv 0) (QA (QZ (v:=.ty "int") rfl T.z_int boot_int rfl) QC))) (Ye (zDx (QL QU rfl T.z_isinstance boot_isinstance (QA (pv 0) (QA (QZ (v:=.ty "bool") rfl T.z_bool boot_bool rfl) QC)))))))),?_⟩
 rcases hx with ⟨i,rfl,rfl,rfl⟩ | ⟨hx,rfl,rfl⟩
 ·walk_at "rd"
  exact q
 rcases hx with ⟨b,rfl⟩ | rfl | ⟨z,rfl⟩ | ⟨p,xs,rfl,hp⟩ | ⟨p,xs,rfl,hp⟩ | ⟨p,xs,rfl,hp⟩
 ·walk_at "rd"
  exact q
 ·walk_at "rd"
  exact q
 ·walk_at "rd"
  exact q
 ·walk_at "rd"
  rw[Yt hp]
  exact⟨_,rfl,zI9 q⟩
 ·walk_at "rd"
  rw[Zs hp]
  exact⟨_,rfl,zI9 q⟩
 ·walk_at "rd"
  rw[WU hp]
  exact⟨_,rfl,zI9 q⟩
theorem zDp (T:Txt K mg a)(G_is_number:FnOk P w K mg base CX0 1 a.f_is_number a.d_is_number Yb zKQ):FnOk P w K mg base CX0 2 a.f_is_size a.d_is_size Z0 zLL:=by
 refine T.F_is_size.ok sc_is_size (fun vs H Q E h=>?_) (fun cdv A outer s H vs Q E hr h=>?_)
 ·obtain⟨x,n,s,rfl,_⟩:=h
  rfl
 have nd:=sc_is_size.nd
 obtain⟨x,n,s,rfl,hx,q⟩:=h
 refine⟨_,(QG (QN (YJ (QM (G_is_number.mono (by decide)) hr rfl T.m_is_number T.F_is_number.kp T.b_is_number .nil QP (QA (pv 0) QC)) (YJ (zDN zBN zBN (Qq (v:=.int 8) rfl T.c_LEAST ⟨_,rfl⟩) (pv 0) (Qq (v:=.int 4096) rfl T.c_GREATEST ⟨_,rfl⟩)) (Ye (Qn YS (QK zLE (pv 0) (QK JI (pv 0) QD)) QD (QR _))))))),?_⟩
 walk_at "rd"
 refine⟨x,n,s,rfl,hx,?_⟩
 rcases hx with ⟨i,rfl,rfl,rfl⟩ | ⟨hx,rfl,rfl⟩
 ·walk_at "rd"
  refine Yc (fun c=>?_) (fun c=>?_)
  ·refine Yc (fun c2=>?_) (fun c2=>?_)
   ·rw[zLf c c2]
    exact q
   ·have e:decide (S8 i)=false:=decide_eq_false (by unfold S8;omega)
    rw[e] at q
    exact q
  ·have e:decide (S8 i)=false:=decide_eq_false (by unfold S8;omega)
   rw[e] at q
   exact q
 ·walk_at "rd"
  exact q
theorem zB6 (T:Txt K mg a):FnOk P w K mg base CX0 1 a.f_room a.d_room zAd zCT:=by
 refine T.F_room.ok sc_room (fun vs H Q E h=>?_) (fun cdv A outer s H vs Q E hr h=>?_)
 ·obtain⟨i,rfl,_⟩:=h
  rfl
 have nd:=sc_room.nd
 obtain⟨i,rfl,q⟩:=h
 refine⟨_,(QG (QN (QK Qk (QK Q1 QD (pv 0)) QD))),?_⟩
 walk_at "rd"
 exact⟨.inl ⟨by decide,by decide⟩,q⟩
theorem zAX (T:Txt K mg a)(G_stamp:FnOk P w K mg base CX0 8 a.f_stamp a.d_stamp Z6 (zBB 3))(G_probe:FnOk P w K mg base CX0 2 a.f_probe a.d_probe Jh zBm):FnOk P w K mg base CX0 9 a.f_first_empty a.d_first_empty Y4 zL5:=by
 refine T.F_first_empty.ok sc_first_empty (fun vs H Q E h=>?_) (fun cdv A outer s H vs Q E hr h=>?_)
 ·obtain⟨p,cs,v,k,c,rfl,_⟩:=h
  rfl
 have nd:=sc_first_empty.nd
 obtain⟨p,cs,v,k,c,rfl,hp,l0,l1,hk,hd,hc,q⟩:=h
 refine⟨_,(QB (QQ (i:=2) nd rfl (Or.inl rfl) (QM (G_stamp.mono (by decide)) hr rfl T.m_stamp T.F_stamp.kp T.b_stamp .nil QP (QA (pv 1) QC)))
 (QG (YT PassesOwn.never rfl (Y7 rfl T.z_range (QA (QL QW rfl T.z_len PySem.boot_len (QA (pv 0) QC)) QC)) (Qt (i:=3) nd rfl (Or.inl rfl)) (QB (QQ (i:=4) nd rfl (Or.inl rfl) (QM (G_probe.mono (by decide)) hr rfl T.m_probe T.F_probe.kp T.b_probe .nil QP (QA (pv 2) (QA (QL QW rfl T.z_len PySem.boot_len (QA (pv 0) QC)) (QA (pv 3) QC)))))
 (QG (QT (QS YS (Qg YL (pv 0) (pv 4) (fun _ _=>rfl)) (Qq (v:=.int (-1)) rfl T.c_EMPTY ⟨_,rfl⟩) (QR _)) (QG (QN (pv 4))) QO)))))),?_⟩
 have rg:=Kd.st_range k
 obtain⟨c1,c2,c3⟩:=hc
 walk_at "rd"
 refine⟨v,k,rfl,hk,hd,?_⟩
 show zAa [V.ref p] _ _
 rw[Qe hp,List.length_map]
 refine⟨_,rfl,by omega,by omega,?_⟩
 rw[Int.toNat_natCast]
 refine ZO (fun i σ H'=>H'=H/\i<=c/\∃ u w,σ=[some (.ref p),some v,some (.int k.st),u,w]) ⟨rfl,Nat.zero_le _,_,_,rfl⟩ (fun i σ H' hi h=>?_) (fun σ H' h=>?_)
 ·obtain⟨rfl,hic,u,w,rfl⟩:=h
  walk_at "rd"
  rw[Qe hp,List.length_map]
  refine⟨_,_,_,rfl,rg.1,by omega,by omega,by omega,?_⟩
  walk_at "rd"
  rw[Int.zero_add,Int.toNat_natCast,← Zw l0]
  rw[Q4 hp (v:=V.int (cAt cs k.st i)) (YM (by rw[List.getElem?_map,YZ l0];rfl))]
  rw[Jg]
  refine⟨_,rfl,Yc (fun z=>?_) (fun z=>?_)⟩
  ·have z:=of_decide_eq_true z
   have e:i=c:=by
    rcases Nat.lt_or_ge i c with y | y
    ·exact absurd z (c3 i y)
    ·omega
   rw[e]
   exact q
  ·have z:=of_decide_eq_false (Bool.eq_false_iff.mpr z)
   refine⟨rfl,?_⟩
   rcases Nat.lt_or_ge i c with y | y
   ·omega
   ·have e:i=c:=by omega
    rw[e] at z
    exact absurd c2 z
 ·obtain⟨rfl,hic,u,w,rfl⟩:=h
  omega
theorem zFw (T:Txt K mg a):FnOk P w K mg base CX0 1 a.f_is_end a.d_is_end zAo zJ9:=by
 refine T.F_is_end.ok sc_is_end (fun vs H Q E h=>?_) (fun cdv A outer s H vs Q E hr h=>?_)
 ·obtain⟨v,r,xs,os,x,k,rfl,_⟩:=h
  rfl
 have nd:=sc_is_end.nd
 obtain⟨v,r,xs,os,x,k,rfl,hr1,hos,hk,hv,q⟩:=h
 refine⟨_,(QG (QN (zL3 (Qn YS (pv 0) (Qq (v:=.int (-1)) rfl T.c_EMPTY ⟨_,rfl⟩) (QR _)) (Ye (YJ (Qn zKN (pv 0) QD (QR _)) (Ye (Qn (zKY hr.units) (Qg YL (pv 1) (pv 0) (fun _ _=>rfl)) (pv 2) (QR _)))))))),?_⟩
 walk_at "rd"
 refine Yc (fun z=>?_) (fun z=>Yc (fun z2=>?_) (fun z2=>?_))
 ·rw[decide_eq_true (show Qx os k v from .inl z)] at q
  exact q
 ·obtain⟨k',e1,e2⟩:=hv z2
  obtain⟨y,e3,e4⟩:=hos.get' e1
  have at':atI xs v=some y:=by
   have:=YM e3
   rwa [Int.toNat_of_nonneg z2] at this
  rw[Q4 hr1 at']
  refine⟨k',k,e4,hk,e2,?_⟩
  have e:k'.eqb k=decide (Qx os k v):=by
   rw[Kd.eqb_dec]
   refine decide_eq_decide.mpr ⟨fun e=>.inr ⟨z2,by rw[e1,e]⟩,fun h=>?_⟩
   rcases h with h | ⟨_,h⟩
   ·exact absurd h z
   ·rw[e1] at h
    exact Option.some.inj (Option.some.inj h)
  rw[e]
  exact q
 ·have e:¬ Qx os k v:=fun h=>by
   rcases h with h | ⟨h,_⟩
   ·exact z h
   ·exact z2 h
  rw[decide_eq_false e] at q
  exact q
theorem zHZ (T:Txt K mg a)(G_stamp:FnOk P w K mg base CX0 8 a.f_stamp a.d_stamp Z6 (zBB 3))(G_probe:FnOk P w K mg base CX0 2 a.f_probe a.d_probe Jh zBm)(G_is_end:FnOk P w K mg base CX0 1 a.f_is_end a.d_is_end zAo zJ9):FnOk P w K mg base CX0 9 a.f_paper a.d_paper Jy zCa:=by
 refine T.F_paper.ok sc_paper (fun vs H Q E h=>?_) (fun cdv A outer s H vs Q E hr h=>?_)
 ·obtain⟨p,r,cs,xs,os,x,k,c,rfl,_⟩:=h
  rfl
 have nd:=sc_paper.nd
 obtain⟨p,r,cs,xs,os,x,k,c,rfl,hp,hrw,hos,hk,hd,l0,l1,hg,hc,q⟩:=h
 refine⟨_,(QB (QQ (i:=3) nd rfl (Or.inl rfl) (QM (G_stamp.mono (by decide)) hr rfl T.m_stamp T.F_stamp.kp T.b_stamp .nil QP (QA (pv 2) QC)))
 (QB (QQ (i:=4) nd rfl (Or.inl rfl) (ZU QC))
 (QB (YT PassesOwn.never rfl (Y7 rfl T.z_range (QA (QL QW rfl T.z_len PySem.boot_len (QA (pv 0) QC)) QC)) (Qt (i:=5) nd rfl (Or.inl rfl)) (QB (QQ (i:=6) nd rfl (Or.inl rfl) (QM (G_probe.mono (by decide)) hr rfl T.m_probe T.F_probe.kp T.b_probe .nil QP (QA (pv 3) (QA (QL QW rfl T.z_len PySem.boot_len (QA (pv 0) QC)) (QA (pv 5) QC)))))
 (QB (Qm (Ws PySem.F.plainAttrs_list PySem.F.slot_list_append PySem.F.type_list_append ZH (pv 4) (QA (ZW (QA (pv 6) (QA (Qg YL (pv 0) (pv 6) (fun _ _=>rfl)) QC))) QC)))
 (QG (QT (QY (QM (G_is_end.mono (by decide)) hr rfl T.m_is_end T.F_is_end.kp T.b_is_end .nil QP (QA (Qg YL (pv 0) (pv 6) (fun _ _=>rfl)) (QA (pv 1) (QA (pv 2) QC))))) (QG zHH) QO)))))
 (QG (QN (pv 4)))))),?_⟩
 have rg:=Kd.st_range k
 obtain⟨c1,c2,c3⟩:=hc
 walk_at "rd"
 refine⟨x,k,rfl,hk,hd,?_⟩
 refine⟨by decide,fun b hb=>?_⟩
 have g1:=QE (o:=HO.lst []) hb
 show zAa [V.ref p] _ _
 rw[Qe (g1 _ _ hp),List.length_map]
 refine⟨_,rfl,by omega,by omega,?_⟩
 rw[Int.toNat_natCast]
 refine ZO (fun i σ H'=>i<=c/\Same H H'/\(∃ ys,H' b=some (.lst ys)/\IsKos H' ((List.range i).map fun i=>some (.tup [.num (sl k.st cs.length i:Nat),.num (cAt cs k.st i)])) ys)/\∃ u w,σ=[some (.ref p),some (.ref r),some x,some (.int k.st),some (.ref b),u,w]) ⟨Nat.zero_le _,g1,⟨[],QF,IsKos.nil⟩,none,none,rfl⟩ (fun i σ H' hi h=>?_) (fun σ H' h=>?_)
 ·obtain⟨hic,g,⟨ys,hy,hoy⟩,u,w,rfl⟩:=h
  walk_at "rd"
  rw[Qe (g _ _ hp),List.length_map]
  refine⟨_,_,_,rfl,rg.1,by omega,by omega,by omega,?_⟩
  rw[Int.zero_add,Int.toNat_natCast,← Zw l0]
  have at':atI (cs.map V.int) ((sl k.st cs.length i:Nat):Int)=some (V.int (cAt cs k.st i)):=YM (by rw[List.getElem?_map,YZ l0];rfl)
  refine⟨.inl ⟨rfl,_,SqL.of hy⟩,?_⟩
  rw[Q4 (g _ _ hp) at']
  refine⟨by decide,fun t ht=>?_⟩
  have gt:=QE (o:=HO.tup [V.int (sl k.st cs.length i:Nat),V.int (cAt cs k.st i)]) ht
  rw[Ym (gt _ _ hy)]
  have hyl:=hoy.len
  rw[List.length_map,List.length_range] at hyl
  refine⟨by rw[hyl];exact Q0 (by omega),?_⟩
  have tb:=YF (o:=HO.lst (ys++[V.ref t])) (gt _ _ hy)
  have g2:=(g.trans gt).upd (o:=HO.lst (ys++[V.ref t])) hb
  rw[Q4 (g2 _ _ hp) at']
  have hoy2:IsKos (upd (upd H' t (HO.tup [V.int (sl k.st cs.length i:Nat),V.int (cAt cs k.st i)])) b (HO.lst (ys++[V.ref t]))) ((List.range (i+1)).map fun i=>some (.tup [.num (sl k.st cs.length i:Nat),.num (cAt cs k.st i)])) (ys++[V.ref t]):=by
   rw[List.range_succ,List.map_append]
   refine (hoy.same (gt.tups.trans tb)).snoc ?_
   exact Z7 (tb _ _ QF) (by show 2<=1000;decide) (IsKs.two Z4 Z4)
  refine⟨_,r,xs,os,x,k,rfl,g2 _ _ hrw,hos.same g2.tups,hk.same g2.tups,fun h=>hg _ (zJA l0) h,_,rfl,?_⟩
  by_cases z:Qx os k (cAt cs k.st i)
  ·have e:i=c:=by
    rcases Nat.lt_or_ge i c with y | y
    ·exact absurd z (c3 i y)
    ·omega
   rw[if_pos (decide_eq_true z)]
   show zIs (zAr 4) _ _ _
   walk_at "rd"
   rw[e] at hoy2
   rw[e]
   exact q b _ _ (e ▸ g2) hb QF hoy2
  ·rw[if_neg (by simp[z])]
   refine⟨?_,g2,_,QF,hoy2⟩
   rcases Nat.lt_or_ge i c with y | y
   ·omega
   ·have e:i=c:=by omega
    rw[e] at z
    exact absurd c2 z
 ·obtain⟨hic,g,⟨ys,hy,hoy⟩,u,w,rfl⟩:=h
  omega
theorem zCs (T:Txt K mg a)(G_paper:FnOk P w K mg base CX0 9 a.f_paper a.d_paper Jy zCa):FnOk P w K mg base CX0 10 a.f_place_of a.d_place_of ZC zCZ:=by
 refine T.F_place_of.ok sc_place_of (fun vs H Q E h=>?_) (fun cdv A outer s H vs Q E hr h=>?_)
 ·obtain⟨p,r,cs,xs,os,x,k,c,rfl,_⟩:=h
  rfl
 have nd:=sc_place_of.nd
 obtain⟨p,r,cs,xs,os,x,k,c,rfl,hp,hrw,hos,hk,hd,l0,l1,hg,hc,q⟩:=h
 refine⟨_,(QB (QQ (i:=3) nd rfl (Or.inl rfl) (QM (G_paper.mono (by decide)) hr rfl T.m_paper_slots T.F_paper.kp T.b_paper .nil QP (QA (pv 0) (QA (pv 1) (QA (pv 2) QC)))))
 (QB (QQ (i:=4) nd rfl (Or.inl rfl) (Qg YL (Qg YL (pv 3) (JR Zg QD) (fun _ _=>rfl)) QD (fun _ _=>rfl)))
 (QG (QN (zDD (QS YS (pv 4) (Qq (v:=.int (-1)) rfl T.c_EMPTY ⟨_,rfl⟩) (QR _)) Q8 (pv 4)))))),?_⟩
 walk_at "rd"
 refine⟨p,r,cs,xs,os,x,k,c,rfl,hp,hrw,hos,hk,hd,l0,l1,hg,hc,fun f ys H' g hf0 hf hoy=>?_⟩
 have hyl:ys.length=c+1:=by rw[hoy.len,zBs]
 obtain⟨y,ey⟩:∃ y,ys[c]? = some y:=⟨ys[c],List.getElem?_eq_getElem (by omega)⟩
 obtain⟨t,rfl,ht⟩:=zG1 hoy ey
 have qq:=q H' g
 show ixC (V.ref f) (V.int (-1)) _ _
 rw[Q4 hf ((J1 hyl).trans ey),Q2 (v:=V.int (cAt cs k.st c)) ht rfl,Jg]
 refine⟨_,rfl,?_⟩
 by_cases z:cAt cs k.st c = -1
 ·rw[if_pos (decide_eq_true z)]
  rw[if_pos z] at qq
  exact qq
 ·rw[if_neg (by simp[z])]
  rw[if_neg z] at qq
  exact qq
theorem zDL (T:Txt K mg a)(G_is_size:FnOk P w K mg base CX0 2 a.f_is_size a.d_is_size Z0 zLL)(G_room:FnOk P w K mg base CX0 1 a.f_room a.d_room zAd zCT)(G_first_empty:FnOk P w K mg base CX0 9 a.f_first_empty a.d_first_empty Y4 zL5):FnOk P w K mg base CX0 10 a.f_cells_of a.d_cells_of WN zEv:=by
 refine T.F_cells_of.ok sc_cells_of (fun vs H Q E h=>?_) (fun cdv A outer s H vs Q E hr h=>?_)
 ·obtain⟨r,xs,os,s,rfl,_⟩:=h
  rfl
 have nd:=sc_cells_of.nd
 obtain⟨r,xs,os,s,rfl,hrw,hos,osh,h8,hl,q⟩:=h
 refine⟨_,(QB (QT (W6 (QY (QM (G_is_size.mono (by decide)) hr rfl T.m_is_size T.F_is_size.kp T.b_is_size .nil QP (QA (pv 1) QC)))) (QG Wf) QO)
 (QB (QT (QS zDB (QL QW rfl T.z_len PySem.boot_len (QA (pv 0) QC)) (QM (G_room.mono (by decide)) hr rfl T.m_room T.F_room.kp T.b_room .nil QP (QA (pv 1) QC)) (QR _)) (QG Wf) QO)
 (QB (QQ (i:=2) nd rfl (Or.inl rfl) (QK zHV (ZU (QA (Qq (v:=.int (-1)) rfl T.c_EMPTY ⟨_,rfl⟩) QC)) (pv 1)))
 (QB (YT PassesOwn.never rfl (zFR rfl rfl T.z_enumerate (pv 0)) (zHv rfl (W5 (Qt (i:=3) nd rfl (Or.inl rfl)) (W5 (Qt (i:=4) nd rfl (Or.inl rfl)) zEx))) (QG (QT (QS Wd (pv 4) Q8 (QR _)) (QG (ZK (pv 3) (ZR (pv 2) (QM (G_first_empty.mono (by decide)) hr rfl T.m_first_empty T.F_first_empty.kp T.b_first_empty .nil QP (QA (pv 2) (QA (pv 4) QC))) Wp))) QO)))
 (QG (QN (pv 2))))))),?_⟩
 have r8:=h8.range
 have xl:=hos.len
 walk_at "rd"
 refine⟨.int s,true,true,rfl,.inl ⟨s,rfl,rfl,(decide_eq_true h8).symm⟩,true,rfl,?_⟩
 rw[if_neg (by decide),Qe hrw,xl]
 refine⟨s,rfl,_,rfl,_,rfl,?_⟩
 rw[if_neg (by omega)]
 refine⟨by decide,fun p hp=>⟨p,s,_,rfl,rfl,QF,by omega,by omega,?_,fun c hc=>?_⟩⟩
 ·show 1*s.toNat<=sizeLine
  rw[Nat.one_mul]
  exact Nat.le_of_lt (Q0 (by omega))
 have erep:(List.replicate s.toNat [V.int (-1)]).flatten=(List.replicate s.toNat (-1:Int)).map V.int:=by
  rw[List.map_replicate]
  generalize s.toNat=z
  induction z with
  | zero=>rfl
  | succ z ih=>rw[List.replicate_succ,List.flatten_cons,ih,List.replicate_succ];rfl
 rw[erep]
 have g1:=QE (o:=HO.lst [V.int (-1)]) hp
 have g2:=QE (o:=HO.lst ((List.replicate s.toNat (-1:Int)).map V.int)) hc
 have hc0:H c=none:=g1.free hc
 have G2:=g1.trans g2
 have sn:((s.toNat:Nat):Int)=s:=by omega
 have p2:IsP2 ((s.toNat:Nat):Int):=by rw[sn];exact h8.p2
 refine⟨⟨_,SqL.of (G2 _ _ hrw)⟩,zGV (xs:=xs) (fun i σ H'=>Same H H'/\(∃ cs:List Int,H' c=some (HO.lst (cs.map V.int))/\LB (stO os) s.toNat i cs)/\∃ u v,σ=[some (.ref r),some (.int s),some (.ref c),u,v]) ⟨G2,⟨_,QF,.zero⟩,none,none,rfl⟩ (fun _ _ _ _ h=>SqL.of (h.1 _ _ hrw)) (fun i x t σ H' e h ht=>?_) (fun σ H' h=>?_)⟩
 ·obtain⟨G,⟨cs,hcs,lb⟩,u,v,rfl⟩:=h
  obtain⟨o,e1,e2⟩:=hos.get e
  have il:i < os.length:=(List.getElem?_eq_some_iff.mp e1).1
  have gt:=QE (o:=HO.tup [V.int (i:Nat),x]) ht
  have G3:=G.trans gt
  have L:=lb.laid (by omega)
  have cl:=L.len
  walk_at "rd"
  refine⟨_,SqT.of QF,rfl,_,_,rfl,_,_,rfl,rfl,?_⟩
  have hnon:=e2.non
  cases o with
  | none =>
   rw[if_neg (fun z=>z (of_decide_eq_true hnon))]
   exact⟨G3,cs,gt _ _ hcs,lb.skip (by unfold stO;rw[e1])⟩
  | some k =>
   rw[if_pos (of_decide_eq_false hnon)]
   obtain⟨c',hc'⟩:=lb.room (by omega) p2 k.st
   refine⟨c,cs,x,k,c',rfl,gt _ _ hcs,by omega,by omega,IsK.same G3.tups e2,osh _ (List.mem_of_getElem? e1),by rw[cl];exact hc',?_⟩
   show zHE (V.ref c) _ _ _ _
   rw[Yg (gt _ _ hcs) rfl (by rw[List.length_map];exact JW (by omega)),← List.map_set,cl]
   exact⟨G3.upd hc0,_,QF,lb.put (by unfold stO;rw[e1]) hc'⟩
 ·obtain⟨G,⟨cs,hcs,lb⟩,u,v,rfl⟩:=h
  walk_at "rd"
  rw[xl] at lb
  exact q c cs _ G hc0 hcs lb
end
section
variable {P:Program} {w:World} {K:W.Frag} {mg:Str->Option Value} {base:Heap} {a:Ad}
theorem zEU (T:Txt K mg a)(G_is_key:FnOk P w K mg base CX0 9 a.f_is_key a.d_is_key J3 zJ2):FnOk P w K mg base CX0 10 a.f_checked a.d_checked Y9 zFP:=by
 refine T.F_checked.ok sc_checked (fun vs H Q E h=>?_) (fun cdv A outer s H vs Q E hr h=>?_)
 ·obtain⟨x,k,rfl,_⟩:=h
  rfl
 have nd:=sc_checked.nd
 obtain⟨x,k,rfl,hk,hok,q⟩:=h
 refine⟨_,(QB (QT (W6 (QY (QM (G_is_key.mono (by decide)) hr rfl T.m_is_key T.F_is_key.kp T.b_is_key .nil QP (QA (pv 0) QC)))) (QG Wf) QO)
 (QG (QN (pv 0)))),?_⟩
 try walk_at "rd"
 refine⟨Emp,x,k.th,rfl,hk.th hok,zHs,fun H' g=>?_⟩
 rw[hok]
 try walk_at "rd"
 exact q H' g
theorem zGR (T:Txt K mg a)(G_place_of:FnOk P w K mg base CX0 10 a.f_place_of a.d_place_of ZC zCZ):FnOk P w K mg base CX0 11 a.f_Hplace a.d_Hplace Zf (zI0 a.a_Shelf):=by
 refine T.F_Hplace.ok sc_Hplace (fun vs H Q E h=>?_) (fun cdv A outer s H vs Q E hr h=>?_)
 ·obtain⟨p,S,x,k,rfl,_⟩:=h
  rfl
 have nd:=sc_Hplace.nd
 obtain⟨p,S,x,k,rfl,A,hk,hd,q⟩:=h
 refine⟨_,(QG (QN (QM (G_place_of.mono (by decide)) hr rfl T.m_place_of T.F_place_of.kp T.b_place_of .nil QP (QA (Qd (pv 0) rfl) (QA (Qd (pv 0) rfl) (QA (pv 1) QC)))))),?_⟩
 try walk_at "rd"
 rw[Ju T A,zBX T A]
 obtain⟨xs,h1,h2⟩:=A.hr
 have hl:=A.fm.len
 have hs:=A.small
 rcases zKU S.os k with ⟨i,hi⟩ | hn
 ·obtain⟨c,hc,e⟩:=A.fm.there hi
  refine⟨S.pc,S.pr,S.cs,xs,S.os,x,k,c,rfl,A.hc,h1,h2,hk,hd,by omega,by omega,zCE A,by rw[hl];exact hc,fun H' g=>?_⟩
  rw[e,if_neg (by omega)]
  exact q.1 i hi H' g
 ·obtain⟨c,hc,e⟩:=A.fm.lacks hn
  refine⟨S.pc,S.pr,S.cs,xs,S.os,x,k,c,rfl,A.hc,h1,h2,hk,hd,by omega,by omega,zCE A,by rw[hl];exact hc,fun H' g=>?_⟩
  rw[e,if_pos rfl]
  exact q.2 hn H' g
theorem JZ (T:Txt K mg a):FnOk P w K mg base CX0 1 a.f_Hentries a.d_Hentries ZJ (JL a.a_Shelf):=by
 refine T.F_Hentries.ok sc_Hentries (fun vs H Q E h=>?_) (fun cdv A outer s H vs Q E hr h=>?_)
 ·obtain⟨p,S,xs,rfl,_⟩:=h
  rfl
 have nd:=sc_Hentries.nd
 obtain⟨p,S,xs,rfl,A,hx,q⟩:=h
 refine⟨_,(QG (QN (zHu "entry" [] [] rfl ⟨rfl,rfl,by decide +kernel,by decide +kernel,rfl,by decide +kernel,by decide +kernel,rfl,by decide +kernel⟩ rfl (zJC false false false rfl T.z_zip (QA (Qd (pv 0) rfl) (QA (Qd (pv 0) rfl) (QA (Qd (pv 0) rfl) QC)))) (fun C s1 H1 fp=>(QS Wd (Qg YL (pv 0) QD (fun _ _=>rfl)) Q8 (QR _))) (fun C s1 H1 fp=>(pv 0))))),?_⟩
 obtain⟨xs',h1,h2⟩:=A.hr
 rw[hx] at h1
 cases h1
 have hxl:=h2.len
 have l1:=A.l1
 have l2:=A.l2
 have hsm:=A.small
 try walk_at "rd"
 rw[zGP T A,zBX T A,zEK T A]
 refine⟨S.pm,rfl,S.pr,rfl,S.ph,rfl,⟨_,SqL.of A.hm⟩,⟨_,SqL.of hx⟩,⟨_,SqL.of A.hh⟩,?_⟩
 refine zEk (xs:=S.ms.map V.int) (ys:=xs) (zs:=S.hs) (by rw[List.length_map];omega) (by rw[List.length_map];omega) (Nat.le_of_lt (Q0 (by rw[List.length_map];omega)))
  (fun i vs H'=>Same H H'/\vs.length<=i/\Paired (EntR H') vs (((S.ms.zip (xs.zip S.hs)).take i).filter fun e=>NN e.2.1)) ⟨Same.refl H,Nat.zero_le _,.nil⟩
  (fun i vs H' hi h=>⟨SqL.of (h.1 _ _ A.hm),SqL.of (h.1 _ _ hx),SqL.of (h.1 _ _ A.hh),h.2.1⟩) (fun i x y z t vs H' ex ey ez h ht=>?_) (fun vs H' h=>?_)
 ·obtain⟨g,hl,pr⟩:=h
  rw[List.getElem?_map] at ex
  cases em:S.ms[i]? with
  | none=>rw[em] at ex;cases ex
  | some m =>
   rw[em] at ex
   cases ex
   have gt:=QE (o:=HO.tup [V.int m,y,z]) ht
   have ez':(S.ms.zip (xs.zip S.hs))[i]? = some (m,y,z):=by
    rw[List.getElem?_zip_eq_some]
    exact⟨em,by rw[List.getElem?_zip_eq_some];exact⟨ey,ez⟩⟩
   have pr':=YV pr fun a _ b h=>EntR.same gt h
   have hu:=QF (H:=H') (a:=t) (o:=HO.tup [V.int m,y,z])
   have G:=g.trans gt
   generalize upd H' t (HO.tup [V.int m,y,z])=H2 at gt pr' hu G ⊢
   try walk_at "rd"
   rw[Q2 (v:=y) hu rfl,YK ez',List.filter_append]
   by_cases c:y=V.non
   ·have hN:NN y=false:=by unfold NN;simp[c]
    rw[if_neg (fun h=>h c)]
    refine⟨G,by omega,?_⟩
    have e1:[(m,y,z)].filter (fun e:Int × V × V=>NN e.2.1)=[]:=by simp[List.filter,hN]
    rw[e1,List.append_nil]
    exact pr'
   ·have hN:NN y=true:=by unfold NN;simp[c]
    rw[if_pos c]
    refine⟨G,by rw[List.length_append,List.length_singleton];omega,?_⟩
    have e1:[(m,y,z)].filter (fun e:Int × V × V=>NN e.2.1)=[(m,y,z)]:=by simp[List.filter,hN]
    rw[e1]
    exact Ys pr' ⟨t,rfl,hu⟩
 ·obtain⟨g,hl,pr⟩:=h
  intro l hl'
  have gl:=QE (o:=HO.lst vs) hl'
  refine q l vs _ (g.trans gl) (g.free hl') QF ?_
  have pr':=YV pr fun a _ b h=>EntR.same gl h
  rw[List.take_of_length_le (by rw[List.length_zip,List.length_map];omega)] at pr'
  exact pr'
theorem zGA (T:Txt K mg a)(G_paper:FnOk P w K mg base CX0 9 a.f_paper a.d_paper Jy zCa):FnOk P w K mg base CX0 10 a.f_Hwrite a.d_Hwrite Wx (zCk a.a_Shelf):=by
 refine T.F_Hwrite.ok sc_Hwrite (fun vs H Q E h=>?_) (fun cdv A outer s H vs Q E hr h=>?_)
 ·obtain⟨p,S,x,k,v,c,rfl,_⟩:=h
  rfl
 have nd:=sc_Hwrite.nd
 obtain⟨p,S,x,k,v,c,rfl,A,hk,hd,hc,q⟩:=h
 refine⟨_,(QB (QQ (i:=3) nd rfl (Or.inl rfl) (QM (G_paper.mono (by decide)) hr rfl T.m_paper_slots T.F_paper.kp T.b_paper .nil QP (QA (Qd (pv 0) rfl) (QA (Qd (pv 0) rfl) (QA (pv 1) QC)))))
 (QG (ZK (pv 2) (ZR (Qd (pv 0) rfl) (Qg YL (Qg YL (pv 3) (JR Zg QD) (fun _ _=>rfl)) QD (fun _ _=>rfl)) Wp)))),?_⟩
 obtain⟨xs,h1,h2⟩:=A.hr
 have hl:=A.fm.len
 have hsm:=A.small
 try walk_at "rd"
 rw[Ju T A,zBX T A]
 refine⟨S.pc,S.pr,S.cs,xs,S.os,x,k,c,rfl,A.hc,h1,h2,hk,hd,by omega,by omega,zCE A,by rw[hl];exact hc,fun f ys H' g hf0 hf hoy=>?_⟩
 have A':=A.same g
 have hyl:ys.length=c+1:=by rw[hoy.len,zBs]
 obtain⟨y,ey⟩:∃ y,ys[c]? = some y:=⟨ys[c],List.getElem?_eq_getElem (by omega)⟩
 obtain⟨t,rfl,ht⟩:=zG1 hoy ey
 try walk_at "rd"
 rw[Ju T A']
 show ixC (V.ref f) (V.int (-1)) _ _
 rw[Q4 hf ((J1 hyl).trans ey),Q2 (v:=V.int (sl k.st S.cs.length c:Nat)) ht rfl,Yg A'.hc rfl (by rw[List.length_map];exact JW (by omega)),← List.map_set,hl]
 exact q H' g
theorem zDe (T:Txt K mg a)(G_cells_of:FnOk P w K mg base CX0 10 a.f_cells_of a.d_cells_of WN zEv):FnOk P w K mg base CX0 11 a.f_Hlay_out a.d_Hlay_out WT (zJ5 a.a_Shelf):=by
 refine T.F_Hlay_out.ok sc_Hlay_out (fun vs H Q E h=>?_) (fun cdv A outer s H vs Q E hr h=>?_)
 ·obtain⟨p,dx,fs,n,pr,ph,pm,xs,os,rfl,_⟩:=h
  rfl
 have nd:=sc_Hlay_out.nd
 obtain⟨p,dx,fs,n,pr,ph,pm,xs,os,rfl,hp,hf,h1,h2,osh,h8,hl,q⟩:=h
 refine⟨_,(QB (Yh (pv 0) (QM (G_cells_of.mono (by decide)) hr rfl T.m_cells_of T.F_cells_of.kp T.b_cells_of .nil QP (QA (pv 2) (QA (pv 1) QC))) rfl)
 (QB (Yh (pv 0) (pv 1) rfl)
 (QB (Yh (pv 0) (pv 2) rfl)
 (QB (Yh (pv 0) (pv 3) rfl)
 (QG (Yh (pv 0) (pv 4) rfl)))))),?_⟩
 try walk_at "rd"
 refine⟨pr,xs,os,n,rfl,h1,h2,osh,h8,hl,fun pc cs H1 g hn hc lb=>?_⟩
 have hp1:=g _ _ hp
 show zG0 K ("cells" : Str) (V.ref pc) (V.ref p) H1 _
 rw[YN hp1 T.cl_Shelf T.n_Hcells (by omega)]
 try walk_at "rd"
 rw[YN QF T.cl_Shelf T.n_Hsize (by have:=Qc "cells" (V.ref pc) fs;omega),Yi]
 try walk_at "rd"
 rw[YN QF T.cl_Shelf T.n_Hrow (by have:=Qc "cells" (V.ref pc) fs;have:=Qc "size" (V.int n) (Qu "cells" (V.ref pc) fs);omega),Yi]
 try walk_at "rd"
 rw[YN QF T.cl_Shelf T.n_Hheld (by have:=Qc "cells" (V.ref pc) fs;have:=Qc "size" (V.int n) (Qu "cells" (V.ref pc) fs);have:=Qc "row" (V.ref pr) (Qu "size" (V.int n) (Qu "cells" (V.ref pc) fs));omega),Yi]
 try walk_at "rd"
 rw[YN QF T.cl_Shelf T.n_Hcomings (by have:=Qc "cells" (V.ref pc) fs;have:=Qc "size" (V.int n) (Qu "cells" (V.ref pc) fs);have:=Qc "row" (V.ref pr) (Qu "size" (V.int n) (Qu "cells" (V.ref pc) fs));have:=Qc "held" (V.ref ph) (Qu "row" (V.ref pr) (Qu "size" (V.int n) (Qu "cells" (V.ref pc) fs)));omega),Yi]
 exact q pc cs H1 g hn hc lb
theorem zB2 (T:Txt K mg a)(G_Hlay_out:FnOk P w K mg base CX0 11 a.f_Hlay_out a.d_Hlay_out WT (zJ5 a.a_Shelf)):FnOk P w K mg base CX0 12 a.f_H__init__ a.d_H__init__ Ya (zFY a.a_Shelf):=by
 refine T.F_H__init__.ok sc_H__init__ (fun vs H Q E h=>?_) (fun cdv A outer s H vs Q E hr h=>?_)
 ·obtain⟨p,dx,n,rfl,_⟩:=h
  rfl
 have nd:=sc_H__init__.nd
 obtain⟨p,dx,n,rfl,hp,h8,q⟩:=h
 refine⟨_,(QB (Qm (Qi (pv 0) T.cl_Shelf T.M_Hlay_out (G_Hlay_out.mono (by decide)) hr T.b_Hlay_out .nil QP (QA (pv 1) (QA (ZU QC) (QA (ZU QC) (QA (ZU QC) QC))))))
 (QB (Yh (pv 0) QD rfl)
 (QB (Yh (pv 0) QD rfl)
 (QB (Yh (pv 0) QD rfl)
 (QG (Yh (pv 0) QD rfl)))))),?_⟩
 have r8:=h8.range
 try walk_at "rd"
 rw[zDV hp (by rfl)]
 refine⟨by decide,fun pr n1=>⟨by decide,fun ph n2=>⟨by decide,fun pm n3=>?_⟩⟩⟩
 have g1:=QE (o:=HO.lst []) n1
 have g2:=QE (o:=HO.lst []) n2
 have g3:=QE (o:=HO.lst []) n3
 have hr3:=g3 _ _ (g2 _ _ (QF (H:=H) (a:=pr) (o:=HO.lst [])))
 have hh3:=g3 _ _ (QF (H:=upd H pr (HO.lst [])) (a:=ph) (o:=HO.lst []))
 have hm3:=QF (H:=upd (upd H pr (HO.lst [])) ph (HO.lst [])) (a:=pm) (o:=HO.lst [])
 have m0:H pr=none:=n1
 have m1:pr ≠ ph:=fun e=>by subst e;rw[QF] at n2;cases n2
 have m2:ph ≠ pm:=fun e=>by subst e;rw[QF] at n3;cases n3
 have m3:pr ≠ pm:=fun e=>by subst e;rw[g2 _ _ QF] at n3;cases n3
 have G3:=(g1.trans g2).trans g3
 generalize upd (upd (upd H pr (HO.lst [])) ph (HO.lst [])) pm (HO.lst [])=H3 at g3 hr3 hh3 hm3 G3 ⊢
 refine⟨p,dx,[],n,pr,ph,pm,[],[],rfl,G3 _ _ hp,by decide,hr3,IsKos.nil,(fun o ho=>by cases ho),h8,by show (3:Int)*(0:Nat)<=2*n;omega,fun pc cs H4 g4 hn hc lb=>?_⟩
 have hcs:cs=List.replicate n.toNat (-1):=by cases lb;rfl
 rw[zJw]
 try walk_at "rd"
 have G4:=G3.trans g4
 have k1:pc ≠ pr:=fun e=>by subst e;rw[hr3] at hn;cases hn
 have k2:pc ≠ ph:=fun e=>by subst e;rw[hh3] at hn;cases hn
 have k3:pc ≠ pm:=fun e=>by subst e;rw[hm3] at hn;cases hn
 have p1:p ≠ pc:=QJ (G3 _ _ hp) hn
 have p2:p ≠ pr:=QJ hp n1
 have p3:p ≠ ph:=QJ hp (g1.free n2)
 have p4:p ≠ pm:=QJ hp ((g1.trans g2).free n3)
 rw[YN QF T.cl_Shelf T.n_Hcame zJF,Yi,zJP]
 try walk_at "rd"
 rw[YN QF T.cl_Shelf T.n_Hwent zJu,Yi,zI1]
 try walk_at "rd"
 rw[YN QF T.cl_Shelf T.n_Htidyings zJE,Yi,zJJ]
 try walk_at "rd"
 rw[YN QF T.cl_Shelf T.n_Hmoved zJW,Yi,zIo]
 have nn:((n.toNat:Nat):Int)=n:=by omega
 refine q ⟨dx,pc,pr,ph,pm,n.toNat,cs,[],[],[],0,0,0,0⟩ _ (fun b o e m=>by rw[QH m];exact G4 _ _ e) ⟨?_,?_,⟨[],?_,IsKos.nil⟩,?_,?_,⟨k1,k2,k3,m1,m3,m2⟩,?_,?_,?_,rfl,rfl,(fun o ho=>by cases ho),fun o ho=>by cases ho⟩ rfl hcs rfl rfl rfl rfl rfl rfl rfl (G3.free hn) n1 (g1.free n2) ((g1.trans g2).free n3)
 ·show upd H4 p _ p=some (.ins a.a_Shelf dx (shF pc ((n.toNat:Nat):Int) pr ph pm 0 0 0 0))
  rw[QF,nn]
 ·rw[QH (Ne.symm p1)];exact hc
 ·rw[QH (Ne.symm p2)];exact g4 _ _ hr3
 ·rw[QH (Ne.symm p3)];exact g4 _ _ hh3
 ·rw[QH (Ne.symm p4)];exact g4 _ _ hm3
 ·show Fm n.toNat cs []
  rw[hcs]
  exact Fm.zero (by rw[nn];exact h8.p2)
 ·show S8 ((n.toNat:Nat):Int)
  rw[nn];exact h8
 ·show 3*0<=2*n.toNat
  omega
theorem zIg (T:Txt K mg a)(G_checked:FnOk P w K mg base CX0 10 a.f_checked a.d_checked Y9 zFP)(G_Hplace:FnOk P w K mg base CX0 11 a.f_Hplace a.d_Hplace Zf (zI0 a.a_Shelf)):FnOk P w K mg base CX0 12 a.f_Hhas a.d_Hhas zEj (zGv a.a_Shelf):=by
 refine T.F_Hhas.ok sc_Hhas (fun vs H Q E h=>?_) (fun cdv A outer s H vs Q E hr h=>?_)
 ·obtain⟨p,S,x,k,rfl,_⟩:=h
  rfl
 have nd:=sc_Hhas.nd
 obtain⟨p,S,x,k,rfl,A,hk,hd,hok,q⟩:=h
 refine⟨_,(QG (QN (Qn Wd (Qi (pv 0) T.cl_Shelf T.M_Hplace (G_Hplace.mono (by decide)) hr T.b_Hplace .nil QP (QA (QM (G_checked.mono (by decide)) hr rfl T.m_checked T.F_checked.kp T.b_checked .nil QP (QA (pv 1) QC)) QC)) Q8 (QR _)))),?_⟩
 try walk_at "rd"
 rw[Yp A (by decide +kernel)]
 refine⟨x,k,rfl,hk,hok,fun H1 g1=>?_⟩
 refine⟨p,S,x,k,rfl,A.same g1,hk.same g1.tups,hd,fun i hi H2 g2=>?_,fun hn H2 g2=>?_⟩
 ·unfold plV
  try walk_at "rd"
  exact q.1 i hi H2 (g1.trans g2)
 ·unfold plV
  try walk_at "rd"
  exact q.2 hn H2 (g1.trans g2)
theorem zFs (T:Txt K mg a)(G_Hentries:FnOk P w K mg base CX0 1 a.f_Hentries a.d_Hentries ZJ (JL a.a_Shelf)):FnOk P w K mg base CX0 2 a.f_Hpairs a.d_Hpairs zAC (zFj a.a_Shelf):=by
 refine T.F_Hpairs.ok sc_Hpairs (fun vs H Q E h=>?_) (fun cdv A outer s H vs Q E hr h=>?_)
 ·obtain⟨p,S,xs,rfl,_⟩:=h
  rfl
 have nd:=sc_Hpairs.nd
 obtain⟨p,S,xs,rfl,A,hx,q⟩:=h
 refine⟨_,(QG (QN (Jt "entry" [] [] rfl ⟨rfl,rfl,by decide +kernel,by decide +kernel,rfl,by decide +kernel,by decide +kernel,rfl,by decide +kernel⟩ rfl (YO (Yj (pv 0) T.cl_Shelf T.M_Hentries (G_Hentries.mono (by decide)) hr T.b_Hentries .nil QP)) (fun C s1 H1 fp=>(ZW (QA (Qg YL (pv 0) QD (fun _ _=>rfl)) (QA (Qg YL (pv 0) QD (fun _ _=>rfl)) QC))))))),?_⟩
 obtain⟨xs',h1,h2⟩:=A.hr
 rw[hx] at h1
 cases h1
 have l1:=A.l1
 have l2:=A.l2
 have hsm:=A.small
 have hel:(Yr S xs).length<=4096:=by
  unfold Yr
  refine Nat.le_trans (List.length_filter_le _ _) ?_
  rw[List.length_zip]
  omega
 try walk_at "rd"
 rw[Yp A (by decide +kernel)]
 refine⟨p,S,xs,rfl,A,hx,fun l ys H1 g1 nl hl pe=>?_⟩
 have pl:=Paired.length pe
 refine⟨l,rfl,⟨_,SqL.of hl⟩,YH (xs:=ys) (fun i zs H2=>Same H1 H2/\zs.length=i/\Paired (PairR H2) zs ((Yr S xs).take i)) ⟨Same.refl H1,rfl,.nil⟩ (fun i zs H2 _ h=>SqL.of (h.1 _ _ hl)) (fun i zs H2 hi h=>?_) (fun i y zs H2 ey h=>?_) (fun zs H2 h=>?_)⟩
 ·rw[h.2.1];exact Q0 (by omega)
 ·obtain⟨g,hz,pr⟩:=h
  obtain⟨e,ee,t,rfl,ht⟩:=Yo pe ey
  have ht2:=g _ _ ht
  try walk_at "rd"
  rw[Q2 (v:=e.2.1) ht2 rfl,Q2 (v:=e.2.2) ht2 rfl]
  refine⟨by decide,fun u hu=>?_⟩
  have gu:=QE (o:=HO.tup [e.2.1,e.2.2]) hu
  refine⟨g.trans gu,by rw[List.length_append,hz];rfl,?_⟩
  rw[YK ee]
  exact Ys (YV pr fun a _ b h=>PairR.same gu h) ⟨u,rfl,QF⟩
 ·obtain⟨g,hz,pr⟩:=h
  intro l2 hl2
  have gl:=QE (o:=HO.lst zs) hl2
  refine q l2 zs _ ((g1.trans g).trans gl) (g1.free (g.free hl2)) QF ?_
  have pr':=YV pr fun a _ b h=>PairR.same gl h
  rw[List.take_of_length_le (by omega)] at pr'
  exact pr'
end
section
variable {P:Program} {w:World} {K:W.Frag} {mg:Str->Option Value} {base:Heap} {a:Ad}
theorem zA0 (T:Txt K mg a):FnOk P w K mg base (CXe P w) 1 a.f_Hmake_room a.d_Hmake_room ZM (zE4 a.a_Full):=by
 refine T.F_Hmake_room.okE sc_Hmake_room (fun vs H Q E h=>?_) (fun cdv A outer s H vs Q E hr h=>?_)
 ·obtain⟨p,rfl,_⟩:=h
  rfl
 have nd:=sc_Hmake_room.nd
 obtain⟨p,rfl,q⟩:=h
 obtain⟨bmF,xF⟩:=T.x_Full
 refine⟨_,(QG (JO hr.hd rfl T.m_Full xF (QA JC QC))),?_⟩
 try walk_at "rd"
 exact⟨by decide,fun ea he=>q ea he⟩
theorem zGY (T:Txt K mg a)(G_room:FnOk P w K mg base CX0 1 a.f_room a.d_room zAd zCT)(G_Hmake_room:FnOk P w K mg base (CXe P w) 1 a.f_Hmake_room a.d_Hmake_room ZM (zE4 a.a_Full))(G_Hwrite:FnOk P w K mg base CX0 10 a.f_Hwrite a.d_Hwrite Wx (zCk a.a_Shelf)):FnOk P w K mg base (CXe P w) 11 a.f_Hcome a.d_Hcome zB1 (zFM a.a_Shelf a.a_Full):=by
 refine T.F_Hcome.okE sc_Hcome (fun vs H Q E h=>?_) (fun cdv A outer s H vs Q E hr h=>?_)
 ·obtain⟨p,S,x,k,y,rfl,_⟩:=h
  rfl
 have nd:=sc_Hcome.nd
 obtain⟨p,S,x,k,y,rfl,A,hk,hd,hn,qF,q⟩:=h
 refine⟨_,(QB (QT (QS zKN (QL QW rfl T.z_len PySem.boot_len (QA (Qd (pv 0) rfl) QC)) (QM (G_room.mono (by decide)) hr rfl T.m_room T.F_room.kp T.b_room .nil QP (QA (Qd (pv 0) rfl) QC)) (QR _)) (QG (Qm (Yj (pv 0) T.cl_Shelf T.M_Hmake_room (G_Hmake_room.mono (by decide)) hr T.b_Hmake_room .nil (zFK (fun _ _ _ h=>h))))) QO)
 (QB (Qm (Qi (pv 0) T.cl_Shelf T.M_Hwrite (G_Hwrite.mono (by decide)) hr T.b_Hwrite .nil QP (QA (pv 1) (QA (QL QW rfl T.z_len PySem.boot_len (QA (Qd (pv 0) rfl) QC)) QC))))
 (QB (zEt (pv 0) QD zHW)
 (QB (Qm (Ws PySem.F.plainAttrs_list PySem.F.slot_list_append PySem.F.type_list_append ZH (Qd (pv 0) rfl) (QA (pv 1) QC)))
 (QB (Qm (Ws PySem.F.plainAttrs_list PySem.F.slot_list_append PySem.F.type_list_append ZH (Qd (pv 0) rfl) (QA (pv 2) QC)))
 (QG (Qm (Ws PySem.F.plainAttrs_list PySem.F.slot_list_append PySem.F.type_list_append ZH (Qd (pv 0) rfl) (QA (Qd (pv 0) rfl) QC))))))))),?_⟩
 obtain⟨xs,h1,h2⟩:=A.hr
 have hxl:=h2.len
 have hsm:=A.small
 obtain⟨n1,n2,n3,n4⟩:=A.lists
 obtain⟨d1,d2,d3,d4,d5,d6⟩:=A.ne
 obtain⟨c,hc,hce⟩:=A.fm.lacks hn
 try walk_at "rd"
 rw[zBX T A,Qe h1,zLK T A]
 refine⟨_,rfl,?_⟩
 try walk_at "rd"
 rw[hxl]
 by_cases hfull:2*S.n / 3<=S.os.length
 ·rw[if_pos (by omega),Yp A (by decide +kernel)]
  try walk_at "rd"
  exact⟨p,rfl,fun ea he=>qF hfull ea he⟩
 have hrm:3*(S.os.length+1)<=2*S.n:=by omega
 have q:=q hrm
 rw[if_neg (by omega)]
 rw[Yp A (by decide +kernel),zBX T A,Qe h1,hxl]
 refine⟨p,S,x,k,(S.os.length:Nat),c,rfl,A,hk,hd,hc,fun H1 g1=>?_⟩
 have A1:=A.same g1
 obtain⟨xs1,h11,h12⟩:=A1.hr
 have ex:xs1=xs:=by have:=g1 _ _ h1;rw[h11] at this;cases this;rfl
 subst ex
 have b2:But p S H (upd H1 S.pc (HO.lst ((S.cs.set (sl k.st S.n c) ((S.os.length:Nat):Int)).map V.int))):=fun b o e _ m1 _ _ _=>by rw[QH m1];exact g1 _ _ e
 have hcs:upd H1 S.pc (HO.lst ((S.cs.set (sl k.st S.n c) ((S.os.length:Nat):Int)).map V.int)) S.pc=some (.lst ((S.cs.set (sl k.st S.n c) ((S.os.length:Nat):Int)).map V.int)):=QF
 have hob:upd H1 S.pc (HO.lst ((S.cs.set (sl k.st S.n c) ((S.os.length:Nat):Int)).map V.int)) p=some (.ins a.a_Shelf S.dx (shF S.pc S.n S.pr S.ph S.pm S.ca S.we S.ti S.mo)):=by rw[QH n1];exact A1.ob
 have hrw:upd H1 S.pc (HO.lst ((S.cs.set (sl k.st S.n c) ((S.os.length:Nat):Int)).map V.int)) S.pr=some (.lst xs1):=by rw[QH (Ne.symm d1)];exact h11
 have hhd:upd H1 S.pc (HO.lst ((S.cs.set (sl k.st S.n c) ((S.os.length:Nat):Int)).map V.int)) S.ph=some (.lst S.hs):=by rw[QH (Ne.symm d2)];exact A1.hh
 have hcm:upd H1 S.pc (HO.lst ((S.cs.set (sl k.st S.n c) ((S.os.length:Nat):Int)).map V.int)) S.pm=some (.lst (S.ms.map V.int)):=by rw[QH (Ne.symm d3)];exact A1.hm
 generalize upd H1 S.pc (HO.lst ((S.cs.set (sl k.st S.n c) ((S.os.length:Nat):Int)).map V.int))=H2 at b2 hcs hob hrw hhd hcm ⊢
 try walk_at "rd"
 rw[Q3 hob T.cl_Shelf T.n_Hcame zAA]
 try walk_at "rd"
 rw[YN hob T.cl_Shelf T.n_Hcame zFX,zCn]
 have hob3:=QF (H:=H2) (a:=p) (o:=HO.ins a.a_Shelf S.dx (shF S.pc S.n S.pr S.ph S.pm (S.ca+1) S.we S.ti S.mo))
 have b3:But p S H (upd H2 p (HO.ins a.a_Shelf S.dx (shF S.pc S.n S.pr S.ph S.pm (S.ca+1) S.we S.ti S.mo))):=fun b o e m0 m1 m2 m3 m4=>by rw[QH m0];exact b2 b o e m0 m1 m2 m3 m4
 have hcs3:upd H2 p (HO.ins a.a_Shelf S.dx (shF S.pc S.n S.pr S.ph S.pm (S.ca+1) S.we S.ti S.mo)) S.pc=some (.lst ((S.cs.set (sl k.st S.n c) ((S.os.length:Nat):Int)).map V.int)):=by rw[QH (Ne.symm n1)];exact hcs
 have hrw3:upd H2 p (HO.ins a.a_Shelf S.dx (shF S.pc S.n S.pr S.ph S.pm (S.ca+1) S.we S.ti S.mo)) S.pr=some (.lst xs1):=by rw[QH (Ne.symm n2)];exact hrw
 have hhd3:upd H2 p (HO.ins a.a_Shelf S.dx (shF S.pc S.n S.pr S.ph S.pm (S.ca+1) S.we S.ti S.mo)) S.ph=some (.lst S.hs):=by rw[QH (Ne.symm n3)];exact hhd
 have hcm3:upd H2 p (HO.ins a.a_Shelf S.dx (shF S.pc S.n S.pr S.ph S.pm (S.ca+1) S.we S.ti S.mo)) S.pm=some (.lst (S.ms.map V.int)):=by rw[QH (Ne.symm n4)];exact hcm
 generalize upd H2 p (HO.ins a.a_Shelf S.dx (shF S.pc S.n S.pr S.ph S.pm (S.ca+1) S.we S.ti S.mo))=H3 at b3 hob3 hcs3 hrw3 hhd3 hcm3 ⊢
 try walk_at "rd"
 rw[Q3 hob3 T.cl_Shelf T.n_Hrow zCM]
 try walk_at "rd"
 rw[zCl hrw3,Ym hrw3]
 refine⟨True.intro,Q0 (by omega),?_⟩
 have b4:But p S H (upd H3 S.pr (HO.lst (xs1++[x]))):=fun b o e m0 m1 m2 m3 m4=>by rw[QH m2];exact b3 b o e m0 m1 m2 m3 m4
 have hob4:upd H3 S.pr (HO.lst (xs1++[x])) p=some (.ins a.a_Shelf S.dx (shF S.pc S.n S.pr S.ph S.pm (S.ca+1) S.we S.ti S.mo)):=by rw[QH n2];exact hob3
 have hcs4:upd H3 S.pr (HO.lst (xs1++[x])) S.pc=some (.lst ((S.cs.set (sl k.st S.n c) ((S.os.length:Nat):Int)).map V.int)):=by rw[QH d1];exact hcs3
 have hrw4:=QF (H:=H3) (a:=S.pr) (o:=HO.lst (xs1++[x]))
 have hhd4:upd H3 S.pr (HO.lst (xs1++[x])) S.ph=some (.lst S.hs):=by rw[QH (Ne.symm d4)];exact hhd3
 have hcm4:upd H3 S.pr (HO.lst (xs1++[x])) S.pm=some (.lst (S.ms.map V.int)):=by rw[QH (Ne.symm d5)];exact hcm3
 generalize upd H3 S.pr (HO.lst (xs1++[x]))=H4 at b4 hob4 hcs4 hrw4 hhd4 hcm4 ⊢
 try walk_at "rd"
 rw[Q3 hob4 T.cl_Shelf T.n_Hheld zAS]
 try walk_at "rd"
 rw[zCl hhd4,Ym hhd4]
 refine⟨True.intro,Q0 (by have:=A.l1;omega),?_⟩
 have b5:But p S H (upd H4 S.ph (HO.lst (S.hs++[y]))):=fun b o e m0 m1 m2 m3 m4=>by rw[QH m3];exact b4 b o e m0 m1 m2 m3 m4
 have hob5:upd H4 S.ph (HO.lst (S.hs++[y])) p=some (.ins a.a_Shelf S.dx (shF S.pc S.n S.pr S.ph S.pm (S.ca+1) S.we S.ti S.mo)):=by rw[QH n3];exact hob4
 have hcs5:upd H4 S.ph (HO.lst (S.hs++[y])) S.pc=some (.lst ((S.cs.set (sl k.st S.n c) ((S.os.length:Nat):Int)).map V.int)):=by rw[QH d2];exact hcs4
 have hrw5:upd H4 S.ph (HO.lst (S.hs++[y])) S.pr=some (.lst (xs1++[x])):=by rw[QH d4];exact hrw4
 have hhd5:=QF (H:=H4) (a:=S.ph) (o:=HO.lst (S.hs++[y]))
 have hcm5:upd H4 S.ph (HO.lst (S.hs++[y])) S.pm=some (.lst (S.ms.map V.int)):=by rw[QH (Ne.symm d6)];exact hcm4
 generalize upd H4 S.ph (HO.lst (S.hs++[y]))=H5 at b5 hob5 hcs5 hrw5 hhd5 hcm5 ⊢
 try walk_at "rd"
 rw[Q3 hob5 T.cl_Shelf T.n_Hcomings JV]
 try walk_at "rd"
 rw[zCl hcm5,Q3 hob5 T.cl_Shelf T.n_Hcame zAA]
 refine⟨True.intro,?_⟩
 rw[Ym hcm5]
 refine⟨Q0 (by have:=A.l2;rw[List.length_map];omega),?_⟩
 have b6:But p S H (upd H5 S.pm (HO.lst (S.ms.map V.int++[V.int (S.ca+1)]))):=fun b o e m0 m1 m2 m3 m4=>by rw[QH m4];exact b5 b o e m0 m1 m2 m3 m4
 refine q c _ hc b6 ⟨?_,?_,⟨xs1++[x],?_,?_⟩,?_,?_,A.ne,?_,A.s8,?_,?_,?_,?_,?_⟩
 ·rw[QH n4];exact hob5
 ·show upd H5 S.pm _ S.pc=_
  rw[QH d3];exact hcs5
 ·show upd H5 S.pm _ S.pr=_
  rw[QH d5];exact hrw5
 ·exact (h2.same (A.tups b6)).snoc (hk.same (A.tups b6))
 ·show upd H5 S.pm _ S.ph=_
  rw[QH d6];exact hhd5
 ·show upd H5 S.pm _ S.pm=some (.lst ((S.ms++[S.ca+1]).map V.int))
  rw[QF,List.map_append];rfl
 ·exact A.fm.put hn hc (by omega)
 ·show 3*(S.os++[some k]).length<=2*S.n
  rw[List.length_append];exact hrm
 ·show (S.hs++[y]).length=(S.os++[some k]).length
  rw[List.length_append,List.length_append,A.l1];rfl
 ·show (S.ms++[S.ca+1]).length=(S.os++[some k]).length
  rw[List.length_append,List.length_append,A.l2];rfl
 ·intro o ho
  rcases List.mem_append.mp ho with m | m
  ·exact A.dp o m
  ·rw[List.mem_singleton.mp m];exact hd
 ·intro m hm
  rcases List.mem_append.mp hm with z | z
  ·have:=A.cm m z
   show m<=S.ca+1
   omega
  ·rw[List.mem_singleton.mp z];exact Int.le_refl _
theorem zIP (T:Txt K mg a)(G_checked:FnOk P w K mg base CX0 10 a.f_checked a.d_checked Y9 zFP)(G_Hplace:FnOk P w K mg base CX0 11 a.f_Hplace a.d_Hplace Zf (zI0 a.a_Shelf))(G_Hcome:FnOk P w K mg base (CXe P w) 11 a.f_Hcome a.d_Hcome zB1 (zFM a.a_Shelf a.a_Full)):FnOk P w K mg base (CXe P w) 12 a.f_Hput a.d_Hput zCi (zCG a.a_Shelf a.a_Full):=by
 refine T.F_Hput.okE sc_Hput (fun vs H Q E h=>?_) (fun cdv A outer s H vs Q E hr h=>?_)
 ·obtain⟨p,S,x,k,y,rfl,_⟩:=h
  rfl
 have nd:=sc_Hput.nd
 obtain⟨p,S,x,k,y,rfl,A,hk,hd,hok,q1,q2,q3⟩:=h
 refine⟨_,(QB (QQ (i:=3) nd rfl (Or.inl rfl) (Qi (pv 0) T.cl_Shelf T.M_Hplace (G_Hplace.mono (by decide)) hr T.b_Hplace .nil QP (QA (QM (G_checked.mono (by decide)) hr rfl T.m_checked T.F_checked.kp T.b_checked .nil QP (QA (pv 1) QC)) QC)))
 (QB (QT (QS zEV (pv 3) Q8 (QR _)) (QB (Qm (Qi (pv 0) T.cl_Shelf T.M_Hcome (G_Hcome.mono (by decide)) hr T.b_Hcome .nil (zFK (fun _ _ _ h=>h)) (QA (pv 1) (QA (pv 2) QC))))
 (QG (QN Wj))) QO)
 (QB (ZK (pv 2) (ZR (Qd (pv 0) rfl) (pv 3) Wp))
 (QG (QN Wj))))),?_⟩
 try walk_at "rd"
 rw[Yp A (by decide +kernel)]
 refine⟨x,k,rfl,hk,hok,fun H1 g1=>?_⟩
 refine⟨p,S,x,k,rfl,A.same g1,hk.same g1.tups,hd,fun i hi H2 g2=>?_,fun hn H2 g2=>?_⟩
 ·have G:=g1.trans g2
  have A2:=A.same G
  obtain⟨n1,n2,n3,n4⟩:=A.lists
  obtain⟨d1,d2,d3,d4,d5,d6⟩:=A.ne
  have hlt:i < S.hs.length:=by rw[A.l1];exact (List.getElem?_eq_some_iff.mp hi).1
  unfold plV
  try walk_at "rd"
  rw[zEK T A2]
  rw[Yg A2.hh rfl hlt]
  obtain⟨xs,h1,h2⟩:=A2.hr
  have b:But p S H (upd H2 S.ph (HO.lst (S.hs.set i y))):=fun b o e m0 m1 m2 m3 m4=>by rw[QH m3];exact G _ _ e
  have bt:=A.tups b
  refine q1 i _ hi b ⟨?_,?_,⟨xs,?_,?_⟩,QF,?_,A.ne,A.fm,A.s8,A.rm,?_,A.l2,A.dp,A.cm⟩
  ·rw[QH n3];exact A2.ob
  ·rw[QH d2];exact A2.hc
  ·rw[QH d4];exact h1
  ·exact h2.same (YF A2.hh)
  ·rw[QH (Ne.symm d6)];exact A2.hm
  ·show (S.hs.set i y).length=_
   rw[List.length_set];exact A.l1
 ·have G:=g1.trans g2
  unfold plV
  try walk_at "rd"
  rw[Yp (A.same G) (by decide +kernel)]
  refine⟨p,S,x,k,y,rfl,A.same G,hk.same G.tups,hd,hn,fun hf ea he=>q3 hn hf ea H2 G he,fun hrm c H3 hc b A3=>?_⟩
  try walk_at "rd"
  exact q2 c H3 hn hrm hc (fun z o e m0 m1 m2 m3 m4=>b z o (G _ _ e) m0 m1 m2 m3 m4) A3
theorem Jf (T:Txt K mg a)(G_checked:FnOk P w K mg base CX0 10 a.f_checked a.d_checked Y9 zFP)(G_Hplace:FnOk P w K mg base CX0 11 a.f_Hplace a.d_Hplace Zf (zI0 a.a_Shelf)):FnOk P w K mg base (CXe P w) 12 a.f_Hsure_place a.d_Hsure_place Y2 (zFG a.a_Shelf a.a_Lacking):=by
 refine T.F_Hsure_place.okE sc_Hsure_place (fun vs H Q E h=>?_) (fun cdv A outer s H vs Q E hr h=>?_)
 ·obtain⟨p,S,x,k,rfl,_⟩:=h
  rfl
 have nd:=sc_Hsure_place.nd
 obtain⟨p,S,x,k,rfl,A,hk,hd,hok,q1,q2⟩:=h
 obtain⟨bmL,xL⟩:=T.x_Lacking
 refine⟨_,(QB (QQ (i:=2) nd rfl (Or.inl rfl) (Qi (pv 0) T.cl_Shelf T.M_Hplace (G_Hplace.mono (by decide)) hr T.b_Hplace .nil QP (QA (QM (G_checked.mono (by decide)) hr rfl T.m_checked T.F_checked.kp T.b_checked .nil QP (QA (pv 1) QC)) QC)))
 (QB (QT (QS zEV (pv 2) Q8 (QR _)) (QG (JO hr.hd rfl T.m_Lacking xL (QA JC QC))) QO)
 (QG (QN (pv 2))))),?_⟩
 try walk_at "rd"
 rw[Yp A (by decide +kernel)]
 refine⟨x,k,rfl,hk,hok,fun H1 g1=>?_⟩
 refine⟨p,S,x,k,rfl,A.same g1,hk.same g1.tups,hd,fun j hj H2 g2=>?_,fun hn H2 g2=>?_⟩
 ·unfold plV
  try walk_at "rd"
  exact q1 j H2 hj (g1.trans g2)
 ·unfold plV
  try walk_at "rd"
  exact⟨by decide,fun ea he=>q2 hn ea H2 (g1.trans g2) he⟩
theorem zGI (T:Txt K mg a)(G_Hsure_place:FnOk P w K mg base (CXe P w) 12 a.f_Hsure_place a.d_Hsure_place Y2 (zFG a.a_Shelf a.a_Lacking))(G_Hwrite:FnOk P w K mg base CX0 10 a.f_Hwrite a.d_Hwrite Wx (zCk a.a_Shelf)):FnOk P w K mg base (CXe P w) 13 a.f_Htake a.d_Htake We (Wq a.a_Shelf a.a_Lacking):=by
 refine T.F_Htake.okE sc_Htake (fun vs H Q E h=>?_) (fun cdv A outer s H vs Q E hr h=>?_)
 ·obtain⟨p,S,x,k,rfl,_⟩:=h
  rfl
 have nd:=sc_Htake.nd
 obtain⟨p,S,x,k,rfl,A,hk,hd,hok,q1,q2⟩:=h
 refine⟨_,(QB (QQ (i:=2) nd rfl (Or.inl rfl) (Qi (pv 0) T.cl_Shelf T.M_Hsure_place (G_Hsure_place.mono (by decide)) hr T.b_Hsure_place .nil (zFK (fun _ _ _ h=>h)) (QA (pv 1) QC)))
 (QB (QQ (i:=3) nd rfl (Or.inl rfl) (Qg YL (Qd (pv 0) rfl) (pv 2) (fun _ _=>rfl)))
 (QB (Qm (Qi (pv 0) T.cl_Shelf T.M_Hwrite (G_Hwrite.mono (by decide)) hr T.b_Hwrite .nil QP (QA (pv 1) (QA (Qq (v:=.int (-2)) rfl T.c_GONE ⟨_,rfl⟩) QC))))
 (QB (ZK Q8 (ZR (Qd (pv 0) rfl) (pv 2) Wp))
 (QB (ZK Q8 (ZR (Qd (pv 0) rfl) (pv 2) Wp))
 (QB (zEt (pv 0) QD zHW)
 (QG (QN (pv 3))))))))),?_⟩
 try walk_at "rd"
 rw[Yp A (by decide +kernel)]
 refine⟨p,S,x,k,rfl,A,hk,hd,hok,fun i H1 hi g1=>?_,q2⟩
 have A1:=A.same g1
 obtain⟨n1,n2,n3,n4⟩:=A.lists
 obtain⟨d1,d2,d3,d4,d5,d6⟩:=A.ne
 obtain⟨c,hc,hce⟩:=A.fm.there hi
 have hlt:i < S.hs.length:=by rw[A.l1];exact (List.getElem?_eq_some_iff.mp hi).1
 have hlo:i < S.os.length:=(List.getElem?_eq_some_iff.mp hi).1
 have hv0:(S.hs[i]?).getD V.non=S.hs[i]:=by rw[List.getElem?_eq_getElem hlt];rfl
 try walk_at "rd"
 rw[zEK T A1,Q4 A1.hh (v:=S.hs[i]) (YM (by simp[hlt]))]
 try walk_at "rd"
 rw[Yp A1 (by decide +kernel)]
 try walk_at "rd"
 refine⟨p,S,x,k,-2,c,rfl,A1,hk.same g1.tups,hd,hc,fun H2 g2=>?_⟩
 have A2:=A1.same g2
 obtain⟨xs,h21,h22⟩:=A2.hr
 have hxl:=h22.len
 have G2:=g1.trans g2
 have hob3:upd H2 S.pc (HO.lst ((S.cs.set (sl k.st S.n c) (-2)).map V.int)) p=some (.ins a.a_Shelf S.dx (shF S.pc S.n S.pr S.ph S.pm S.ca S.we S.ti S.mo)):=by rw[QH n1];exact A2.ob
 have hcs3:=QF (H:=H2) (a:=S.pc) (o:=HO.lst ((S.cs.set (sl k.st S.n c) (-2)).map V.int))
 have hrw3:upd H2 S.pc (HO.lst ((S.cs.set (sl k.st S.n c) (-2)).map V.int)) S.pr=some (.lst xs):=by rw[QH (Ne.symm d1)];exact h21
 have hhd3:upd H2 S.pc (HO.lst ((S.cs.set (sl k.st S.n c) (-2)).map V.int)) S.ph=some (.lst S.hs):=by rw[QH (Ne.symm d2)];exact A2.hh
 have hcm3:upd H2 S.pc (HO.lst ((S.cs.set (sl k.st S.n c) (-2)).map V.int)) S.pm=some (.lst (S.ms.map V.int)):=by rw[QH (Ne.symm d3)];exact A2.hm
 have b3:But p S H (upd H2 S.pc (HO.lst ((S.cs.set (sl k.st S.n c) (-2)).map V.int))):=fun b o e _ m1 _ _ _=>by rw[QH m1];exact G2 _ _ e
 generalize upd H2 S.pc (HO.lst ((S.cs.set (sl k.st S.n c) (-2)).map V.int))=H3 at hob3 hcs3 hrw3 hhd3 hcm3 b3 ⊢
 try walk_at "rd"
 rw[Q3 hob3 T.cl_Shelf T.n_Hrow zCM]
 try walk_at "rd"
 rw[Yg hrw3 rfl (by omega)]
 have hob4:upd H3 S.pr (HO.lst (xs.set i V.non)) p=some (.ins a.a_Shelf S.dx (shF S.pc S.n S.pr S.ph S.pm S.ca S.we S.ti S.mo)):=by rw[QH n2];exact hob3
 have hcs4:upd H3 S.pr (HO.lst (xs.set i V.non)) S.pc=some (.lst ((S.cs.set (sl k.st S.n c) (-2)).map V.int)):=by rw[QH d1];exact hcs3
 have hrw4:=QF (H:=H3) (a:=S.pr) (o:=HO.lst (xs.set i V.non))
 have hhd4:upd H3 S.pr (HO.lst (xs.set i V.non)) S.ph=some (.lst S.hs):=by rw[QH (Ne.symm d4)];exact hhd3
 have hcm4:upd H3 S.pr (HO.lst (xs.set i V.non)) S.pm=some (.lst (S.ms.map V.int)):=by rw[QH (Ne.symm d5)];exact hcm3
 have b4:But p S H (upd H3 S.pr (HO.lst (xs.set i V.non))):=fun b o e m0 m1 m2 m3 m4=>by rw[QH m2];exact b3 b o e m0 m1 m2 m3 m4
 generalize upd H3 S.pr (HO.lst (xs.set i V.non))=H4 at hob4 hcs4 hrw4 hhd4 hcm4 b4 ⊢
 try walk_at "rd"
 rw[Q3 hob4 T.cl_Shelf T.n_Hheld zAS]
 try walk_at "rd"
 rw[Yg hhd4 rfl hlt]
 have hob5:upd H4 S.ph (HO.lst (S.hs.set i V.non)) p=some (.ins a.a_Shelf S.dx (shF S.pc S.n S.pr S.ph S.pm S.ca S.we S.ti S.mo)):=by rw[QH n3];exact hob4
 have hcs5:upd H4 S.ph (HO.lst (S.hs.set i V.non)) S.pc=some (.lst ((S.cs.set (sl k.st S.n c) (-2)).map V.int)):=by rw[QH d2];exact hcs4
 have hrw5:upd H4 S.ph (HO.lst (S.hs.set i V.non)) S.pr=some (.lst (xs.set i V.non)):=by rw[QH d4];exact hrw4
 have hhd5:=QF (H:=H4) (a:=S.ph) (o:=HO.lst (S.hs.set i V.non))
 have hcm5:upd H4 S.ph (HO.lst (S.hs.set i V.non)) S.pm=some (.lst (S.ms.map V.int)):=by rw[QH (Ne.symm d6)];exact hcm4
 have b5:But p S H (upd H4 S.ph (HO.lst (S.hs.set i V.non))):=fun b o e m0 m1 m2 m3 m4=>by rw[QH m3];exact b4 b o e m0 m1 m2 m3 m4
 generalize upd H4 S.ph (HO.lst (S.hs.set i V.non))=H5 at hob5 hcs5 hrw5 hhd5 hcm5 b5 ⊢
 try walk_at "rd"
 rw[Q3 hob5 T.cl_Shelf T.n_Hwent zGt]
 try walk_at "rd"
 rw[YN hob5 T.cl_Shelf T.n_Hwent zFX,zCd]
 have b6:But p S H (upd H5 p (HO.ins a.a_Shelf S.dx (shF S.pc S.n S.pr S.ph S.pm S.ca (S.we+1) S.ti S.mo))):=fun b o e m0 m1 m2 m3 m4=>by rw[QH m0];exact b5 b o e m0 m1 m2 m3 m4
 try walk_at "rd"
 rw[← hv0]
 refine q1 i c _ hi hc b6 ⟨QF,?_,⟨xs.set i V.non,?_,?_⟩,?_,?_,A.ne,A.fm.take hi hc,A.s8,?_,?_,?_,?_,A.cm⟩
 ·show upd H5 p _ S.pc=_
  rw[QH (Ne.symm n1)];exact hcs5
 ·show upd H5 p _ S.pr=_
  rw[QH (Ne.symm n2)];exact hrw5
 ·obtain⟨xs0,h01,h02⟩:=A.hr
  have ex:xs=xs0:=by have:=G2 _ _ h01;rw[h21] at this;cases this;rfl
  subst ex
  exact zFn h02 (A.tups b6) i
 ·show upd H5 p _ S.ph=_
  rw[QH (Ne.symm n3)];exact hhd5
 ·show upd H5 p _ S.pm=_
  rw[QH (Ne.symm n4)];exact hcm5
 ·show 3*(S.os.set i none).length<=_
  rw[List.length_set];exact A.rm
 ·show (S.hs.set i V.non).length=(S.os.set i none).length
  rw[List.length_set,List.length_set];exact A.l1
 ·show _=(S.os.set i none).length
  rw[List.length_set];exact A.l2
 ·intro o ho
  rcases List.mem_or_eq_of_mem_set ho with z | z
  ·exact A.dp o z
  ·rw[z];exact True.intro
theorem zG8 (T:Txt K mg a):FnOk P w K mg base CX0 1 a.f_Hform a.d_Hform Jw (zCp a.a_Shelf):=by
 refine T.F_Hform.ok sc_Hform (fun vs H Q E h=>?_) (fun cdv A outer s H vs Q E hr h=>?_)
 ·obtain⟨p,S,rfl,_⟩:=h
  rfl
 have nd:=sc_Hform.nd
 obtain⟨p,S,rfl,A,q⟩:=h
 refine⟨_,(QG (QN (ZW (QA (Qy YI rfl T.z_list boot_list (QA (Qd (pv 0) rfl) QC)) (QA (Qy YI rfl T.z_list boot_list (QA (Qd (pv 0) rfl) QC)) QC))))),?_⟩
 obtain⟨xs,h1,h2⟩:=A.hr
 try walk_at "rd"
 rw[Ju T A]
 show zFd [V.ref S.pc] _ _
 rw[YU A.hc]
 intro l1 hl1
 have g1:=QE (o:=HO.lst (S.cs.map V.int)) hl1
 have A1:=A.same g1
 try walk_at "rd"
 rw[zBX T A1]
 show zFd [V.ref S.pr] _ _
 rw[YU (g1 _ _ h1)]
 intro l2 hl2
 have g2:=QE (o:=HO.lst xs) hl2
 try walk_at "rd"
 refine⟨by decide,fun t ht=>?_⟩
 have g3:=QE (o:=HO.tup [V.ref l1,V.ref l2]) ht
 refine q t l1 l2 xs _ ((g1.trans g2).trans g3) hl1 (g1.free hl2) (QJ QF hl2) QF (g3 _ _ (g2 _ _ QF)) (g3 _ _ QF) (h2.same ((g1.trans g2).trans g3).tups)
end
theorem zGl {a b:Int} (h1:0<=a) (h2:a < 2147483648) (h3:0<=b) (h4:b < 2147483648):0<=Builtin.bitXor a b/\Builtin.bitXor a b < 2147483648:=by
 have eo:Builtin.bitOr a b=((a.toNat ||| b.toNat:Nat):Int):=by
  unfold Builtin.bitOr Builtin.bitAnd Builtin.bitNot
  rw[decide_eq_false (by omega),decide_eq_false (by omega)]
  have e:(-(-a - 1) - 1:Int).toNat=a.toNat:=by omega
  have e2:(-(-b - 1) - 1:Int).toNat=b.toNat:=by omega
  show -(-((((-(-a - 1) - 1:Int).toNat ||| (-(-b - 1) - 1:Int).toNat:Nat)):Int) - 1) - 1=_
  rw[e,e2]
  omega
 have ea:Builtin.bitAnd a b=((a.toNat &&& b.toNat:Nat):Int):=by
  unfold Builtin.bitAnd
  rw[decide_eq_true h1,decide_eq_true h3]
 have l1:a.toNat &&& b.toNat<=a.toNat:=Nat.and_le_left
 have l2:a.toNat<=a.toNat ||| b.toNat:=Nat.left_le_or
 have l3:a.toNat ||| b.toNat < 2 ^ 31:=Nat.or_lt_two_pow (by omega) (by omega)
 unfold Builtin.bitXor
 rw[eo,ea]
 omega
section
variable {P:Program} {w:World} {K:W.Frag} {mg:Str->Option Value} {base:Heap} {a:Ad}
theorem zJD (T:Txt K mg a)(G_Ltext:FnOk P w K mg base CX0 1 a.f_Ltext a.d_Ltext W2 Jx)(G_Lstamp:FnOk P w K mg base CX0 1 a.f_Lstamp a.d_Lstamp Y6 (zBB 0))(G_Lany_key:FnOk P w K mg base CX0 3 a.f_Lany_key a.d_Lany_key WI zJ6):FnOk P w K mg base CX0 5 a.f_Lkey a.d_Lkey zEa zGr:=by
 refine T.F_Lkey.ok sc_Lkey (fun vs H Q E h=>?_) (fun cdv A outer s H vs Q E hr h=>?_)
 ·obtain⟨w,b,j,rfl,_⟩:=h
  rfl
 have nd:=sc_Lkey.nd
 obtain⟨w,b,j,rfl,b0,b1,j0,j1,q⟩:=h
 refine⟨_,(QB (QT (QS YS (pv 0) QD (QR _)) (QG (QN (QK Qv (pv 1) (QK Q1 QD (pv 2))))) QO)
 (QB (QT (QS YS (pv 0) QD (QR _)) (QG (QN (QK Qv (pv 1) (QK Q1 QD (pv 2))))) QO)
 (QB (QT (QS YS (pv 0) QD (QR _)) (QB (QQ (i:=3) nd rfl (Or.inl rfl) (QM (G_Ltext.mono (by decide)) hr rfl T.m_Ltext T.F_Ltext.kp T.b_Ltext .nil QP (QA (pv 1) (QA (QK QX (pv 1) QD) QC))))
 (QB (QQ (i:=4) nd rfl (Or.inl rfl) (QK QX (QK Qk (pv 1) QD) (QK Qv (QL QW rfl T.z_len PySem.boot_len (QA (pv 3) QC)) QD)))
 (QG (QN (QK ZS (QK ZS (Zk zG6 (pv 3) Jl (Z2 (pv 4))) (QM (G_Ltext.mono (by decide)) hr rfl T.m_Ltext T.F_Ltext.kp T.b_Ltext .nil QP (QA (pv 2) (QA QD QC)))) (Zk zG6 (pv 3) (Z2 (pv 4)) Jl)))))) QO)
 (QB (QT (QS YS (pv 0) QD (QR _)) (QB (QQ (i:=5) nd rfl (Or.inl rfl) (QM (G_Ltext.mono (by decide)) hr rfl T.m_Ltext T.F_Ltext.kp T.b_Ltext .nil QP (QA (pv 1) (QA (QK QX (pv 1) QD) QC))))
 (QB (QQ (i:=6) nd rfl (Or.inl rfl) (QM (G_Lstamp.mono (by decide)) hr rfl T.m_Lstamp T.F_Lstamp.kp T.b_Lstamp .nil QP (QA (pv 5) QC)))
 (QB (QT (QS YS (pv 2) QD (QR _)) (QG (QN (pv 5))) QO)
 (QB (QT (QS YS (QK QX (pv 2) QD) QD (QR _)) (QG (QN (QK Qv (pv 6) (QK Q1 QD (QK Qk (pv 2) QD))))) QO)
 (QG (QN (ZW (QA (QK Qv (QK zDr QD (pv 6)) (QK Q1 QD (QK JI (QK Qk (pv 2) QD) QD))) QC)))))))) QO)
 (QG (QN (QM (G_Lany_key.mono (by decide)) hr rfl T.m_Lany_key T.F_Lany_key.kp T.b_Lany_key .nil QP (QA (QK QX (QK Q1 (QK Qv (pv 1) (pv 2)) (QK Zu QD QD)) (QK Qv (QK Zu QD QD) QD)) QC)))))))),?_⟩
 have qn:∀ n,-10 ^ 60 < n->n < 10 ^ 60->Q (.int n) H:=fun n h1 h2=>q _ (.num n) H (Same.refl H) Z4 (by rw[zAf];decide) (zD4 h1 h2 3)
 have qt:∀ x:Str,x.length<=60->Q (.str x) H:=fun x h=>q _ (.txt x) H (Same.refl H) Js (by rw[W0];decide) (zEC h 3)
 have big:∀ n:Nat,n<=1000->n<=sizeLine:=fun n h=>Nat.le_of_lt (Qh h)
 walk_at "rd"
 refine Yc (fun _=>⟨.inl ⟨by decide,by decide⟩,qn _ (by omega) (by omega)⟩) (fun _=>Yc (fun _=>⟨.inl ⟨by decide,by decide⟩,qn _ (by omega) (by omega)⟩) (fun _=>Yc (fun _=>?_) (fun _=>Yc (fun _=>?_) (fun _=>?_))))
 ·refine⟨b,_,rfl,by omega,by omega,fun x hx=>?_⟩
  show zAa [V.str x] _ _
  rw[zGs (big _ (by omega))]
  have s1:=Txt.slice_le x none (some (b / 20 % ((x.length:Int)+1)))
  have s2:=Txt.slice_le x (some (b / 20 % ((x.length:Int)+1))) none
  refine⟨_,rfl,by omega,x,rfl,big _ (by omega),j,2,rfl,by decide,by decide,fun y hy=>?_⟩
  have hy2:y.length=2:=hy
  refine⟨_,rfl,_,rfl,big _ (by omega),x,rfl,big _ (by omega),_,rfl,big _ (by rw[Jn];omega),qt _ (by rw[Jn,Jn];omega)⟩
 ·refine⟨b,_,rfl,by omega,by omega,fun x hx=>⟨.str x,.txt x,rfl,Js,by rw[W0];exact Nat.le_refl _,?_⟩⟩
  have sr:=Kd.st_range (.txt x)
  have xr:=zGl (a:=11000033) (b:=(Kd.txt x).st) (by decide) (by decide) sr.1 (by omega)
  refine Yc (fun _=>qt x (by omega)) (fun _=>Yc (fun _=>⟨.inl ⟨by decide,by decide⟩,_,rfl,qn _ (by omega) (by omega)⟩) (fun _=>⟨_,rfl,.inl ⟨by decide,by decide⟩,by decide,fun p hp=>?_⟩))
  refine q _ (.tup [.num _]) _ (QE hp) (Z7 QF (by show 1<=1000;decide) (IsKs.one Z4)) (by simp only[Kd.deep,Kd.deepL];decide) (zAP (by show 1<=6;decide) fun k hk=>?_)
  rw[List.mem_singleton.mp hk]
  exact zD4 (by omega) (by omega) 2
 ·exact⟨⟨by decide,by decide,by decide⟩,.inr ⟨by decide,by decide⟩,_,rfl,by omega,by omega,q⟩
end
section
variable {P:Program} {w:World} {K:W.Frag} {mg:Str->Option Value} {base:Heap} {a:Ad}
theorem zAJ (T:Txt K mg a)(G_is_size:FnOk P w K mg base CX0 2 a.f_is_size a.d_is_size Z0 zLL)(G_room:FnOk P w K mg base CX0 1 a.f_room a.d_room zAd zCT):FnOk P w K mg base CX0 3 a.f_numbers_fit a.d_numbers_fit Yx zKO:=by
 refine T.F_numbers_fit.ok sc_numbers_fit (fun vs H Q E h=>?_) (fun cdv A outer s H vs Q E hr h=>?_)
 ·obtain⟨p,r,cs,xs,os,rfl,_⟩:=h
  rfl
 have nd:=sc_numbers_fit.nd
 obtain⟨p,r,cs,xs,os,rfl,hp,hrw,hos,hsh,q⟩:=h
 refine⟨_,(QB (QQ (i:=2) nd rfl (Or.inl rfl) (QL QW rfl T.z_len PySem.boot_len (QA (pv 0) QC)))
 (QG (QN (YJ (QM (G_is_size.mono (by decide)) hr rfl T.m_is_size T.F_is_size.kp T.b_is_size .nil QP (QA (pv 2) QC)) (YJ (Qn zBN (QL QW rfl T.z_len PySem.boot_len (QA (pv 1) QC)) (QM (G_room.mono (by decide)) hr rfl T.m_room T.F_room.kp T.b_room .nil QP (QA (pv 2) QC)) (QR _)) (Ye (Qn zBN (Ws PySem.F.plainAttrs_list PySem.F.slot_list_count PySem.F.type_list_count (zBT hr.units) (pv 0) (QA (Qq (v:=.int (-2)) rfl T.c_GONE ⟨_,rfl⟩) QC)) (Ws PySem.F.plainAttrs_list PySem.F.slot_list_count PySem.F.type_list_count (zBT hr.units) (pv 1) (QA Q8 QC)) (QR _)))))))),?_⟩
 walk_at "rd"
 rw[Qe hp,List.length_map]
 refine⟨.int cs.length,true,decide (S8 (cs.length:Int)),rfl,.inl ⟨_,rfl,rfl,rfl⟩,_,rfl,?_⟩
 by_cases h8:S8 (cs.length:Int)
 ·rw[if_pos (decide_eq_true h8),Qe hrw,hos.len]
  refine⟨_,rfl,_,rfl,_,rfl,?_⟩
  by_cases hl:(os.length:Int)<=2*(cs.length:Int) / 3
  ·rw[if_pos hl]
   refine⟨.inl ⟨rfl,_,SqL.of hp⟩,p,_,cz cs,some (.num (-2)),_,rfl,rfl,hp,Y5 _,zFL,zCC,.inl ⟨rfl,_,SqL.of hrw⟩,r,xs,os,none,_,rfl,rfl,hrw,hos,rfl,fun o ho=>shal_mono (hsh o ho),_,rfl,_,rfl,?_⟩
   exact q _ (by rw[decide_eq_true_eq];exact⟨fun h=>⟨h8,hl,h⟩,fun h=>h.2.2⟩)
  ·rw[if_neg hl]
   exact q false ⟨fun h=>(nomatch h),fun h=>absurd h.2.1 hl⟩
 ·rw[if_neg (by simp[h8])]
  exact q false ⟨fun h=>(nomatch h),fun h=>absurd h.1 h8⟩
theorem Jb (T:Txt K mg a):FnOk P w K mg base CX0 1 a.f_no_two_alike a.d_no_two_alike Yk zKE:=by
 refine T.F_no_two_alike.ok sc_no_two_alike (fun vs H Q E h=>?_) (fun cdv A outer s H vs Q E hr h=>?_)
 ·obtain⟨r,xs,os,rfl,_⟩:=h
  rfl
 have nd:=sc_no_two_alike.nd
 obtain⟨r,xs,os,rfl,hrw,hos,hsh,hl,q⟩:=h
 refine⟨_,(QB (zAu (i:=1) nd rfl (Or.inl rfl) "key" [] [] rfl ⟨rfl,rfl,by decide +kernel,by decide +kernel,rfl,by decide +kernel,by decide +kernel,rfl,by decide +kernel⟩ rfl (YO (pv 0)) (fun C s1 H1 fp=>(QS Wd (pv 0) Q8 (QR _))) (fun C s1 H1 fp=>(pv 0)))
 (QG (QN (Qn YS (QL zEb rfl T.z_len PySem.boot_len (QA (Qy (zD3 rfl (Nat.lt_of_le_of_lt (Nat.add_le_add_left (by decide) _) hr.units)) rfl T.z_set boot_set (QA (pv 1) QC)) QC)) (QL QW rfl T.z_len PySem.boot_len (QA (pv 1) QC)) (QR _))))),?_⟩
 walk_at "rd"
 have xl:=hos.len
 refine⟨⟨_,SqL.of hrw⟩,YH (xs:=xs) (fun i ys H'=>H'=H/\IsKs H (Qj (os.take i)) ys) ⟨rfl,by show IsKs H [] [];unfold IsKs;rfl⟩ (fun _ _ _ _ h=>by rw[h.1];exact SqL.of hrw) (fun i ys H' hi h=>?_) (fun i x ys H' e h=>?_) (fun ys H' h=>?_)⟩
 ·have h1:=IsKs.length h.2
  have h2:=zAG (os:=os.take i)
  rw[List.length_take] at h2
  exact Qh (by omega)
 ·obtain⟨rfl,hk⟩:=h
  obtain⟨o,e1,e2⟩:=hos.get e
  walk_at "rd"
  cases o with
  | none =>
   rw[if_neg (fun z=>z e2),zDT e1]
   exact hk
  | some k =>
   rw[if_pos (of_decide_eq_false e2.non),zDS e1]
   exact IsKs.snoc hk e2
 ·obtain⟨rfl,hk⟩:=h
  rw[xl,List.take_length] at hk
  intro pk hpk
  have kl:=IsKs.length hk
  have kl2:=zAG (os:=os)
  have g1:=QE (o:=HO.lst ys) hpk
  refine⟨ys,SqL.of QF,Qj os,hk.same g1.tups,fun k hk=>?_,by omega,fun p1 n hp1 hn1 hn2=>⟨n,QF,by omega,?_⟩⟩
  ·have:k.deep<=3:=hsh _ (keysOf_mem.mp hk)
   omega
  ·have g2:=QE (o:=sko p1 n) hp1
   rw[Qe (g2 _ _ QF),Jg,kl]
   refine q _ _ (g1.trans g2) ?_
   rw[decide_eq_true_eq,← hn2]
   omega
theorem W4 (T:Txt K mg a):FnOk P w K mg base CX0 1 a.f_places_of_keys a.d_places_of_keys YB zEe:=by
 refine T.F_places_of_keys.ok sc_places_of_keys (fun vs H Q E h=>?_) (fun cdv A outer s H vs Q E hr h=>?_)
 ·obtain⟨r,xs,os,rfl,_⟩:=h
  rfl
 have nd:=sc_places_of_keys.nd
 obtain⟨r,xs,os,rfl,hrw,hos,hl,q⟩:=h
 refine⟨_,(QG (QN (zGQ "place" "key" [] [] rfl ⟨rfl,rfl,by decide +kernel,by decide +kernel,by decide +kernel,by decide +kernel,rfl,by decide +kernel⟩ rfl rfl rfl (zFR rfl rfl T.z_enumerate (pv 0)) (fun C s1 H1 fp=>(QS Wd (pv 1) Q8 (QR _))) (fun C s1 H1 fp=>(pv 0))))),?_⟩
 walk_at "rd"
 have xl:=hos.len
 refine⟨⟨_,SqL.of hrw⟩,zEl (xs:=xs) (Nat.le_of_lt (Qh (by omega))) (fun i zs H'=>Same H H'/\zs=(plc os i).map V.int) ⟨Same.refl _,rfl⟩ (fun i zs H' hi h=>⟨SqL.of (h.1 _ _ hrw),by rw[h.2,List.length_map];exact zFT⟩) (fun i x p zs H' e h hp=>?_) (fun zs H' h=>?_)⟩
 ·obtain⟨g,rfl⟩:=h
  obtain⟨o,e1,e2⟩:=hos.get e
  have gt:=QE (o:=HO.tup [V.int (i:Nat),x]) hp
  walk_at "rd"
  rw[zDj e1]
  cases o with
  | none =>
   rw[if_neg (fun z=>z e2)]
   exact⟨g.trans gt,rfl⟩
  | some k =>
   rw[if_pos (of_decide_eq_false e2.non)]
   exact⟨g.trans gt,by rw[if_neg (by simp),List.map_append];rfl⟩
 ·obtain⟨g,rfl⟩:=h
  rw[xl]
  intro p hp
  exact q p _ (g.trans (QE hp)) (g.free hp) QF
theorem Z9 (T:Txt K mg a)(G_places_of_keys:FnOk P w K mg base CX0 1 a.f_places_of_keys a.d_places_of_keys YB zEe):FnOk P w K mg base CX0 2 a.f_each_in_one_cell a.d_each_in_one_cell YE zHY:=by
 refine T.F_each_in_one_cell.ok sc_each_in_one_cell (fun vs H Q E h=>?_) (fun cdv A outer s H vs Q E hr h=>?_)
 ·obtain⟨p,r,cs,xs,os,rfl,_⟩:=h
  rfl
 have nd:=sc_each_in_one_cell.nd
 obtain⟨p,r,cs,xs,os,rfl,hp,hrw,hos,hl,cl,h64,q⟩:=h
 refine⟨_,(QB (zAu (i:=2) nd rfl (Or.inl rfl) "cell" [] [] rfl ⟨rfl,rfl,by decide +kernel,by decide +kernel,rfl,by decide +kernel,by decide +kernel,rfl,by decide +kernel⟩ rfl (YO (pv 0)) (fun C s1 H1 fp=>(PW.pt (zEN (QS zC2 (pv 0) (Qq (v:=.int (-1)) rfl T.c_EMPTY ⟨_,rfl⟩) (QR _)) (zB8 (QS zC2 (pv 0) (Qq (v:=.int (-2)) rfl T.c_GONE ⟨_,rfl⟩) (QR _)))))) (fun C s1 H1 fp=>(pv 0)))
 (QG (QN (Qn (zI3 (Nat.lt_of_le_of_lt (Nat.le_add_right _ _) hr.units)) (QL (zEX rfl) rfl T.z_sorted boot_sorted (QA (pv 2) QC)) (QM (G_places_of_keys.mono (by decide)) hr rfl T.m_places_of_keys T.F_places_of_keys.kp T.b_places_of_keys .nil QP (QA (pv 1) QC)) (QR _))))),?_⟩
 walk_at "rd"
 refine⟨⟨_,SqL.of hp⟩,YH (xs:=cs.map V.int) (fun i ys H'=>H'=H/\ys=(YC (cs.take i)).map V.int) ⟨rfl,rfl⟩ (fun _ _ _ _ h=>by rw[h.1];exact SqL.of hp) (fun i ys H' hi h=>?_) (fun i x ys H' e h=>?_) (fun ys H' h=>?_)⟩
 ·have h2:=zGN (cs:=cs.take i)
  rw[List.length_take] at h2
  rw[h.2,List.length_map]
  exact Qh (by omega)
 ·obtain⟨rfl,rfl⟩:=h
  rw[List.getElem?_map] at e
  cases ev:cs[i]? with
  | none=>rw[ev] at e;cases e
  | some v =>
   rw[ev] at e
   cases e
   rw[zEF ev]
   walk_at "rd"
   by_cases z:v = -1
   ·rw[if_neg (fun h=>h z),if_neg (fun h=>h.1 z)]
   ·rw[if_pos z]
    by_cases z2:v = -2
    ·rw[if_neg (fun h=>h z2),if_neg (fun h=>h.2 z2)]
    ·rw[if_pos z2,if_pos ⟨z,z2⟩,List.map_append]
     rfl
 ·obtain⟨rfl,rfl⟩:=h
  rw[List.length_map,List.take_length]
  intro ph hph
  have g1:=QE (o:=HO.lst ((YC cs).map V.int)) hph
  refine⟨YC cs,SqL.of QF,h64,fun p1 ns hp1 pm srtd=>?_⟩
  have g2:=QE (o:=srt p1 ns) hp1
  have G2:=g1.trans g2
  refine⟨r,xs,os,rfl,G2 _ _ hrw,hos.same G2.tups,hl,fun pq H2 g3 hpq hpl=>?_⟩
  have pl:=pm.length_eq
  refine⟨p1,pq,ns,plc os os.length,rfl,rfl,g3 _ _ QF,hpl,by omega,q _ _ (G2.trans g3) ?_⟩
  rw[decide_eq_true_eq]
  exact⟨fun h=>h ▸ pm.symm,fun h=>zJS (pm.trans h) srtd plc_rise⟩
theorem zA9 (T:Txt K mg a)(G_places_of_keys:FnOk P w K mg base CX0 1 a.f_places_of_keys a.d_places_of_keys YB zEe)(G_place_of:FnOk P w K mg base CX0 10 a.f_place_of a.d_place_of ZC zCZ):FnOk P w K mg base CX0 11 a.f_each_found a.d_each_found ZB zIA:=by
 refine T.F_each_found.ok sc_each_found (fun vs H Q E h=>?_) (fun cdv A outer s H vs Q E hr h=>?_)
 ·obtain⟨p,r,cs,xs,os,rfl,_⟩:=h
  rfl
 have nd:=sc_each_found.nd
 obtain⟨p,r,cs,xs,os,rfl,hp,hrw,hos,hsh,hl,h8,hpm,q⟩:=h
 refine⟨_,(QG (QN (QL (zAZ rfl) rfl T.z_all boot_all (QA (Jt "place" ["cells", "row"] [0,1] rfl ⟨rfl,rfl,by decide +kernel,by decide +kernel,rfl,by decide +kernel,by decide +kernel,rfl,by decide +kernel⟩ rfl (YO (QM (G_places_of_keys.mono (by decide)) hr rfl T.m_places_of_keys T.F_places_of_keys.kp T.b_places_of_keys .nil QP (QA (pv 1) QC))) (fun C s1 H1 fp=>(Qn (zIe hr.units) (QM (G_place_of.mono (by decide)) hr rfl T.m_place_of T.F_place_of.kp T.b_place_of .nil QP (QA (pv 1) (QA (pv 2) (QA (Qg YL (pv 2) (pv 0) (fun _ _=>rfl)) QC)))) (pv 0) (QR _)))) QC)))),?_⟩
 walk_at "rd"
 have r8:=h8.range
 have xl:=hos.len
 have n0:0 < cs.length:=by omega
 have hg:zE1 cs os:=fun v hv v0=>by
  obtain⟨p,k,e1,e2,e3⟩:=plc_iff.mp (hpm.mem_iff.mp (heldL_mem.mpr ⟨hv,by omega,by omega⟩))
  subst e1
  exact⟨k,by rw[Int.toNat_natCast];exact e3,shal_mono (hsh _ (List.mem_of_getElem? e3))⟩
 refine⟨r,xs,os,rfl,hrw,hos,hl,fun pp H1 g1 hpp hpl=>?_⟩
 refine⟨pp,rfl,⟨_,SqL.of hpl⟩,YH (xs:=(plc os os.length).map V.int) (fun i ys H'=>Same H1 H'/\∃ bs:List Bool,ys=bs.map V.bl/\bs.length=i/\zIV cs os bs) ⟨Same.refl _,[],rfl,rfl,fun j b h=>absurd h (by rw[List.getElem?_nil];exact fun z=>nomatch z)⟩ (fun _ _ _ _ h=>SqL.of (h.1 _ _ hpl)) (fun i ys H' hi h=>?_) (fun i x ys H' e h=>?_) (fun ys H' h=>?_)⟩
 ·obtain⟨_,bs,rfl,hb,_⟩:=h
  rw[List.length_map] at hi ⊢
  have:=zFT (os:=os) (i:=os.length)
  exact Qh (by omega)
 ·obtain⟨g,bs,rfl,hb,hh⟩:=h
  rw[List.getElem?_map] at e
  cases ev:(plc os os.length)[i]? with
  | none=>rw[ev] at e;cases e
  | some v0 =>
   rw[ev] at e
   cases e
   obtain⟨v,k,rfl,hv,hk⟩:=plc_iff.mp (List.mem_of_getElem? ev)
   obtain⟨y,ey,hy⟩:=hos.get' hk
   have G:=g1.trans g
   have hy':IsK H' k y:=IsK.same G.tups hy
   have vin:(v:Int)∈cs:=(heldL_mem.mp (hpm.mem_iff.mpr (plc_iff.mpr ⟨v,k,rfl,hv,hk⟩))).1
   obtain⟨c0,c1,c2⟩:=zAR (m:=k.st) h8.p2 vin
   obtain⟨c,hc⟩:=WW (P:=fun c=>Qx os k (cAt cs k.st c)) ⟨c0,c1,.inr (by rw[c2];exact⟨by omega,by rw[Int.toNat_natCast];exact hk⟩)⟩
   walk_at "rd"
   rw[Q4 (G _ _ hrw) (YM ey)]
   refine⟨p,r,cs,xs,os,y,k,c,rfl,G _ _ hp,G _ _ hrw,hos.same G.tups,hy',hsh _ (List.mem_of_getElem? hk),n0,by omega,hg,hc,fun H2 g2=>?_⟩
   have fin:∀ o z,IsKo H2 o z->Yn 20 o->(o=some (.num v) ↔ Fnd cs os k v)->zKR z (V.int (v:Int)) H2 fun y H4=>Same H1 H4/\∃ bs':List Bool,bs.map V.bl++[y]=bs'.map V.bl/\bs'.length=i+1/\zIV cs os bs':=fun o z ho hs hf=>by
    refine⟨o,.num v,ho,Z4,hs,g.trans g2,bs++[decide (o=some (.num v))],by rw[List.map_append];rfl,by rw[List.length_append,hb];rfl,fun j b hj=>?_⟩
    by_cases jl:j < bs.length
    ·rw[List.getElem?_append_left jl] at hj
     exact hh j b hj
    ·have je:j=bs.length:=by
      have:=(List.getElem?_eq_some_iff.mp hj).1
      rw[List.length_append] at this
      simp at this
      omega
     subst je
     rw[List.getElem?_append_right (Nat.le_refl _)] at hj
     simp at hj
     refine⟨v,k,by rw[hb];exact ev,hk,?_⟩
     rw[← hj,decide_eq_true_eq]
     exact hf
   have fnd:Fnd cs os k v ↔ cAt cs k.st c=(v:Int):=⟨fun ⟨d,hd,e⟩=>by rw[hc.uniq hd];exact e,fun e=>⟨c,hc,e⟩⟩
   by_cases z:cAt cs k.st c = -1
   ·rw[if_pos z]
    refine fin none _ rfl True.intro ?_
    rw[fnd]
    exact⟨fun h=>(nomatch h),fun h=>by omega⟩
   ·rw[if_neg z]
    refine fin (some (.num (cAt cs k.st c))) _ zFL (by show (Kd.num (cAt cs k.st c)).deep<=20;rw[zAf];decide) ?_
    rw[fnd]
    exact⟨fun h=>by injection h with h;injection h,fun h=>by rw[h]⟩
 ·obtain⟨g,bs,rfl,hb,hh⟩:=h
  rw[List.length_map] at hb
  intro pa hpa
  have ga:=QE (o:=HO.lst (bs.map V.bl)) hpa
  refine⟨pa,bs,rfl,SqL.of QF,q _ _ (g1.trans (g.trans ga)) ?_⟩
  rw[List.all_eq_true]
  constructor
  ·intro h pq k hk
   have hv:=(List.getElem?_eq_some_iff.mp hk).1
   obtain⟨j,hj⟩:=List.getElem?_of_mem (plc_iff.mpr ⟨pq,k,rfl,hv,hk⟩)
   have jl:j < bs.length:=by rw[hb];exact (List.getElem?_eq_some_iff.mp hj).1
   obtain⟨v,k',e1,e2,e3⟩:=hh j bs[j] (List.getElem?_eq_getElem jl)
   rw[hj] at e1
   have ev:pq=v:=by have:=Option.some.inj e1;omega
   subst ev
   rw[hk] at e2
   cases e2
   exact e3.mp (h _ (List.getElem_mem jl))
  ·intro h b hbm
   obtain⟨j,hj⟩:=List.getElem?_of_mem hbm
   obtain⟨v,k',e1,e2,e3⟩:=hh j b hj
   exact e3.mpr (h v k' e2)
theorem zEY (T:Txt K mg a)(G_numbers_fit:FnOk P w K mg base CX0 3 a.f_numbers_fit a.d_numbers_fit Yx zKO)(G_no_two_alike:FnOk P w K mg base CX0 1 a.f_no_two_alike a.d_no_two_alike Yk zKE)(G_each_in_one_cell:FnOk P w K mg base CX0 2 a.f_each_in_one_cell a.d_each_in_one_cell YE zHY)(G_each_found:FnOk P w K mg base CX0 11 a.f_each_found a.d_each_found ZB zIA):FnOk P w K mg base CX0 12 a.f_in_form a.d_in_form JN zJy:=by
 refine T.F_in_form.ok sc_in_form (fun vs H Q E h=>?_) (fun cdv A outer s H vs Q E hr h=>?_)
 ·obtain⟨p,r,cs,xs,os,rfl,_⟩:=h
  rfl
 have nd:=sc_in_form.nd
 obtain⟨p,r,cs,xs,os,rfl,hp,hrw,hos,hsh,cl,h64,q⟩:=h
 refine⟨_,(QG (QN (YJ (QM (G_numbers_fit.mono (by decide)) hr rfl T.m_numbers_fit T.F_numbers_fit.kp T.b_numbers_fit .nil QP (QA (pv 0) (QA (pv 1) QC))) (YJ (QM (G_no_two_alike.mono (by decide)) hr rfl T.m_no_two_alike T.F_no_two_alike.kp T.b_no_two_alike .nil QP (QA (pv 1) QC)) (YJ (QM (G_each_in_one_cell.mono (by decide)) hr rfl T.m_each_in_one_cell T.F_each_in_one_cell.kp T.b_each_in_one_cell .nil QP (QA (pv 0) (QA (pv 1) QC))) (Ye (QM (G_each_found.mono (by decide)) hr rfl T.m_each_found T.F_each_found.kp T.b_each_found .nil QP (QA (pv 0) (QA (pv 1) QC))))))))),?_⟩
 walk_at "rd"
 refine⟨p,r,cs,xs,os,rfl,hp,hrw,hos,hsh,fun b hb=>⟨b,rfl,?_⟩⟩
 cases b with
 | false =>
  rw[if_neg (by decide)]
  exact q H false (Same.refl _) ⟨fun h=>(nomatch h),fun h=>hb.mpr h.1⟩
 | true =>
  rw[if_pos rfl]
  have ft:=hb.mp rfl
  have ol:os.length<=76:=by have:=ft.2.1;omega
  refine⟨r,xs,os,rfl,hrw,hos,hsh,ol,fun H1 b1 g1 hb1=>⟨b1,rfl,?_⟩⟩
  cases b1 with
  | false =>
   rw[if_neg (by decide)]
   exact q _ false g1 ⟨fun h=>(nomatch h),fun h=>hb1.mpr h.2.1⟩
  | true =>
   rw[if_pos rfl]
   refine⟨p,r,cs,xs,os,rfl,g1 _ _ hp,g1 _ _ hrw,hos.same g1.tups,by omega,by omega,h64,fun H2 b2 g2 hb2=>⟨b2,rfl,?_⟩⟩
   have G2:=g1.trans g2
   cases b2 with
   | false =>
    rw[if_neg (by decide)]
    exact q _ false G2 ⟨fun h=>(nomatch h),fun h=>hb2.mpr h.2.2.1⟩
   | true =>
    rw[if_pos rfl]
    refine⟨p,r,cs,xs,os,rfl,G2 _ _ hp,G2 _ _ hrw,hos.same G2.tups,hsh,by omega,ft.1,hb2.mp rfl,fun H3 b3 g3 hb3=>?_⟩
    exact q _ b3 (G2.trans g3) ⟨fun h=>⟨ft,hb1.mp rfl,hb2.mp rfl,hb3.mp h⟩,fun h=>hb3.mpr h.2.2.2⟩
end
theorem zLR {P:Program} {w:World} {K:W.Frag} {mg:Str->Option Value} {base:Heap} {a:Ad} (T:Txt K mg a):FnOk P w K mg base CX0 17 a.f_law a.d_law zHR (zDG K) :=
 have c:=zDI T
 have tx:=zH0 T
 have pb:=zHg T (zGE T)
 have st:=Wr T 3
 have pap:=zHZ T st pb (zFw T)
 have plo:=zCs T pap
 have sz:=zDp T (zAz T)
 have ce:=zDL T sz (zB6 T) (zAX T st pb)
 have ky:=zGF T (Zt T 3)
 have ch:=zEU T ky
 have pl:=zGR T plo
 have wr:=zGA T pap
 have ly:=zDe T ce
 have cm:=zGY T (zB6 T) (zA0 T) wr
 have pt:=zIP T ch pl cm
 have tk:=zGI T (Jf T ch pl) wr
 have tl:=zAt T (zGB T (JZ T)) tk
 have pk:=W4 T
 have fo:=zG8 T
 zMD T c (zB2 T ly) (zEJ T (zJD T tx (WQ T 0) (zDo T tx (zHA T tx))) (zHm T pt tk tl)) (zFs T (JZ T)) fo (zCz T (zGL T))
  (zEY T (zAJ T sz (zB6 T)) (Jb T) (Z9 T pk) (zA9 T pk plo)) (zIF T (zAi T (WQ T 3) (zHT T))) (zEr T (zIg T ch pl) pt tk fo)
theorem zLu {us:List Value} (h:us.length=0):us=[]:=List.length_eq_zero_iff.mp h
theorem zKP {us:List Value} (h:us.length=1):∃ u0,us=[u0]:=match us,h with | [u0],_=>⟨u0,rfl⟩
theorem zKB {us:List Value} (h:us.length=2):∃ u0 u1,us=[u0,u1]:=match us,h with | [u0,u1],_=>⟨u0,u1,rfl⟩
theorem zLa {us:List Value} (h:us.length=3):∃ u0 u1 u2,us=[u0,u1,u2]:=match us,h with | [u0,u1,u2],_=>⟨u0,u1,u2,rfl⟩
theorem zL0 {us:List Value} (h:us.length=4):∃ u0 u1 u2 u3,us=[u0,u1,u2,u3]:=match us,h with | [u0,u1,u2,u3],_=>⟨u0,u1,u2,u3,rfl⟩
theorem zLz {us:List Value} (h:us.length=5):∃ u0 u1 u2 u3 u4,us=[u0,u1,u2,u3,u4]:=match us,h with | [u0,u1,u2,u3,u4],_=>⟨u0,u1,u2,u3,u4,rfl⟩
theorem zLs {us:List Value} (h:us.length=6):∃ u0 u1 u2 u3 u4 u5,us=[u0,u1,u2,u3,u4,u5]:=match us,h with | [u0,u1,u2,u3,u4,u5],_=>⟨u0,u1,u2,u3,u4,u5,rfl⟩
theorem zLt {us:List Value} (h:us.length=7):∃ u0 u1 u2 u3 u4 u5 u6,us=[u0,u1,u2,u3,u4,u5,u6]:=match us,h with | [u0,u1,u2,u3,u4,u5,u6],_=>⟨u0,u1,u2,u3,u4,u5,u6,rfl⟩
structure FK (K:W.Frag) (f:Addr) (x q:Str) (st:Stmt) (df:Value) where
 {oc kV dc pm cd ct:Value}
 {od an:Option Addr}
 {sl:Array (Option Value)}
 l:K.lookup f=some ⟨oc,od,.func (W.fnOf x q (YA st) (Qr st) (QI st) df kV dc pm an cd ct),sl⟩
 c:W.codeIn K cd q=true
 k:W.keepIn K (.ref f)=true
section
variable {K:W.Frag} {f:Addr} {x q:Str} {st:Stmt}
abbrev FK.d {df:Value} (F:FK K f x q st df):FuncData:=W.fnOf x q (YA st) (Qr st) (QI st) df F.kV F.dc F.pm F.an F.cd F.ct
theorem FK.fn (F:FK K f x q st .none):Fun K x q st f F.d:=zKk F.l F.c F.k
theorem FK.fnD {T:Addr} {ot:Value} {dt:Option Addr} {nt:Nat} {slt:Array (Option Value)} {ds:List Value} (F:FK K f x q st (.ref T)) (L:K.lookup T=some ⟨ot,dt,.seq ds.toArray nt,slt⟩):FunD K x q st f F.d ds:=zJN F.l F.c F.k L rfl
end
structure FG (K:W.Frag) (f:Addr) (x:Str) (st:Stmt) extends FK K f x x st .none where
 a:W.nsIn K mainGlobals x=some (some (.ref f))
structure FM (K:W.Frag) (f r:Addr) (x q:Str) (st:Stmt) (df:Value) extends FK K f x q st df where
 a:W.findIn K (.ref r) x=some (some (.ref f))
 i:W.isFn K (.ref f)=true
local macro_rules | `(tactic| walk_at "b0") => `(tactic| exact fun _ _ _ _ _ _ us hl => by have e := zLu hl; subst e; rfl)
local macro_rules | `(tactic| walk_at "b1") => `(tactic| exact fun _ _ _ _ _ _ us hl => by obtain ⟨u0, e⟩ := zKP hl; subst e; rfl)
local macro_rules | `(tactic| walk_at "b2") => `(tactic| exact fun _ _ _ _ _ _ us hl => by obtain ⟨u0, u1, e⟩ := zKB hl; subst e; rfl)
local macro_rules | `(tactic| walk_at "b3") => `(tactic| exact fun _ _ _ _ _ _ us hl => by obtain ⟨u0, u1, u2, e⟩ := zLa hl; subst e; rfl)
local macro_rules | `(tactic| walk_at "b4") => `(tactic| exact fun _ _ _ _ _ _ us hl => by obtain ⟨u0, u1, u2, u3, e⟩ := zL0 hl; subst e; rfl)
local macro_rules | `(tactic| walk_at "b5") => `(tactic| exact fun _ _ _ _ _ _ us hl => by obtain ⟨u0, u1, u2, u3, u4, e⟩ := zLz hl; subst e; rfl)
local macro_rules | `(tactic| walk_at "b6") => `(tactic| exact fun _ _ _ _ _ _ us hl => by obtain ⟨u0, u1, u2, u3, u4, u5, e⟩ := zLs hl; subst e; rfl)
local macro_rules | `(tactic| walk_at "b7") => `(tactic| exact fun _ _ _ _ _ _ us hl => by obtain ⟨u0, u1, u2, u3, u4, u5, u6, e⟩ := zLt hl; subst e; rfl)
theorem zK4 {K:W.Frag} {h:Heap} {mg:Str->Option Value} (X:K.In h) (G:h.Ns mainGlobals mg)
  {r_Shelf:Addr} (aC_Shelf:W.nsIn K mainGlobals "Shelf" = some (some (.ref r_Shelf)))
  {f0 f1 f2 f3 f4 f5 f6 f7 f8 f9 f10 f11 f12 f13 f14 f15 f16 f17 f18 f19 f20 f21 f22 f23 f24 f25 f26 f27 f28 f29 f30 f31 f32 f33 f34 f35 f36 f37 f38 f39 f40 f41 f42 f43 f44 f45 f46 f47 f48 f49 f50 f51 f52 f53:Addr}
  (F0:FG K f0 "is_key" zAW)
  (F1:FG K f1 "checked" JD)
  (F2:FG K f2 "is_part" W7)
  (F3:FG K f3 "are_parts" Zv)
  (F4:FG K f4 "is_number" Zj)
  (F5:FG K f5 "is_size" JM)
  (F6:FG K f6 "room" zEQ)
  (F7:FG K f7 "stride" zAh)
  (F8:FG K f8 "probe" zBv)
  (F9:FG K f9 "stamp" zCL)
  (F10:FG K f10 "text_stamp" ZD)
  (F11:FG K f11 "tuple_stamp" Y0)
  (F12:FG K f12 "cells_of" WL)
  (F13:FG K f13 "first_empty" Yz)
  (F14:FG K f14 "paper" zB3)
  (F15:FG K f15 "is_end" zAF)
  (F16:FG K f16 "place_of" WO)
  {T17:Addr} {oT17:Value} {dT17:Option Addr} {nT17:Nat} {sT17:Array (Option Value)}
  {u_H__init___0:Tok}
  (F17:FM K f17 r_Shelf "__init__" "Shelf.__init__" Ze (.ref T17))
  (L17:K.lookup T17=some ⟨oT17,dT17,.seq #[.int 8 u_H__init___0] nT17,sT17⟩)
  (F18:FM K f18 r_Shelf "lay_out" "Shelf.lay_out" WK .none)
  (F19:FM K f19 r_Shelf "put" "Shelf.put" zEW .none)
  (F20:FM K f20 r_Shelf "has" "Shelf.has" zEf .none)
  (F21:FM K f21 r_Shelf "take" "Shelf.take" zCU .none)
  (F22:FM K f22 r_Shelf "take_last" "Shelf.take_last" ZG .none)
  (F23:FM K f23 r_Shelf "many" "Shelf.many" zFZ .none)
  (F24:FM K f24 r_Shelf "pairs" "Shelf.pairs" zAU .none)
  (F25:FM K f25 r_Shelf "ahead" "Shelf.ahead" zAY .none)
  (F26:FM K f26 r_Shelf "form" "Shelf.form" zCH .none)
  (F27:FM K f27 r_Shelf "entries" "Shelf.entries" WM .none)
  (F28:FM K f28 r_Shelf "place" "Shelf.place" zAc .none)
  (F29:FM K f29 r_Shelf "sure_place" "Shelf.sure_place" Yy .none)
  (F30:FM K f30 r_Shelf "come" "Shelf.come" zB0 .none)
  (F31:FM K f31 r_Shelf "make_room" "Shelf.make_room" ZE .none)
  (F32:FM K f32 r_Shelf "write" "Shelf.write" zAB .none)
  (F33:FG K f33 "in_form" JJ)
  (F34:FG K f34 "numbers_fit" Y1)
  (F35:FG K f35 "no_two_alike" Yl)
  (F36:FG K f36 "each_in_one_cell" YG)
  (F37:FG K f37 "each_found" Zc)
  (F38:FG K f38 "places_of_keys" YY)
  (F39:FG K f39 "_law_cell_at" WY)
  (F40:FG K f40 "_law_whole" zAV)
  (F41:FG K f41 "_law_text" zBx)
  (F42:FG K f42 "_law_stamp" J7)
  (F43:FG K f43 "_law_step" zB7)
  (F44:FG K f44 "_law_leaf" zCS)
  (F45:FG K f45 "_law_any_key" WR)
  (F46:FG K f46 "_law_key" zEn)
  (F47:FG K f47 "_law_first_bare" Yw)
  (F48:FG K f48 "_law_came" zCD)
  (F49:FG K f49 "_law_walked" JH)
  (F50:FG K f50 "_law_second" JF)
  (F51:FG K f51 "_law_laid" zCj)
  (F52:FG K f52 "_law_is_form" WX)
  (F53:FG K f53 "law" Wl)
  (y_paper_slots:W.nsIn K mainGlobals "paper_slots" = some (some (.ref f14)))
  (pg_Shelf:W.plainGet K r_Shelf Str.empty=true) (hd_Shelf:PySem.W.hasDictIn K r_Shelf=true) (po_Shelf:PySem.W.plainOver K r_Shelf=true) (sa_Shelf:W.findIn K (.ref r_Shelf) "__setattr__" = some (some (.builtin "object.__setattr__"))) (mk_Shelf:PySem.W.makesIn K r_Shelf=true) (kc_Shelf:W.keepIn K (.ref r_Shelf)=true)
  (n_Hcame:W.findIn K (.ref r_Shelf) "came" = some none)
  (n_Hcells:W.findIn K (.ref r_Shelf) "cells" = some none)
  (n_Hcomings:W.findIn K (.ref r_Shelf) "comings" = some none)
  (n_Hheld:W.findIn K (.ref r_Shelf) "held" = some none)
  (n_Hmoved:W.findIn K (.ref r_Shelf) "moved" = some none)
  (n_Hrow:W.findIn K (.ref r_Shelf) "row" = some none)
  (n_Hsize:W.findIn K (.ref r_Shelf) "size" = some none)
  (n_Htidyings:W.findIn K (.ref r_Shelf) "tidyings" = some none)
  (n_Hwent:W.findIn K (.ref r_Shelf) "went" = some none)
  (z_all:W.nsIn K mainGlobals "all" = some none)
  (z_bool:W.nsIn K mainGlobals "bool" = some none)
  (z_enumerate:W.nsIn K mainGlobals "enumerate" = some none)
  (z_int:W.nsIn K mainGlobals "int" = some none)
  (z_isinstance:W.nsIn K mainGlobals "isinstance" = some none)
  (z_len:W.nsIn K mainGlobals "len" = some none)
  (z_list:W.nsIn K mainGlobals "list" = some none)
  (z_ord:W.nsIn K mainGlobals "ord" = some none)
  (z_range:W.nsIn K mainGlobals "range" = some none)
  (z_reversed:W.nsIn K mainGlobals "reversed" = some none)
  (z_set:W.nsIn K mainGlobals "set" = some none)
  (z_sorted:W.nsIn K mainGlobals "sorted" = some none)
  (z_str:W.nsIn K mainGlobals "str" = some none)
  (z_tuple:W.nsIn K mainGlobals "tuple" = some none)
  (z_zip:W.nsIn K mainGlobals "zip" = some none)
  {t_DEEPEST:Tok} (v_DEEPEST:W.nsIn K mainGlobals "DEEPEST" = some (some (.int 3 (t_DEEPEST+1))))
  {t_EMPTY:Tok} (v_EMPTY:W.nsIn K mainGlobals "EMPTY" = some (some (.int (-1) (t_EMPTY+1))))
  {t_GONE:Tok} (v_GONE:W.nsIn K mainGlobals "GONE" = some (some (.int (-2) (t_GONE+1))))
  {t_GREATEST:Tok} (v_GREATEST:W.nsIn K mainGlobals "GREATEST" = some (some (.int 4096 (t_GREATEST+1))))
  {t_LEAST:Tok} (v_LEAST:W.nsIn K mainGlobals "LEAST" = some (some (.int 8 (t_LEAST+1))))
  {t_MOST_PARTS:Tok} (v_MOST_PARTS:W.nsIn K mainGlobals "MOST_PARTS" = some (some (.int 6 (t_MOST_PARTS+1))))
  {t_MOST_SIGNS:Tok} (v_MOST_SIGNS:W.nsIn K mainGlobals "MOST_SIGNS" = some (some (.int 60 (t_MOST_SIGNS+1))))
  {t_TURN:Tok} (v_TURN:W.nsIn K mainGlobals "TURN" = some (some (.int 2147483647 (t_TURN+1))))
  {r_Full N_Full:Addr} {nm_Full q_Full:Str} {bs_Full bm_Full:List Value} {hd_Full:Bool} {sn_Full:List Str} {sub_Full:List Value} {ab_Full:Bool} {col_Full:Option Bool} {dd_Full:Option Addr} {k0_Full k1_Full k2_Full k3_Full k5_Full:Option Value} {id_Full:String}
  (g_Full:W.nsIn K mainGlobals "Full" = some (some (.ref r_Full))) (o_Full:K.lookup r_Full=some (excClassObj nm_Full q_Full r_Full N_Full bs_Full bm_Full hd_Full sn_Full sub_Full ab_Full col_Full dd_Full k0_Full k1_Full k2_Full k3_Full k5_Full id_Full))
  (e_Full:PySem.W.excIn K r_Full VE "ValueError.__new__" = true)
  (y_Full:PySem.W.typeIn K (.ref r_Full)=some (.type "type")) (mo_Full:W.mroIn K r_Full (.type "object")=some true)
  {r_Lacking N_Lacking:Addr} {nm_Lacking q_Lacking:Str} {bs_Lacking bm_Lacking:List Value} {hd_Lacking:Bool} {sn_Lacking:List Str} {sub_Lacking:List Value} {ab_Lacking:Bool} {col_Lacking:Option Bool} {dd_Lacking:Option Addr} {k0_Lacking k1_Lacking k2_Lacking k3_Lacking k5_Lacking:Option Value} {id_Lacking:String}
  (g_Lacking:W.nsIn K mainGlobals "Lacking" = some (some (.ref r_Lacking))) (o_Lacking:K.lookup r_Lacking=some (excClassObj nm_Lacking q_Lacking r_Lacking N_Lacking bs_Lacking bm_Lacking hd_Lacking sn_Lacking sub_Lacking ab_Lacking col_Lacking dd_Lacking k0_Lacking k1_Lacking k2_Lacking k3_Lacking k5_Lacking id_Lacking))
  (e_Lacking:PySem.W.excIn K r_Lacking VE "ValueError.__new__" = true)
  (y_Lacking:PySem.W.typeIn K (.ref r_Lacking)=some (.type "type")) (mo_Lacking:W.mroIn K r_Lacking (.type "object")=some true)
  (ga_Full:W.findIn K (.ref r_Full) "__getattribute__" = some (some (.builtin "BaseException.__getattribute__"))) (gh_Full:W.findIn K (.ref r_Full) "__getattr__" = some none) (fc_Full:W.findIn K (.ref r_Full) "__class__" = some (some (.builtin "object.__class__")))
  (sg_Full:PySem.W.specialIn K (.builtin "object.__class__") "__get__" = some (some (.builtin "getset_descriptor.__get__"))) (tk_Full:PySem.W.takesIn K (.builtin "object.__class__")=some true) (mb_Full:W.mroIn K r_Full (.type "BaseException")=some true) (vt_Full:W.mroIn K r_Full (.type "ValueError")=some true)
  (su_Full_Full:W.mroIn K r_Full (.ref r_Full)=some true)
  (su_Full_Lacking:W.mroIn K r_Full (.ref r_Lacking)=some false)
  (ga_Lacking:W.findIn K (.ref r_Lacking) "__getattribute__" = some (some (.builtin "BaseException.__getattribute__"))) (gh_Lacking:W.findIn K (.ref r_Lacking) "__getattr__" = some none) (fc_Lacking:W.findIn K (.ref r_Lacking) "__class__" = some (some (.builtin "object.__class__")))
  (sg_Lacking:PySem.W.specialIn K (.builtin "object.__class__") "__get__" = some (some (.builtin "getset_descriptor.__get__"))) (tk_Lacking:PySem.W.takesIn K (.builtin "object.__class__")=some true) (mb_Lacking:W.mroIn K r_Lacking (.type "BaseException")=some true) (vt_Lacking:W.mroIn K r_Lacking (.type "ValueError")=some true)
  (su_Lacking_Full:W.mroIn K r_Lacking (.ref r_Full)=some false)
  (su_Lacking_Lacking:W.mroIn K r_Lacking (.ref r_Lacking)=some true)
  : ∃ a:Ad,Txt K mg a/\a.f_law=f53/\a.d_law=W.fnOf "law" "law" (YA Wl) (Qr Wl) (QI Wl) .none F53.kV F53.dc F53.pm F53.an F53.cd F53.ct:=by
 have m {n:Str} {v:Value} (e:W.nsIn K mainGlobals n=some (some v)):=PySem.W.mg_of X G e
 have z {n:Str} (e:W.nsIn K mainGlobals n=some none):=PySem.W.mg_none_of X G e
 exact⟨⟨f0,F0.d,f1,F1.d,f2,F2.d,f3,F3.d,f4,F4.d,f5,F5.d,f6,F6.d,f7,F7.d,f8,F8.d,f9,F9.d,f10,F10.d,f11,F11.d,f12,F12.d,f13,F13.d,f14,F14.d,f15,F15.d,f16,F16.d,f17,F17.d,f18,F18.d,f19,F19.d,f20,F20.d,f21,F21.d,f22,F22.d,f23,F23.d,f24,F24.d,f25,F25.d,f26,F26.d,f27,F27.d,f28,F28.d,f29,F29.d,f30,F30.d,f31,F31.d,f32,F32.d,f33,F33.d,f34,F34.d,f35,F35.d,f36,F36.d,f37,F37.d,f38,F38.d,f39,F39.d,f40,F40.d,f41,F41.d,f42,F42.d,f43,F43.d,f44,F44.d,f45,F45.d,f46,F46.d,f47,F47.d,f48,F48.d,f49,F49.d,f50,F50.d,f51,F51.d,f52,F52.d,f53,F53.d,t_DEEPEST,t_EMPTY,t_GONE,t_GREATEST,t_LEAST,t_MOST_PARTS,t_MOST_SIGNS,t_TURN,r_Full,r_Lacking,r_Shelf,u_H__init___0⟩,⟨F0.fn,
  F0.fn.binds (by walk_at "b1"),
  m F0.a,
  F1.fn,
  F1.fn.binds (by walk_at "b1"),
  m F1.a,
  F2.fn,
  F2.fn.binds (by walk_at "b2"),
  m F2.a,
  F3.fn,
  F3.fn.binds (by walk_at "b2"),
  m F3.a,
  F4.fn,
  F4.fn.binds (by walk_at "b1"),
  m F4.a,
  F5.fn,
  F5.fn.binds (by walk_at "b1"),
  m F5.a,
  F6.fn,
  F6.fn.binds (by walk_at "b1"),
  m F6.a,
  F7.fn,
  F7.fn.binds (by walk_at "b1"),
  m F7.a,
  F8.fn,
  F8.fn.binds (by walk_at "b3"),
  m F8.a,
  F9.fn,
  F9.fn.binds (by walk_at "b1"),
  m F9.a,
  F10.fn,
  F10.fn.binds (by walk_at "b1"),
  m F10.a,
  F11.fn,
  F11.fn.binds (by walk_at "b1"),
  m F11.a,
  F12.fn,
  F12.fn.binds (by walk_at "b2"),
  m F12.a,
  F13.fn,
  F13.fn.binds (by walk_at "b2"),
  m F13.a,
  F14.fn,
  F14.fn.binds (by walk_at "b3"),
  m F14.a,
  F15.fn,
  F15.fn.binds (by walk_at "b3"),
  m F15.a,
  F16.fn,
  F16.fn.binds (by walk_at "b3"),
  m F16.a,
  F17.fnD L17,
  FunD.bindsN (ps:=Ya) [] 2 rfl (F17.fnD L17) fun _ _ _ _ _ _ _ us hl=>by obtain⟨u0,u1,rfl⟩:=zKB hl;exact⟨_,rfl,rfl⟩,
  FunD.bindsN (ps:=Ya) [.int 8 u_H__init___0] 1 rfl (F17.fnD L17) fun _ _ _ _ _ _ _ us hl=>by obtain⟨u0,rfl⟩:=zKP hl;exact⟨_,rfl,rfl⟩,
  ⟨F17.a,F17.i,F17.k⟩,
  F18.fn,
  F18.fn.binds (by walk_at "b5"),
  ⟨F18.a,F18.i,F18.k⟩,
  F19.fn,
  F19.fn.binds (by walk_at "b3"),
  ⟨F19.a,F19.i,F19.k⟩,
  F20.fn,
  F20.fn.binds (by walk_at "b2"),
  ⟨F20.a,F20.i,F20.k⟩,
  F21.fn,
  F21.fn.binds (by walk_at "b2"),
  ⟨F21.a,F21.i,F21.k⟩,
  F22.fn,
  F22.fn.binds (by walk_at "b1"),
  ⟨F22.a,F22.i,F22.k⟩,
  F23.fn,
  F23.fn.binds (by walk_at "b1"),
  ⟨F23.a,F23.i,F23.k⟩,
  F24.fn,
  F24.fn.binds (by walk_at "b1"),
  ⟨F24.a,F24.i,F24.k⟩,
  F25.fn,
  F25.fn.binds (by walk_at "b2"),
  ⟨F25.a,F25.i,F25.k⟩,
  F26.fn,
  F26.fn.binds (by walk_at "b1"),
  ⟨F26.a,F26.i,F26.k⟩,
  F27.fn,
  F27.fn.binds (by walk_at "b1"),
  ⟨F27.a,F27.i,F27.k⟩,
  F28.fn,
  F28.fn.binds (by walk_at "b2"),
  ⟨F28.a,F28.i,F28.k⟩,
  F29.fn,
  F29.fn.binds (by walk_at "b2"),
  ⟨F29.a,F29.i,F29.k⟩,
  F30.fn,
  F30.fn.binds (by walk_at "b3"),
  ⟨F30.a,F30.i,F30.k⟩,
  F31.fn,
  F31.fn.binds (by walk_at "b1"),
  ⟨F31.a,F31.i,F31.k⟩,
  F32.fn,
  F32.fn.binds (by walk_at "b3"),
  ⟨F32.a,F32.i,F32.k⟩,
  F33.fn,
  F33.fn.binds (by walk_at "b2"),
  m F33.a,
  F34.fn,
  F34.fn.binds (by walk_at "b2"),
  m F34.a,
  F35.fn,
  F35.fn.binds (by walk_at "b1"),
  m F35.a,
  F36.fn,
  F36.fn.binds (by walk_at "b2"),
  m F36.a,
  F37.fn,
  F37.fn.binds (by walk_at "b2"),
  m F37.a,
  F38.fn,
  F38.fn.binds (by walk_at "b1"),
  m F38.a,
  F39.fn,
  F39.fn.binds (by walk_at "b2"),
  m F39.a,
  F40.fn,
  F40.fn.binds (by walk_at "b1"),
  m F40.a,
  F41.fn,
  F41.fn.binds (by walk_at "b2"),
  m F41.a,
  F42.fn,
  F42.fn.binds (by walk_at "b1"),
  m F42.a,
  F43.fn,
  F43.fn.binds (by walk_at "b1"),
  m F43.a,
  F44.fn,
  F44.fn.binds (by walk_at "b1"),
  m F44.a,
  F45.fn,
  F45.fn.binds (by walk_at "b1"),
  m F45.a,
  F46.fn,
  F46.fn.binds (by walk_at "b3"),
  m F46.a,
  F47.fn,
  F47.fn.binds (by walk_at "b2"),
  m F47.a,
  F48.fn,
  F48.fn.binds (by walk_at "b3"),
  m F48.a,
  F49.fn,
  F49.fn.binds (by walk_at "b5"),
  m F49.a,
  F50.fn,
  F50.fn.binds (by walk_at "b4"),
  m F50.a,
  F51.fn,
  F51.fn.binds (by walk_at "b3"),
  m F51.a,
  F52.fn,
  F52.fn.binds (by walk_at "b2"),
  m F52.a,
  F53.fn,
  F53.fn.binds (by walk_at "b1"),
  m F53.a,
  m y_paper_slots,
  ⟨pg_Shelf,hd_Shelf,po_Shelf,sa_Shelf⟩,
  ⟨mk_Shelf,F17.a,F17.i,kc_Shelf⟩,
  m aC_Shelf,
  n_Hcame,
  n_Hcells,
  n_Hcomings,
  n_Hheld,
  n_Hmoved,
  n_Hrow,
  n_Hsize,
  n_Htidyings,
  n_Hwent,
  z z_all,
  z z_bool,
  z z_enumerate,
  z z_int,
  z z_isinstance,
  z z_len,
  z z_list,
  z z_ord,
  z z_range,
  z z_reversed,
  z z_set,
  z z_sorted,
  z z_str,
  z z_tuple,
  z z_zip,
  m v_DEEPEST,
  m v_EMPTY,
  m v_GONE,
  m v_GREATEST,
  m v_LEAST,
  m v_MOST_PARTS,
  m v_MOST_SIGNS,
  m v_TURN,
  m g_Full,
  ⟨bm_Full,e_Full,_,_,_,_,_,_,_,_,_,_,_,_,_,_,_,_,o_Full⟩,
  m g_Lacking,
  ⟨bm_Lacking,e_Lacking,_,_,_,_,_,_,_,_,_,_,_,_,_,_,_,_,o_Lacking⟩,
  ⟨ga_Full,gh_Full,fc_Full,sg_Full,tk_Full,mo_Full,mb_Full⟩,
  zHx (by decide +kernel) vt_Full,
  Jv y_Full mo_Full su_Full_Full su_Full_Full,
  su_Full_Full,
  Jv y_Lacking mo_Lacking su_Full_Lacking su_Full_Full,
  su_Full_Lacking,
  ⟨ga_Lacking,gh_Lacking,fc_Lacking,sg_Lacking,tk_Lacking,mo_Lacking,mb_Lacking⟩,
  zHx (by decide +kernel) vt_Lacking,
  Jv y_Full mo_Full su_Lacking_Full su_Lacking_Lacking,
  su_Lacking_Full,
  Jv y_Lacking mo_Lacking su_Lacking_Lacking su_Lacking_Lacking,
  su_Lacking_Lacking⟩,rfl,rfl⟩
theorem zKp {l:PySem.W.OpenLaw} {w:World} {K:W.Frag} {h:Heap} {mg:Str->Option Value} {fa f_law:Addr} (X:K.In h) (G:h.Ns mainGlobals mg) (hfa:mg "law" = some (.ref fa)) {kV dc pm cd ct:Value} {an:Option Addr}
  (T:∃ a:Ad,Txt K mg a/\a.f_law=f_law/\a.d_law=W.fnOf "law" "law" (YA Wl) (Qr Wl) (QI Wl) .none kV dc pm an cd ct) :
  ∃ fd:FuncData,(∀ (s:Shared) (v:Value),BindsTo s fd ⟨[v],[]⟩ [("_law_script",v)])/\∀ base:Heap,K.In base->base.Ns mainGlobals mg->FnOk l.prog w K mg base CX0 17 fa fd ["_law_script"] (zDG K):=by
 obtain⟨a,T,e1,e2⟩:=T
 have e:=hfa.symm.trans T.m_law
 cases e
 refine⟨a.d_law,?_,fun base _ _=>zLR T⟩
 rw[e2]
 exact fun s v=>.of_eq rfl
theorem zMB {l:PySem.W.OpenLaw} {q:Program} {loose:List Str} {XP:(Str->Option Value)->Heap->Prop} {as₀:List Addr} {m t:Nat} {d:DefRec} {K:Params->W.Frag} (hn:l.most=some 63) (hdf:d.params.defaults=[])
  (eK:∀ P,as₀=(K P).map (·.1)) (ht:1<=t)
  (F:∀ (w:World) (mg:Str->Option Value) (fa:Addr) (h:Heap),(K w.params).In h->h.Ns mainGlobals mg->mg d.name=some (.ref fa) ->
   ∃ fd:FuncData,(∀ (s:Shared) (u:Value),BindsTo s fd ⟨[u],[]⟩ [("_law_script",u)])/\∀ base:Heap,(K w.params).In base->base.Ns mainGlobals mg->FnOk l.prog w (K w.params) mg base CX0 17 fa fd ["_law_script"] (zDG (K w.params))) :
  PySem.W.WalkX q loose XP (PySem.W.X.obsZ as₀) (PySem.W.X.valZ K m t) l.row.toRowW d [] (fun f vs=>PySem.call f vs) :=
 L2.zH9 (n:=63) (k:=17) (x := "_law_script") (CX:=fun _=>CX0) (sp:=fun w=>zDG (K w.params)) hn (by decide) hdf ⟨rfl,by decide,by decide⟩ eK ht F (fun _ _ a ns hl _ _ hS=>⟨a,ns,rfl,hS,hl,fun _=>rfl⟩) fun _ _ _ _ _ z=>z
end My
-- names taken ahead, so that the head makes no second copy of these large constants (their proofs would take most of the compiled file; its limit is 64 MiB)
namespace PySem.W.Fast
def tw10715717802742922607:=()
def tw1612322966960626390:=()
def tw10594770137143988331:=()
def tw13102337762350286437:=()
def tw4616681726033457230:=()
def tw1115464290322782344:=()
def tw14633344495558978232:=()
def tw3946983452368857758:=()
def tw2829054986911003554:=()
def tw3293665543613504590:=()
def tw7059679262989084253:=()
def tw15843407864750052035:=()
def tw8753705570734540062:=()
def tw8499864375858500421:=()
def tw9112856703043022252:=()
def tw1571996046849942599:=()
def tw18294670490144114764:=()
def tw11792304560654232933:=()
def tw14500520185019686086:=()
def tw10541276985093082821:=()
def tw17974505096135829065:=()
def tw3742956030251184334:=()
def tw4900434517500738627:=()
def tw16608813271227366616:=()
def tw11050326406696602436:=()
def tw17507477044084586027:=()
def tw2697711996012754571:=()
def tw1554323473334348279:=()
def tw17103793358843561364:=()
def tw6092028798724540704:=()
def tw5424443366615408283:=()
def tw15493271537524297111:=()
def tw10651044340768249075:=()
def tw11966213539693711371:=()
def tw576214578212536585:=()
def tw12402192659040039760:=()
def tw17311854943020974150:=()
def tw2414181549133411545:=()
def tw2603342220577577845:=()
def tw9413989546203201930:=()
def tw5275898109465310508:=()
def tw11357296797706919825:=()
def tw16784559652688377117:=()
def tw6293827590117285530:=()
def tw12580840287229093053:=()
def tw11692936511651651777:=()
def tw18049888395508075849:=()
def tw2831484491505462301:=()
def tw2841114651039146850:=()
def tw13110850203927364238:=()
def tw12361262295580079531:=()
def tw3988936386863551869:=()
def tw1555762833818529658:=()
def tw1439583579147946028:=()
def tw12032069849721654843:=()
def tw14660817170666441918:=()
def tw11798137941402973705:=()
def tw13702936881748162067:=()
def tw4890084514732752228:=()
def tw10243050639493187176:=()
def tw14376078385186636230:=()
def tw17415189201497522083:=()
def tw11693522690279391920:=()
def tw18377428897502953814:=()
def tw1271156952329940863:=()
def tw5181671451711500079:=()
def tw15829429792324325187:=()
def tw6431168009890177564:=()
def tw1972667764073708739:=()
def tw4265724084158669514:=()
def tw1427973426372648625:=()
def tw18272204635753038295:=()
def tw3474414928308733204:=()
def tw14080450811866015813:=()
def tw2033872090452925315:=()
def tw14346338291772850710:=()
def tw7079942514057051583:=()
def tw7396815812057691860:=()
def tw12431995958095213293:=()
def tw13728731953664468318:=()
def tw15765318542457725539:=()
def tw15817005703602955349:=()
def tw16154522071527326590:=()
def tw17453920115984669471:=()
def tw3765458471366009267:=()
def tw14891151219871768686:=()
def tw14978145234956358826:=()
def tw3495491146969588020:=()
def tw6586669281432886894:=()
def tw3581255504459862509:=()
def tw12234004200933160789:=()
def tw2189458790894303002:=()
def tw16042669773716606354:=()
def tw12149285990379317418:=()
def tw15255584502051905033:=()
def tw14909831295258775904:=()
def tw18078441967993723462:=()
def tw14712751029477180975:=()
def tw1692325562322694414:=()
def tw1671697573952970964:=()
def tw10997709240042743863:=()
def tw9008107034964434617:=()
def tw8520547912554116313:=()
def tw13528751507004383004:=()
def tw10037556007424096267:=()
def tw6606271489865648445:=()
def tw8086277252032366964:=()
def tw12585839273822320161:=()
def tw9685789977578559815:=()
def tw16082900842106737570:=()
def tw14737109010538922523:=()
def tw7011787912483228194:=()
def tw128225503671394717:=()
def tw384655688898330531:=()
def tw773945473640510336:=()
def tw11114603238476583886:=()
def tw6783919839242044776:=()
def tw10973636496433623868:=()
def tw12142571438234223613:=()
def tw4284188571039326421:=()
def tw5299956291714019190:=()
def tw5854380016082746072:=()
def tw6383858672006768401:=()
def tw13662757993862934317:=()
def tw15117477288769040688:=()
def tw13504922514250854306:=()
def tw1143615063422601651:=()
def tw5185796051847995467:=()
def tw7455183737091665765:=()
def tw2923105836161793299:=()
def tw15969777315165191148:=()
def tw15517383069614093468:=()
def tw938103748405739903:=()
def tw5521567453566576930:=()
def tw2885549623417860094:=()
def tw3307952678952146884:=()
def tw6745382897319520650:=()
def tw14602476318654733534:=()
def tw7525796506532050063:=()
def tw4598446066374412073:=()
def tw4964908579158952164:=()
def tw6739504387984314573:=()
def tw1287687913995448474:=()
def tw30242417483960116:=()
def tw14696128632692306308:=()
def tw11652967434127367316:=()
def tw3483301172854981050:=()
def tw12933976306496518438:=()
def tw4391006621497171799:=()
def tw5509006834423885211:=()
def tw10508883974771379619:=()
def tw4474613740988352157:=()
def tw5155874393273456033:=()
def tw4636065018802142075:=()
def tw11104797777761859801:=()
def tw11881946459200262628:=()
def tw2011704130926431436:=()
def tw13131825658856979103:=()
def tw7204222042303801940:=()
def tw13900809940703862925:=()
def tw5455300761536309521:=()
def tw17104092646642980539:=()
def tw15294526720866672960:=()
def tw4607638289716952354:=()
def tw1527657389974509369:=()
def tw16843268090389284003:=()
def tw13304588977608757373:=()
def tw3024511647131851203:=()
def tw5891581619538880811:=()
def tw8987541465260042295:=()
def tw13912276527526984995:=()
def tw8346387688838545786:=()
def tw15933152917495448166:=()
def tw12802616041618749142:=()
def tw11490324394359977323:=()
def tw13234856330574097046:=()
def tw12823556232128638977:=()
def tw8491215986711062224:=()
def tw10596880644177134941:=()
def tw465349479891833064:=()
def tw12288350388297308290:=()
def tw6502566080118798228:=()
def tw6242360730653167205:=()
def tw1676410182400428951:=()
def tw12489507845833720158:=()
def tw827916846543924924:=()
def tw3959525515084048897:=()
def tw16461993605800677537:=()
def tw16979513547108799077:=()
def tw7031539791421299291:=()
def tw11035131593051133533:=()
def tw11404464667216979820:=()
def tw7744459229646831548:=()
def tw817859690543308712:=()
def tw13010756323919371142:=()
def tw824835300688203601:=()
def tw14153472395127354364:=()
def tw6711371802867703722:=()
def tw17654182091522026304:=()
def tw2462580204845708738:=()
def tw17353928694732115345:=()
def tw9340342494474490642:=()
def tw17689340005207233527:=()
def tw1164639790540921929:=()
def tw979125357818558578:=()
def tw8162301191443957217:=()
def tw11849438145264876965:=()
def tw4278352302608297991:=()
def tw5234336701408222358:=()
def tw16313758651539203550:=()
def tw15547801975999756451:=()
def tw4254903584689885213:=()
def tw9191850144204128300:=()
def tw9711378090779627606:=()
def tw10686472662517181430:=()
def tw7935620277188994276:=()
def tw4490860389013931438:=()
def tw12425471954346661999:=()
def tw16934333520901766186:=()
def tw3319877950574797503:=()
def tw16877879159583474067:=()
def tw7197323791943371143:=()
def tw4315504814135332355:=()
def tw1213279038867546819:=()
def tw15653399679097613258:=()
def tw13919691695937306278:=()
def tw11899679448772813582:=()
def tw13104999174992373471:=()
def tw15227531761132214907:=()
def tw5860726512024285628:=()
def tw14002588289935846350:=()
def tw5014673951308072651:=()
def tw2593210244741004613:=()
def tw15572901590237446527:=()
def tw4925423375664945065:=()
def tw15938938478071850632:=()
def tw7336770916898975113:=()
def tw15932388753439048911:=()
def tw2846205167910133199:=()
def tw6141373793944329231:=()
def tw13134087495450479734:=()
def tw16414988021806964663:=()
def tw14562484327768380354:=()
def tw8091263149749095355:=()
def tw5724037287962446544:=()
def tw15669581172703853500:=()
def tw5762301334924198367:=()
def tw6015808661665780858:=()
def tw12030773748573972031:=()
def tw15386172364723078740:=()
def tw4333842866817419819:=()
def tw14695776131450867614:=()
def tw516558775873385628:=()
def tw14721409392212606286:=()
def tw16469900789894253522:=()
def tw7946059862467457667:=()
def tw6345716316840497918:=()
def tw9500753704036660728:=()
def tw17311943233606729665:=()
def tw1518772523726272025:=()
def tw10188442750591324525:=()
def tw9232723000203902806:=()
def tw9548455936909199425:=()
def tw7914684577368522293:=()
def tw15366597766135661079:=()
def tw3890318931221156348:=()
def tw15297961557077980490:=()
def tw9006353856562229679:=()
def tw8944322316552201546:=()
def tw14917476483126017410:=()
def tw15121477812249417301:=()
def tw11977499981559217758:=()
def tw10998629206232046688:=()
def tw11499814050245796468:=()
def tw1494458323983579713:=()
def tw5954295858371464728:=()
def tw9337635160775081627:=()
def tw14389080297159324117:=()
def tw3335134348388409311:=()
def tw8672521952099096361:=()
def tw6147240080974378262:=()
def tw4702695600752037965:=()
def tw15432092138273029775:=()
def tw475378264289447090:=()
def tw2995778569811256495:=()
def tw7889373203834933431:=()
def tw7389139480608907725:=()
def tw10603138747034124051:=()
def tw11487181493233286698:=()
def tw14241655740655949368:=()
def tw1306976089512340000:=()
def tw4746547480338811745:=()
def tw1796053442986611001:=()
def tw12128942161175372800:=()
def tw16698376650905522281:=()
def tw10180960308059095427:=()
def tw3329500723089601942:=()
def tw14328987381971286664:=()
def tw7318465291727132364:=()
def tw17102604627971191147:=()
end PySem.W.Fast
open PySem PySem.W PyProof.Rows
set_option maxRecDepth 100000 in
set_option maxHeartbeats 0 in
theorem PySem.Challenge.cw_slotbook_k45_whole_cells_without_history_holds : PySem.Challenge.rw_slotbook_k45_whole_cells_without_history.Holds := by
 w_on;o_law;z_head;(case hw=>w_witness2)
 k_fill
 refine My.zMB (l:=PySem.Challenge.rw_slotbook_k45_whole_cells_without_history) rfl rfl (fun _=>rfl) (by decide) ?F
 case F =>
  intro w mg fa h KX G hmg
  refine' My.zKp KX G hmg (My.zK4 KX G ?aC_Shelf (.mk (.mk ?l0 ?c0 ?k0) ?a0) (.mk (.mk ?l1 ?c1 ?k1) ?a1) (.mk (.mk ?l2 ?c2 ?k2) ?a2) (.mk (.mk ?l3 ?c3 ?k3) ?a3) (.mk (.mk ?l4 ?c4 ?k4) ?a4) (.mk (.mk ?l5 ?c5 ?k5) ?a5) (.mk (.mk ?l6 ?c6 ?k6) ?a6) (.mk (.mk ?l7 ?c7 ?k7) ?a7) (.mk (.mk ?l8 ?c8 ?k8) ?a8) (.mk (.mk ?l9 ?c9 ?k9) ?a9) (.mk (.mk ?l10 ?c10 ?k10) ?a10) (.mk (.mk ?l11 ?c11 ?k11) ?a11) (.mk (.mk ?l12 ?c12 ?k12) ?a12) (.mk (.mk ?l13 ?c13 ?k13) ?a13) (.mk (.mk ?l14 ?c14 ?k14) ?a14) (.mk (.mk ?l15 ?c15 ?k15) ?a15) (.mk (.mk ?l16 ?c16 ?k16) ?a16) (.mk (.mk ?l17 ?c17 ?k17) ?a17 ?i17) ?L17 (.mk (.mk ?l18 ?c18 ?k18) ?a18 ?i18) (.mk (.mk ?l19 ?c19 ?k19) ?a19 ?i19) (.mk (.mk ?l20 ?c20 ?k20) ?a20 ?i20) (.mk (.mk ?l21 ?c21 ?k21) ?a21 ?i21) (.mk (.mk ?l22 ?c22 ?k22) ?a22 ?i22) (.mk (.mk ?l23 ?c23 ?k23) ?a23 ?i23) (.mk (.mk ?l24 ?c24 ?k24) ?a24 ?i24) (.mk (.mk ?l25 ?c25 ?k25) ?a25 ?i25) (.mk (.mk ?l26 ?c26 ?k26) ?a26 ?i26) (.mk (.mk ?l27 ?c27 ?k27) ?a27 ?i27) (.mk (.mk ?l28 ?c28 ?k28) ?a28 ?i28) (.mk (.mk ?l29 ?c29 ?k29) ?a29 ?i29) (.mk (.mk ?l30 ?c30 ?k30) ?a30 ?i30) (.mk (.mk ?l31 ?c31 ?k31) ?a31 ?i31) (.mk (.mk ?l32 ?c32 ?k32) ?a32 ?i32) (.mk (.mk ?l33 ?c33 ?k33) ?a33) (.mk (.mk ?l34 ?c34 ?k34) ?a34) (.mk (.mk ?l35 ?c35 ?k35) ?a35) (.mk (.mk ?l36 ?c36 ?k36) ?a36) (.mk (.mk ?l37 ?c37 ?k37) ?a37) (.mk (.mk ?l38 ?c38 ?k38) ?a38) (.mk (.mk ?l39 ?c39 ?k39) ?a39) (.mk (.mk ?l40 ?c40 ?k40) ?a40) (.mk (.mk ?l41 ?c41 ?k41) ?a41) (.mk (.mk ?l42 ?c42 ?k42) ?a42) (.mk (.mk ?l43 ?c43 ?k43) ?a43) (.mk (.mk ?l44 ?c44 ?k44) ?a44) (.mk (.mk ?l45 ?c45 ?k45) ?a45) (.mk (.mk ?l46 ?c46 ?k46) ?a46) (.mk (.mk ?l47 ?c47 ?k47) ?a47) (.mk (.mk ?l48 ?c48 ?k48) ?a48) (.mk (.mk ?l49 ?c49 ?k49) ?a49) (.mk (.mk ?l50 ?c50 ?k50) ?a50) (.mk (.mk ?l51 ?c51 ?k51) ?a51) (.mk (.mk ?l52 ?c52 ?k52) ?a52) (.mk (.mk ?l53 ?c53 ?k53) ?a53) ?y_paper_slots ?pg_Shelf ?hd_Shelf ?po_Shelf ?sa_Shelf ?mk_Shelf ?kc_Shelf ?n_Hcame ?n_Hcells ?n_Hcomings ?n_Hheld ?n_Hmoved ?n_Hrow ?n_Hsize ?n_Htidyings ?n_Hwent ?z_all ?z_bool ?z_enumerate ?z_int ?z_isinstance ?z_len ?z_list ?z_ord ?z_range ?z_reversed ?z_set ?z_sorted ?z_str ?z_tuple ?z_zip ?v_DEEPEST ?v_EMPTY ?v_GONE ?v_GREATEST ?v_LEAST ?v_MOST_PARTS ?v_MOST_SIGNS ?v_TURN ?g_Full ?o_Full ?e_Full ?y_Full ?mo_Full ?g_Lacking ?o_Lacking ?e_Lacking ?y_Lacking ?mo_Lacking ?ga_Full ?gh_Full ?fc_Full ?sg_Full ?tk_Full ?mb_Full ?vt_Full ?su_Full_Full ?su_Full_Lacking ?ga_Lacking ?gh_Lacking ?fc_Lacking ?sg_Lacking ?tk_Lacking ?mb_Lacking ?vt_Lacking ?su_Lacking_Full ?su_Lacking_Lacking)
  case aC_Shelf | a0 | a1 | a2 | a3 | a4 | a5 | a6 | a7 | a8 | a9 | a10 | a11 | a12 | a13 | a14 | a15 | a16 | a17 | a18 | a19 | a20 | a21 | a22 | a23 | a24 | a25 | a26 | a27 | a28 | a29 | a30 | a31 | a32 | a33 | a34 | a35 | a36 | a37 | a38 | a39 | a40 | a41 | a42 | a43 | a44 | a45 | a46 | a47 | a48 | a49 | a50 | a51 | a52 | a53 | l0 | c0 | k0 | l1 | c1 | k1 | l2 | c2 | k2 | l3 | c3 | k3 | l4 | c4 | k4 | l5 | c5 | k5 | l6 | c6 | k6 | l7 | c7 | k7 | l8 | c8 | k8 | l9 | c9 | k9 | l10 | c10 | k10 | l11 | c11 | k11 | l12 | c12 | k12 | l13 | c13 | k13 | l14 | c14 | k14 | l15 | c15 | k15 | l16 | c16 | k16 | i17 | l17 | c17 | k17 | L17 | i18 | l18 | c18 | k18 | i19 | l19 | c19 | k19 | i20 | l20 | c20 | k20 | i21 | l21 | c21 | k21 | i22 | l22 | c22 | k22 | i23 | l23 | c23 | k23 | i24 | l24 | c24 | k24 | i25 | l25 | c25 | k25 | i26 | l26 | c26 | k26 | i27 | l27 | c27 | k27 | i28 | l28 | c28 | k28 | i29 | l29 | c29 | k29 | i30 | l30 | c30 | k30 | i31 | l31 | c31 | k31 | i32 | l32 | c32 | k32 | l33 | c33 | k33 | l34 | c34 | k34 | l35 | c35 | k35 | l36 | c36 | k36 | l37 | c37 | k37 | l38 | c38 | k38 | l39 | c39 | k39 | l40 | c40 | k40 | l41 | c41 | k41 | l42 | c42 | k42 | l43 | c43 | k43 | l44 | c44 | k44 | l45 | c45 | k45 | l46 | c46 | k46 | l47 | c47 | k47 | l48 | c48 | k48 | l49 | c49 | k49 | l50 | c50 | k50 | l51 | c51 | k51 | l52 | c52 | k52 | l53 | c53 | k53 | y_paper_slots | pg_Shelf | hd_Shelf | po_Shelf | sa_Shelf | mk_Shelf | kc_Shelf | n_Hcame | n_Hcells | n_Hcomings | n_Hheld | n_Hmoved | n_Hrow | n_Hsize | n_Htidyings | n_Hwent | z_all | z_bool | z_enumerate | z_int | z_isinstance | z_len | z_list | z_ord | z_range | z_reversed | z_set | z_sorted | z_str | z_tuple | z_zip | v_DEEPEST | v_EMPTY | v_GONE | v_GREATEST | v_LEAST | v_MOST_PARTS | v_MOST_SIGNS | v_TURN | g_Full | o_Full=>k_is
  case e_Full=>k_exc
  case y_Full | mo_Full | g_Lacking | o_Lacking=>k_is
  case e_Lacking=>k_exc
  case y_Lacking | mo_Lacking | ga_Full | gh_Full | fc_Full | sg_Full | tk_Full | mb_Full | vt_Full | su_Full_Full | su_Full_Lacking | ga_Lacking | gh_Lacking | fc_Lacking | sg_Lacking | tk_Lacking | mb_Lacking | vt_Lacking | su_Lacking_Full | su_Lacking_Lacking=>k_is
