import PyProof.Rows.All
import Wide.All
import OpenK.AllK
import Wide.FinOn
import Lean
import PyProof.EqAt
import PyProof.EqKinds
import PyProof.TupleCall
import PyProof.Lay0
import PyProof.Rows.SortShellK
import PyProof.Rows.SortWalk
import KE.KSortTup
import Wide.Seal
import KE.KDictSum
import PyProof.DictWalks
import PyProof.TupleOfSeq
import PyProof.SumWalk
import KE.KTryDeep
import KE.KIsNot
import PyProof.ExcAttrAll.ValueError
import KE.KIsAll
import KE.KIsBytes
import PyProof.Rows.TupDisplay
import PyProof.DictTruth
import PyProof.ZipIter
import PyProof.Rows.ZipGen
import KE.KRevIter
import PyProof.MeetsSeq3
import PyProof.MinMaxWalk
import KE.KMinKey
import PyProof.Rows.CallKwBuiltin
import PyProof.TupleOfGen
import PyProof.Rows.CountFlat
import PyProof.Rows.SeqMore2
import PySem.Challenge.RW_stampsheet_k15_refused
set_option Elab.async false
set_option linter.all false
set_option maxRecDepth 100000
set_option maxHeartbeats 0
noncomputable section
abbrev zFr:=PySem.W.Frag
abbrev zEx:=PySem.Value->PySem.Shared->Prop
abbrev zaa := @PySem.wpAny_bind
abbrev zab := @PySem.wpAny_pure
abbrev zac := @PySem.Heap.get?_push_of_some
abbrev zad := @PyProof.Rows.wpS_bind
abbrev zae := @PyProof.Rows.wpS_pure
abbrev zaf := @PySem.Heap.lt_size
abbrev zag := @PySem.Heap.get?_push_size
abbrev zah := @List.mem_cons_of_mem
abbrev zai := @List.length_map
abbrev zaj := @List.mem_cons_self
abbrev zak := @Nat.le_refl
abbrev zal := @List.size_toArray
abbrev zam := @List.length_cons
abbrev zan := @List.getElem?_set_ne
abbrev zao := @Array.length_toList
abbrev zap := @List.length_append
abbrev zaq := @List.getElem?_eq_getElem
abbrev zar := @List.getElem?_map
abbrev zas := @Nat.ne_of_lt
abbrev zat := @List.map_cons
namespace L2
open PySem PySem.Spec PyProof.Rows
abbrev Key:=Sum Int Str
def keU:Key->Value->Bool
 |.inl k,v=>Value.isInt k v
 |.inr x,v=>Value.isStrOf x v
def kiP (w:World):Key->Int
 |.inl k=>hashInt k
 |.inr x=>hashStr w x
def wz:∀ {k:Key} {v:Value},keU k v=true->(∃i t,k=Sum.inl i/\v=Value.int i t)∨(∃x t,k=Sum.inr x/\v=Value.str x t)
 |.inl i,v,h=>by
  obtain⟨t,e⟩:=Value.isInt_shape (k:=i) (v:=v) h;exact .inl ⟨i,t,rfl,e⟩
 |.inr x,v,h=>by
  obtain⟨t,e⟩:=Value.isStrOf_shape (x:=x) (v:=v) h;exact .inr ⟨x,t,rfl,e⟩
def khz (a b:Int):decide ((Sum.inl a:Key)=Sum.inl b)=(a==b):=by
 by_cases e:a=b
 ·subst e;simp
 ·have h:¬ (Sum.inl a:Key)=Sum.inl b:=λq=>e (Sum.inl.inj q)
  rw[decide_eq_false h];exact (beq_eq_false_iff_ne.mpr e).symm
def kgu (a b:Str):decide ((Sum.inr a:Key)=Sum.inr b)=decide (a=b):=by
 by_cases e:a=b
 ·subst e;simp
 ·have h:¬ (Sum.inr a:Key)=Sum.inr b:=λq=>e (Sum.inr.inj q)
  rw[decide_eq_false h,decide_eq_false e]
def kgY (a:Int)(b:Str):decide ((Sum.inl a:Key)=Sum.inr b)=false:=decide_eq_false (λq=>nomatch q)
def kgQ (a:Str)(b:Int):decide ((Sum.inr a:Key)=Sum.inl b)=false:=decide_eq_false (λq=>nomatch q)
def Z1 (prog:Program)(w:World):PySem.KeyKind prog w Key where
 is:=keU
 hash:=kiP w
 inj:=λv a b ha hb=>by
  rcases wz ha with ⟨i,t,rfl,rfl⟩ | ⟨x,t,rfl,rfl⟩
  ·rcases wz hb with ⟨j,u,rfl,e⟩ | ⟨y,u,rfl,e⟩
   ·injection e with e1 _;rw[e1]
   ·exact nomatch e
  ·rcases wz hb with ⟨j,u,rfl,e⟩ | ⟨y,u,rfl,e⟩
   ·exact nomatch e
   ·injection e with e1 _;rw[e1]
 byValue:=λk v h=>by
  rcases wz h with ⟨i,t,rfl,rfl⟩ | ⟨x,t,rfl,rfl⟩ <;> rfl
 pyHash:=λhv h=>by
  rcases wz hv with ⟨i,t,rfl,rfl⟩ | ⟨x,t,rfl,rfl⟩
  ·exact wpAny_pyHash_int h
  ·exact wpAny_pyHash_str h
 eqBool:=λhu hv h=>by
  rcases wz hu with ⟨i,t,rfl,rfl⟩ | ⟨x,t,rfl,rfl⟩
  ·rcases wz hv with ⟨j,u,rfl,rfl⟩ | ⟨y,u,rfl,rfl⟩
   ·rw[khz]at h;exact wpAny_eqBool_int h
   ·rw[kgY]at h;exact SeqAt.EqAt.int_str i t y u _ _ _ _ h
  ·rcases wz hv with ⟨j,u,rfl,rfl⟩ | ⟨y,u,rfl,rfl⟩
   ·rw[kgQ]at h;exact SeqAt.EqAt.str_int x t j u _ _ _ _ h
   ·rw[kgu]at h;exact wpAny_eqBool_str h
 «strs»:=λk x t v h=>by
  rcases wz h with ⟨i,u,rfl,e⟩ | ⟨y,u,rfl,e⟩
  ·exact nomatch e
  ·injection e with e1 _
   subst e1
   cases v <;> rfl
inductive V where
 |non | bl (b:Bool) | int (i:Int) | str (x:Str) | byt (b:Array UInt8) | flt (b:UInt64) | ref (a:Addr) | ty (n:String)
 deriving DecidableEq
def RelV:V->Value->Prop
 |.non,u=>u=Value.none
 |.bl b,u=>u=Value.bool b
 |.int i,u=>∃t,u=Value.int i t
 |.str x,u=>∃t,u=Value.str x t
 |.byt b,u=>∃t,u=Value.bytes b t
 |.flt b,u=>∃t,u=Value.float b t
 |.ref a,u=>u=Value.ref a
 |.ty n,u=>u=Value.type n
abbrev Vals:List V->List Value->Prop:=Paired RelV
def Vals.length {xs:List V}{us:List Value}(r:Vals xs us):xs.length=us.length:=Paired.length r
def Vals.get:∀ {xs:List V} {us:List Value} {i:Nat} {x:V},Vals xs us->xs[i]?=some x->∃u,us[i]?=some u/\RelV x u
 |_,_,_,_,.nil,e=>by simp at e
 |_,_,0,_,.cons r _,e=>by simp at e;subst e;exact⟨_,rfl,r⟩
 |_,_,i+1,x,.cons _ t,e=>by
  obtain⟨u,h1,h2⟩:=Vals.get (i:=i) (x:=x) t (by simpa using e);exact⟨u,by simpa using h1,h2⟩
def Vals.append:∀ {xs ys:List V} {us ws:List Value},Vals xs us->Vals ys ws->Vals (xs++ys) (us++ws)
 |_,_,_,_,.nil,s=>s
 |_,_,_,_,.cons r t,s=>.cons r (Vals.append t s)
def Vals.take:∀ {xs:List V} {us:List Value} (n:Nat),Vals xs us->Vals (xs.take n) (us.take n)
 |_,_,0,_=>.nil
 |_,_,_+1,.nil=>.nil
 |_,_,n+1,.cons r t=>.cons r (Vals.take n t)
def Vals.drop:∀ {xs:List V} {us:List Value} (n:Nat),Vals xs us->Vals (xs.drop n) (us.drop n)
 |_,_,0,r=>r
 |_,_,_+1,.nil=>.nil
 |_,_,n+1,.cons _ t=>Vals.drop n t
def khM:Option V->Option Value->Prop
 |some v,some u=>RelV v u
 |none,none=>True
 |_,_=>False
def KV {κ:Type}:List (κ×V)->List (κ×Value)->Prop:=Paired λ(p:κ×V) (q:κ×Value)=>p.1=q.1/\RelV p.2 q.2
def kV:Key->V
 |.inl i=>.int i
 |.inr x=>.str x
inductive HO where
 /-- a list -/
 |lst (xs:List V)
 /-- a tuple (never changes) -/
 |tup (xs:List V)
 /-- a dict whose keys are ints and texts;one whose keys are tuples of ints and texts (the empty one is both) -/
 |dK (kvs:List (Key×V)) | dT (kvs:List (List Key×V))
 /-- a set of ints: its members,its size -/
 |set (S:Int->Bool) (n:Nat)
 /-- an instance of the class at C,its dict at dx,its attributes -/
 |ins (C dx:Addr) (fs:List (Str×V))
 /-- the dict of the instance at x -/
 |own (x:Addr)
 /-- the dict of an exception -/
 |xd (fs:List (Str×V))
 /-- a bound method,f of x -/
 |met (f x:Addr)
 /-- a range object lo,lo+1,.. below hi -/
 |rng (lo hi:Int)
 /-- a thing that is known to the object (the script;a dict while a loop walks it): read,never written while it is so -/
 |frz (o:Obj) (u:HO)
 /-- a code object's table -/
 |tbl (ps:Array Value)
 /-- any other thing,by what is true of its one object (a def of one's own: SetO a S n:=HO.ext λh=>..) -/
 |ext (φ:Heap->Prop)
abbrev Hp:=Addr->Option HO
def upd (H:Hp)(a:Addr)(o:HO):Hp:=λb=>if b=a then some o else H b
def k9 {H:Hp}{a:Addr}{o:HO}:upd H a o a=some o:=by unfold upd;rw[if_pos rfl]
def qm {H:Hp}{a b:Addr}{o:HO}(h:b≠a):upd H a o b=H b:=by unfold upd;rw[if_neg h]
def qW {H:Hp}{a b:Addr}{o:HO}(h:H a=some o)(h':H b=none):a≠b:=by
 intro e;subst e;rw[h]at h';cases h'
section
variable (P:Program)(w:World)
def x8 (H:Hp)(h:Heap)(a:Addr):HO->Prop
 |.lst xs=>xs.length<=sizeLine/\∃ (its:List Value) (n:Nat),Vals xs its/\h.get? a=some { cls:=.type "list",data:=.seq its.toArray n }
 |.tup xs=>xs.length<=sizeLine/\∃its:List Value,Vals xs its/\IsTup h a its.toArray
 |.dK kvs=>kvs.length<=sizeLine/\(a==sysModules)=false/\∃vs,KV kvs vs/\h.DictOf (Z1 P w) a vs
 |.dT kvs=>kvs.length<=sizeLine/\(a==sysModules)=false/\∃xs:List (List Key×Addr×Value),
  Paired (λ(p:List Key×V) (q:List Key×Addr×Value)=>p.1=q.1/\H q.2.1=some (.tup (p.1.map kV))/\RelV p.2 q.2.2) kvs xs ∧
  ∃o es ep,h.get? a=some o/\o.ExactDict/\o.data = .dict es ep/\es.toList=xs.map (entryOfKey (tupleKind (Z1 P w)))/\(xs.map (·.1)).Nodup
 |.set S n=>h.SetOf (intKind P w) a S n
 |.ins C dx fs=>H dx=some (.own a)/\fs.length<=1000/\dx≠a/\h.get? a=some (PySem.W.instObj C dx) ∧
  ∃mA,h.Ns1 dx mA/\(∀f,khM (fs.lookup f) (mA f))/\PySem.Within mA (fs.map (·.1))
 |.own _=>∃o,h.get? a=some o
 |.xd fs=>∃mA,h.Ns1 a mA/\∀f,khM (fs.lookup f) (mA f)
 |.rng lo hi=>∃t u v,h.get? a=some { cls:=.type "range",data:=.fields #[.int lo t,.int hi u,.int 1 v] }
 |.frz o u=>h.get? a=some o/\x8 H h a u
 |.tbl ps=>h.get? a=some { cls:=.none,data:=.fields ps }
 |.met f x=>h.get? a=some (PySem.W.methodObj (.ref f) (.ref x))
 |.ext φ=>φ h/\(∃o,h.get? a=some o)/\∀h1 h2:Heap,φ h1->(∀o,h1.get? a=some o->h2.get? a=some o)->φ h2
def HOk (H:Hp)(h:Heap):Prop:=∀a o,H a=some o->x8 P w H h a o
end
section
variable {P:Program}{w:World}{H H':Hp}{h h':Heap}{a:Addr}{o:HO}
def x8.lt (x:x8 P w H h a o):a < h.objs.size:=by
 cases o with
 |lst xs=>obtain⟨_,_,_,_,e⟩:=x;exact zaf e
 |tup xs=>obtain⟨_,_,_,p⟩:=x;exact p.lt
 |dK kvs=>obtain⟨_,_,_,_,o,_,_,e,_⟩:=x;exact zaf e
 |dT kvs=>obtain⟨_,_,_,_,o,_,_,e,_⟩:=x;exact zaf e
 |set S n=>obtain⟨o,_,_,_,e,_⟩:=x;exact zaf e
 |ins C dx fs=>obtain⟨_,_,_,e,_⟩:=x;exact zaf e
 |own y=>obtain⟨_,e⟩:=x;exact zaf e
 |xd fs=>obtain⟨_,⟨_,_,_,e,_⟩,_⟩:=x;exact zaf e
 |rng lo hi=>obtain⟨_,_,_,e⟩:=x;exact zaf e
 |frz ob u=>obtain⟨e,_⟩:=x;exact zaf e
 |tbl ps=>exact zaf (show h.get? a=some _ from x)
 |met f y=>exact zaf (show h.get? a=some _ from x)
 |ext φ=>obtain⟨_,⟨_,e⟩,_⟩:=x;exact zaf e
def Paired.khB {α β:Type}{F G:α->β->Prop}:∀ {l₁:List α} {l₂:List β},Paired F l₁ l₂->(∀a b,F a b->G a b)->Paired G l₁ l₂
 |_,_,.nil,_=>.nil
 |_,_,.cons r t,f=>.cons (f _ _ r) (Paired.khB t f)
def x8.stay (x:x8 P w H h a o) (k:∀ b u,(b = a ∨ H b = some (.own a)) -> h.get? b = some u -> h'.get? b = some u)
 (ho:∀b,H b=some (.own a)->H' b=some (.own a)) (ht:∀b xs,H b=some (.tup xs)->H' b=some (.tup xs)):x8 P w H' h' a o:=by
 induction o with
 |lst xs=>obtain⟨z,its,n,r,e⟩:=x;exact⟨z,its,n,r,k _ _ (.inl rfl) e⟩
 |tup xs=>obtain⟨z,its,r,ob,e,c⟩:=x;exact⟨z,its,r,ob,k _ _ (.inl rfl) e,c⟩
 |dK kvs=>obtain⟨z,y,vs,r,ob,es,ep,e,c⟩:=x;exact⟨z,y,vs,r,ob,es,ep,k _ _ (.inl rfl) e,c⟩
 |dT kvs=>
  obtain⟨z,y,xs,r,ob,es,ep,e,c⟩:=x;exact⟨z,y,xs,Paired.khB r λp q z=>⟨z.1,ht _ _ z.2.1,z.2.2⟩,ob,es,ep,k _ _ (.inl rfl) e,c⟩
 |set S n=>obtain⟨ob,es,ep,t,e,c⟩:=x;exact⟨ob,es,ep,t,k _ _ (.inl rfl) e,c⟩
 |ins C dx fs=>
  obtain⟨d,z,ne,e,mA,⟨od,es,ep,e2,c⟩,r⟩:=x;exact⟨ho _ d,z,ne,k _ _ (.inl rfl) e,mA,⟨od,es,ep,k _ _ (.inr d) e2,c⟩,r⟩
 |own y=>obtain⟨ob,e⟩:=x;exact⟨ob,k _ _ (.inl rfl) e⟩
 |xd fs=>obtain⟨mA,⟨od,es,ep,e,c⟩,r⟩:=x;exact⟨mA,⟨od,es,ep,k _ _ (.inl rfl) e,c⟩,r⟩
 |rng lo hi=>obtain⟨t,u,v,e⟩:=x;exact⟨t,u,v,k _ _ (.inl rfl) e⟩
 |frz ob u ih=>obtain⟨e,q⟩:=x;exact⟨k _ _ (.inl rfl) e,ih q⟩
 |tbl ps=>
  have e:h.get? a=some { cls:=.none,data:=.fields ps }:=x;show h'.get? a=some { cls:=.none,data:=.fields ps };exact k a _ (.inl rfl) e
 |met f y=>
  have e:h.get? a=some (PySem.W.methodObj (.ref f) (.ref y)):=x;show h'.get? a=some (PySem.W.methodObj (.ref f) (.ref y));exact k a _ (.inl rfl) e
 |ext φ=>obtain⟨p,⟨o,e⟩,st⟩:=x;exact⟨st _ _ p λo q=>k _ _ (.inl rfl) q,⟨o,k _ _ (.inl rfl) e⟩,st⟩
def HOk.lt (x:HOk P w H h)(e:H a=some o):a < h.objs.size:=(x a o e).lt
def HOk.fresh (x:HOk P w H h)(e:h.objs.size<=a):H a=none:=by
 cases q:H a with
 |none=>rfl
 |some u=>exact absurd (Nat.lt_of_lt_of_le (x.lt q) e) (Nat.lt_irrefl _)
def HOk.kept (x:HOk P w H h)(k:∀b u,h.get? b=some u->h'.get? b=some u):HOk P w H h':=λa o e=>
 (x a o e).stay (λb u _ q=>k b u q) (λ_ q=>q) λ_ _ q=>q
def HOk.laid (x:HOk P w H h)(k:∀b u,h.get? b=some u->h'.get? b=some u)(hp:h.objs.size<=a)(new:x8 P w (upd H a o) h' a o):HOk P w (upd H a o) h':=λb u e=>by
 have hn:=x.fresh hp
 by_cases hb:b=a
 ·subst hb;rw[k9]at e;cases e;exact new
 ·rw[qm hb]at e;exact (x b u e).stay (λc v _ q=>k c v q) (λc q=>by rw[qm (qW q hn)];exact q) λc xs q=>by rw[qm (qW q hn)];exact q
end
def Rd (H:Hp)(a:Addr)(u:HO):Prop:=H a=some u∨∃o,H a=some (.frz o u)
def Rd.ok {P:Program}{w:World}{H:Hp}{h:Heap}{a:Addr}{u:HO}(r:Rd H a u)(x:HOk P w H h):x8 P w H h a u:=by
 rcases r with r | ⟨o,r⟩
 ·exact x a u r
 ·obtain⟨_,q⟩:=x a _ r;exact q
def Mut:Option HO->Prop
 |some (.lst _)=>True
 |some (.dK _)=>True
 |some (.dT _)=>True
 |some (.set _ _)=>True
 |some (.ins _ _ _)=>True
 |some (.ext _)=>True
 |_=>False
section
variable {P:Program}{w:World}{H:Hp}{h h':Heap}{x e:Addr}{o':HO}
def HOk.write (ok:HOk P w H h)(mu:Mut (H x))(he:e=x∨H e=some (.own x))(k:∀b u,b≠e->h.get? b=some u->h'.get? b=some u)(heo:∃u,h'.get? e=some u)
 (new:x8 P w (upd H x o') h' x o'):HOk P w (upd H x o') h':=λb u q=>by
 have nown:∀c y,H c=some (.own y)->c≠x:=λc y r z=>by subst z;rw[r]at mu;exact mu
 have ntup:∀c xs,H c=some (.tup xs)->c≠x:=λc xs r z=>by subst z;rw[r]at mu;exact mu
 by_cases hb:b=x
 ·subst hb;rw[k9]at q;cases q;exact new
 ·rw[qm hb]at q
  by_cases hbe:b=e
  ·have q':H b=some (.own x):=by
    rcases he with z | z
    ·exact absurd (hbe.trans z) hb
    ·rw[hbe];exact z
   rw[q]at q';cases q'
   obtain⟨v,hv⟩:=heo;exact⟨v,by rw[hbe];exact hv⟩
  ·refine (ok b u q).stay (λc v hc r=>k c v ?_ r) (λc r=>by rw[qm (nown c b r)];exact r) λc xs r=>by rw[qm (ntup c xs r)];exact r
   rcases hc with rfl | hc
   ·exact hbe
   ·rintro rfl
    rcases he with z | z
    ·exact nown c b hc z
    ·rw[hc]at z;cases z;exact hb rfl
end
structure Un (fs ex:List Addr)(H H':Hp)(h h':Heap):Prop where
 keep:∀b o,h.get? b=some o->H b=none->b∉fs->b∉ex->h'.get? b=some o
 slot:∀b o,h.get? b=some o->H b=none->b∈fs->b∉ex->∃sl,h'.get? b=some { o with slots:=sl }
 free:∀b o,h.get? b=some o->H b=none->b∉ex->H' b=none
 there:∀b o,h.get? b=some o->b∉ex->∃o',h'.get? b=some o'
 tups:∀b xs,H b=some (.tup xs)->H' b=some (.tup xs)
 frzs:∀b o u,H b=some (.frz o u)->H' b=some (.frz o u)
 tbls:∀b ps,H b=some (.tbl ps)->∃more,H' b=some (.tbl (ps++more))
section
variable {fs fs' ex ex':List Addr}{H H1 H2:Hp}{h h1 h2 h':Heap}{a x e:Addr}{o:HO}
def Un.any (u:Un fs ex H H1 h h1){b:Addr}{ob:Obj}(q:h.get? b=some ob)(n:H b=none)(hx:b∉ex):∃sl,h1.get? b=some { ob with slots:=sl }:=by
 by_cases hb:b∈fs
 ·exact u.slot b ob q n hb hx
 ·exact⟨ob.slots,u.keep b ob q n hb hx⟩
def Un.kept (k:∀b u,h.get? b=some u->h'.get? b=some u):Un fs ex H H h h' :=
 ⟨λb ob q _ _ _=>k b ob q,λb ob q _ _ _=>⟨ob.slots,k b ob q⟩,λ_ _ _ n _=>n,λb ob q _=>⟨ob,k b ob q⟩,λ_ _ q=>q,λ_ _ _ q=>q,λ_ ps q=>⟨#[],by rw[q];simp⟩⟩
def Un.refl:Un fs ex H H h h:=Un.kept λ_ _ q=>q
def Un.laid (k:∀b u,h.get? b=some u->h'.get? b=some u)(hp:h.objs.size<=a)(hn:H a=none):Un fs ex H (upd H a o) h h' where
 keep:=λb u q _ _ _=>k b u q
 slot:=λb u q _ _ _=>⟨u.slots,k b u q⟩
 free:=λb u q n _=>by rw[qm (zas (Nat.lt_of_lt_of_le (zaf q) hp))];exact n
 there:=λb u q _=>⟨u,k b u q⟩
 tups:=λb xs q=>by rw[qm (qW q hn)];exact q
 frzs:=λb u xs q=>by rw[qm (qW q hn)];exact q
 tbls:=λb ps q=>⟨#[],by rw[qm (qW q hn),q];simp⟩
def Un.write (mu:Mut (H x))(he:e=x∨H e=some (.own x))(k:∀b u,b≠e->h.get? b=some u->h'.get? b=some u)(heo:∃u,h'.get? e=some u):Un fs ex H (upd H x o) h h':=by
 have hx:∀b,H b=none->b≠x:=λb n z=>by subst z;rw[n]at mu;exact mu
 have hb:∀b,H b=none->b≠e:=λb n z=>by
  subst z
  rcases he with r | r
  ·exact hx b n r
  ·rw[n]at r;cases r
 have hm:∀b u,H b=some u->¬ Mut (some u)->b≠x:=λb u q nm z=>by subst z;rw[q]at mu;exact nm mu
 refine⟨λb u q n _ _=>k b u (hb b n) q,λb u q n _ _=>⟨u.slots,k b u (hb b n) q⟩,λb u q n _=>by rw[qm (hx b n)];exact n,λb u q _=>?_,
  λb xs q=>by rw[qm (hm b _ q λz=>z)];exact q,λb u xs q=>by rw[qm (hm b _ q λz=>z)];exact q,λb ps q=>⟨#[],by rw[qm (hm b _ q λz=>z),q];simp⟩⟩
 by_cases hbe:b=e
 ·subst hbe;exact heo
 ·exact⟨u,k b u hbe q⟩
end
def trk (h:Heap)(H:Hp):List Addr:=(List.range h.objs.size).filter λa=>(H a).isSome
def WI (h:Heap)(H:Hp):Heap:=PySem.W.hideAll h (trk h H)
def kbH (h:Heap)(H:Hp):(WI h H).objs.size=h.objs.size:=PySem.W.hideAll_size _ _
def kdM {h:Heap}{H:Hp}{b:Addr}{o:Obj}(e:h.get? b=some o)(n:H b=none):(WI h H).get? b=some o :=
 PySem.W.hideAll_get _ e λhm=>by
  have q:(H b).isSome=true:=(List.mem_filter.mp hm).2;rw[n]at q;simp at q
def kfP {h:Heap}{H:Hp}{b:Addr}{o:Obj}(e:(WI h H).get? b=some o):h.get? b=some o/\H b=none:=by
 have e':h.get? b=some o:=PySem.W.of_hideAll (trk h H) e;refine⟨e',?_⟩
 cases q:H b with
 |none=>rfl
 |some x=>
  have hm:b∈trk h H:=List.mem_filter.mpr ⟨List.mem_range.mpr (zaf e'),by simp[q]⟩;have z:(WI h H).get? b=none:=PySem.W.hideAll_none (trk h H) hm;rw[z]at e;cases e
def kfF (g h:Heap)(L:Addr):List (Addr×Obj):=(List.range h.objs.size).filterMap λa=>if a=L∨(g.get? a).isSome=true then none else (h.get? a).map λo=>(a,o)
def rest (g h:Heap)(L d:Addr):List (Addr×Obj):=(kfF g h L).filter λp=>decide (p.1≠d)
structure Mod (K:zFr)(mg:Str->Option Value)(base:Heap):Prop where
 kin:K.In base
 glob:base.Ns mainGlobals mg
 blt:∃mb,base.Ns builtinsNs mb/\∀x:Str,x ≠ "__name__" -> mb x=bootBuiltins x
 nolimit:base.NoLimit
structure Cx where
 prog:Program
 w:World
 K:PySem.W.Frag
 mg:Str->Option Value
 base:Heap
 A:Around
 N:List Str
 s₀:Shared
 H₀:Hp
 env:Env
 outer:List Env
 stack:List Env
 ex:List Addr
 fn:Str->Bool
 calm:Bool
 pn:List (Addr×Obj)
 xe:Value->Shared->Prop
def frs (l:List Env):List Addr:=l.filterMap (·.frame)
abbrev Cx.fs (X:Cx):List Addr:=frs X.outer
def Vis (sc:Scope)(x:Str):Prop:=sc.names.lookup x=some .local∨sc.names.lookup x=some .cell∨sc.names.lookup x=some .free
def Loc (sc:Scope)(x:Str):Prop:=sc.names.lookup x=some .local∨sc.names.lookup x=some .cell
def Look (env:Env)(h:Heap)(m:Str->Option Value)(x:Str)(u:Value):Prop :=
 (env.kindOf x=some .local/\m x=some u)∨((env.kindOf x=some .cell∨env.kindOf x=some .free)/\∃c,env.cells.lookup x=some c/\h.IsCell c (some u))
structure Cx.Ok (X:Cx):Prop where
 mod:Mod X.K X.mg X.base
 kind:X.env.scope.kind = .function
 glob:X.env.globals=mainGlobals
 blt:X.env.builtins=builtinsNs
 above:X.s₀.heap.objs.size<=X.env.locals
 inj:∀x y c,X.env.cells.lookup x=some c->X.env.cells.lookup y=some c->x=y
 has:∀x,(X.env.kindOf x=some .cell∨X.env.kindOf x=some .free)->∃c,X.env.cells.lookup x=some c
 cab:∀x c,X.fn x=true->X.env.cells.lookup x=some c->X.s₀.heap.objs.size<=c
 hd:X.calm=true->X.A.handled=none
 frames:X.A.frames=some X.stack
 stk:X.stack=X.outer∨(X.stack=X.env::X.outer/\X.env.frame=some X.env.locals)
 exf:∀b∈X.ex,b≠X.env.locals/\∀x c,X.env.cells.lookup x=some c->c≠b
 bs:∀b o,X.base.get? b=some o->X.s₀.heap.get? b=some o/\X.H₀ b=none
 bsz:X.base.objs.size<=X.s₀.heap.objs.size
 noex:∀b o,X.base.get? b=some o->b∉X.ex
 exfs:∀b∈X.ex,b∉X.fs
 zZ:X.s₀.heap.FunFrames X.base X.outer
 frf:∀b∈X.fs,X.H₀ b=none
structure Inv (X:Cx)(pins:List (Addr×Obj))(σ:List (Option V))(H:Hp)(s:Shared):Prop where
 ok:X.Ok
 os:s.os=X.s₀.os
 bare:AllBare s.gens
 base:Un X.fs X.ex X.H₀ H X.s₀.heap s.heap
 loc:∃m,s.heap.Ns X.env.locals m/\∀ (i:Nat) (x:Str) (v:V),X.N[i]?=some x->σ[i]?=some (some v)->Vis X.env.scope x->∃u,RelV v u/\Look X.env s.heap m x u
 cell:∀x c,X.env.cells.lookup x=some c->∃v,s.heap.IsCell c v
 free:H X.env.locals=none
 freeC:∀x c,X.env.cells.lookup x=some c->H c=none
 pin:∀p∈X.pn++pins,s.heap.get? p.1=some p.2/\H p.1=none/\p.1≠X.env.locals/\p.1∉X.fs/\∀v,p.2.data ≠ .cell v
 hok:HOk X.prog X.w H s.heap
 len:σ.length=X.N.length
section
variable {X:Cx}{pins:List (Addr×Obj)}{σ:List (Option V)}{H H':Hp}{s:Shared}{h':Heap}
def Cx.Ok.kjq (ok:X.Ok){b:Addr}{o:Obj}(e:X.base.get? b=some o):b∉X.fs:=λhb=>by
 have:=(ok.zZ.mem hb).1;rw[e]at this;cases this
def Inv.bs (I:Inv X pins σ H s):∀b o,X.base.get? b=some o->s.heap.get? b=some o/\H b=none:=λb o e=>
 ⟨I.base.keep b o (I.ok.bs b o e).1 (I.ok.bs b o e).2 (I.ok.kjq e) (I.ok.noex b o e),I.base.free b o (I.ok.bs b o e).1 (I.ok.bs b o e).2 (I.ok.noex b o e)⟩
def Inv.bk (I:Inv X pins σ H s):∀b o,X.base.get? b=some o->s.heap.get? b=some o:=λb o e=>(I.bs b o e).1
def Inv.mod (I:Inv X pins σ H s):Mod X.K X.mg X.base:=I.ok.mod
def Inv.kIn (I:Inv X pins σ H s):X.K.In s.heap:=I.ok.mod.kin.keeps I.bk
def Inv.nolimit (I:Inv X pins σ H s):s.heap.NoLimit:=I.ok.mod.nolimit.keeps I.bk
def Inv.fr (I:Inv X pins σ H s):∃m,Fr X.base X.env.locals s.heap m :=
 let ⟨m,hn,_⟩:=I.loc
 ⟨m,hn,I.bk,Nat.le_trans I.ok.bsz I.ok.above⟩
def Inv.lt (I:Inv X pins σ H s):X.env.locals < s.heap.objs.size:=let ⟨_,hn,_⟩:=I.loc;hn.lt
def Inv.sz (I:Inv X pins σ H s):X.s₀.heap.objs.size<=s.heap.objs.size:=Nat.le_trans I.ok.above (Nat.le_of_lt I.lt)
def Inv.kiQ (I:Inv X pins σ H s){a:Addr}(h:s.heap.objs.size<=a):a∉X.fs:=λhb=>by
 obtain⟨_,o,ho,_⟩:=I.ok.zZ.mem hb;exact absurd (Nat.lt_of_lt_of_le (zaf ho) (Nat.le_trans I.sz h)) (Nat.lt_irrefl _)
def Inv.cne (I:Inv X pins σ H s):∀x c,X.env.cells.lookup x=some c->c≠X.env.locals:=λx c e z=>by
 obtain⟨v,o,ho,hd⟩:=I.cell x c e;obtain⟨m,⟨o',es,ep,ho',hd',_⟩,_⟩:=I.loc;rw[z,ho']at ho;cases ho;rw[hd']at hd;cases hd
def Inv.zZ (I:Inv X pins σ H s):s.heap.FunFrames X.base X.outer:=by
 have all:∀ (l:List Env),(∀b∈frs l,b∈X.fs)->X.s₀.heap.FunFrames X.base l->s.heap.FunFrames X.base l:=by
  intro l
  induction l with
  |nil=>intro _ _;trivial
  |cons env r ih=>
   intro hs hl;obtain⟨hk,⟨L,o,hf,hn,ho,hd⟩,hr⟩:=hl;have hL:L∈X.fs:=hs L (by unfold frs;rw[List.filterMap_cons,hf];exact zaj);obtain⟨sl,e⟩:=I.base.slot L o ho (I.ok.frf L hL) hL λz=>I.ok.exfs L z hL
   exact⟨hk,⟨L,_,hf,hn,e,hd⟩,ih (λb hb=>hs b (by unfold frs;rw[List.filterMap_cons,hf];exact zah _ hb)) hr⟩
 exact all X.outer (λ_ hb=>hb) I.ok.zZ
def Inv.stack (I:Inv X pins σ H s):s.heap.FunFrames X.base X.stack:=by
 rcases I.ok.stk with e | ⟨e,hf⟩
 ·rw[e];exact I.zZ
 ·rw[e];obtain⟨m,hn,_⟩:=I.loc;refine .cons (by rw[I.ok.kind];decide) hf hn ?_ I.zZ;exact Heap.get?_none_of_le (Nat.le_trans I.ok.bsz I.ok.above)
def Inv.YM (I:Inv X pins σ H s):∀b∈frs X.stack,b∈X.env.locals::X.fs:=λb hb=>by
 rcases I.ok.stk with e | ⟨e,hf⟩
 ·rw[e]at hb;exact zah _ hb
 ·rw[e]at hb;unfold frs at hb;rw[List.filterMap_cons,hf]at hb;exact hb
def Inv.jg (I:Inv X pins σ H s):∀b∈frs X.stack,H b=none:=λb hb=>by
 rcases List.mem_cons.mp (I.YM b hb) with e | hb
 ·rw[e];exact I.free
 ·obtain⟨_,o,ho,_⟩:=I.ok.zZ.mem hb;exact I.base.free b o ho (I.ok.frf b hb) λz=>I.ok.exfs b z hb
def Inv.step {g':Array GenState}{t':Nat}{d':Drawn}{ch:List Addr}(I:Inv X pins σ H s)
 (hch:∀b∈ch,(b∈X.ex∨X.s₀.heap.objs.size<=b)/\b≠X.env.locals/\(∀x c,X.env.cells.lookup x=some c->c≠b)/\∀p∈X.pn++pins,p.1≠b)
 (keep:∀b o,b≠X.env.locals->b∉X.fs->b∉ch->s.heap.get? b=some o->H b=none->h'.get? b=some o)
 (slot:∀b o,b≠X.env.locals->b∈X.fs->b∉ch->s.heap.get? b=some o->H b=none->∃sl,h'.get? b=some { o with slots:=sl }) (free:∀b o,b∉ch->s.heap.get? b=some o->H b=none->H' b=none)
 (there:∀b o,b∉ch->s.heap.get? b=some o->∃o',h'.get? b=some o')
 (tups:∀b xs,H b=some (.tup xs)->H' b=some (.tup xs)) (frzs:∀b o u,H b=some (.frz o u)->H' b=some (.frz o u)) (tbls:∀b ps,H b=some (.tbl ps)->∃more,H' b=some (.tbl (ps++more)))
 (ns:∀m,s.heap.Ns X.env.locals m->h'.Ns X.env.locals m) (hok:HOk X.prog X.w H' h') (hg:AllBare g') :
 Inv X pins σ H' { s with heap:=h',gens:=g',drawn:=d',toks:=t' }:=by
 have neL:∀b o,X.s₀.heap.get? b=some o->b≠X.env.locals:=λb o e=>zas (Nat.lt_of_lt_of_le (zaf e) I.ok.above)
 have neC:∀b o,X.s₀.heap.get? b=some o->b∉X.ex->b∉ch:=λb o e hx hb=>by
  rcases (hch b hb).1 with z | z
  ·exact hx z
  ·exact absurd (Nat.lt_of_lt_of_le (zaf e) z) (Nat.lt_irrefl _)
 have cellK:∀x c,X.env.cells.lookup x=some c->∀v,s.heap.IsCell c v->h'.IsCell c v:=λx c e v ⟨o,ho,hd⟩=>by
  have nch:c∉ch:=λz=>(hch c z).2.2.1 x c e rfl
  by_cases hc:c∈X.fs
  ·obtain⟨sl,q⟩:=slot c o (I.cne x c e) hc nch ho (I.freeC x c e);exact⟨_,q,hd⟩
  ·exact⟨o,keep c o (I.cne x c e) hc nch ho (I.freeC x c e),hd⟩
 refine⟨I.ok,I.os,hg,⟨λb o e n hb hx=>?_,λb o e n hb hx=>?_,λb o e n hx=>?_,λb o e hx=>?_,λb xs e=>tups b xs (I.base.tups b xs e),λb o xs e=>frzs b o xs (I.base.frzs b o xs e),λb ps e=>?_⟩,?_,λx c e=>?_,?_,λx c e=>?_,λp hp=>?_,hok,I.len⟩
 ·exact keep b o (neL b o e) hb (neC b o e hx) (I.base.keep b o e n hb hx) (I.base.free b o e n hx)
 ·obtain⟨sl,e1⟩:=I.base.slot b o e n hb hx;obtain⟨sl',e2⟩:=slot b _ (neL b o e) hb (neC b o e hx) e1 (I.base.free b o e n hx);exact⟨sl',e2⟩
 ·obtain⟨o',e1⟩:=I.base.there b o e hx;exact free b o' (neC b o e hx) e1 (I.base.free b o e n hx)
 ·obtain⟨o',e1⟩:=I.base.there b o e hx;exact there b o' (neC b o e hx) e1
 ·obtain⟨m1,e1⟩:=I.base.tbls b ps e;obtain⟨m2,e2⟩:=tbls b _ e1;exact⟨m1++m2,by rw[e2,Array.append_assoc]⟩
 ·obtain⟨m,hn,hl⟩:=I.loc;refine⟨m,ns m hn,λi x v e1 e2 e3=>?_⟩;obtain⟨u,r,l⟩:=hl i x v e1 e2 e3;refine⟨u,r,?_⟩
  rcases l with l | ⟨k,c,e,z⟩
  ·exact .inl l
  ·exact .inr ⟨k,c,e,cellK x c e _ z⟩
 ·obtain⟨v,z⟩:=I.cell x c e;exact⟨v,cellK x c e v z⟩
 ·obtain⟨m,⟨o,_,_,ho,_⟩,_⟩:=I.loc;exact free _ o (λz=>(hch _ z).2.1 rfl) ho I.free
 ·obtain⟨v,o,ho,hd⟩:=I.cell x c e;exact free c o (λz=>(hch c z).2.2.1 x c e rfl) ho (I.freeC x c e)
 ·obtain⟨e,n,ne,nf,d⟩:=I.pin p hp;have nch:p.1∉ch:=λz=>(hch p.1 z).2.2.2 p hp rfl
  exact⟨keep p.1 p.2 ne nf nch e n,free p.1 p.2 nch e n,ne,nf,d⟩
def Inv.un {t':Nat}(I:Inv X pins σ H s)(u:Un X.fs [] H H' s.heap h')(hok:HOk X.prog X.w H' h'):Inv X pins σ H' { s with heap:=h',toks:=t' }:=by
 obtain⟨m,⟨o,es,ep,ho,r⟩,_⟩:=id I.loc;obtain⟨sl,hL⟩:=u.any ho I.free (by simp)
 exact I.step (g':=s.gens) (d':=s.drawn) (ch:=[]) (λ_ z=>nomatch z) (λb o _ hb _ e n=>u.keep b o e n hb (by simp)) (λb o _ hb _ e n=>u.slot b o e n hb (by simp)) (λb o _ e n=>u.free b o e n (by simp)) (λb o _ e=>u.there b o e (by simp)) u.tups u.frzs u.tbls (λm' hm=>by
  obtain⟨o',es',ep',ho',r'⟩:=hm;rw[ho]at ho';cases ho'
  exact⟨_,es',ep',hL,r'⟩) hok I.bare
def Inv.call {g':Array GenState}{t':Nat}{d':Drawn}{ch:List Addr}(I:Inv X pins σ H s)(u:Un (frs X.stack) ch H H' s.heap h')(hok:HOk X.prog X.w H' h')(hg:AllBare g')
 (hch:∀b∈ch,(b∈X.ex∨X.s₀.heap.objs.size<=b)/\b≠X.env.locals/\(∀x c,X.env.cells.lookup x=some c->c≠b)/\∀p∈X.pn++pins,p.1≠b) :
 Inv X pins σ H' { s with heap:=h',gens:=g',drawn:=d',toks:=t' }:=by
 obtain⟨m,⟨o,es,ep,ho,r⟩,_⟩:=id I.loc;obtain⟨sl,hL⟩:=u.any ho I.free λz=>(hch _ z).2.1 rfl
 exact I.step (ch:=ch) hch (λb o hL hb hc e n=>u.keep b o e n (λz=>(List.mem_cons.mp (I.YM b z)).elim hL hb) hc) (λb o _ _ hc e n=>u.any e n hc) (λb o hc e n=>u.free b o e n hc) (λb o hc e=>u.there b o e hc) u.tups u.frzs u.tbls (λm' hm=>by
  obtain⟨o',es',ep',ho',r'⟩:=hm;rw[ho]at ho';cases ho'
  exact⟨_,es',ep',hL,r'⟩) hok hg
def Inv.turned {t':Nat}{it:Addr}(I:Inv X pins σ H s)(k:∀b o,b≠it->s.heap.get? b=some o->h'.get? b=some o)(hn:H it=none)(hL:it≠X.env.locals)
 (h1:it∈X.ex∨X.s₀.heap.objs.size<=it) (h2:∀x c,X.env.cells.lookup x=some c->c≠it) (h3:∀p∈X.pn++pins,p.1≠it):Inv X pins σ H { s with heap:=h',toks:=t' }:=by
 have nit:∀b u,H b=some u->b≠it:=λb u e z=>by rw[z,hn]at e;cases e
 refine I.step (g':=s.gens) (d':=s.drawn) (ch:=[it]) (λb hb=>?_) (λb o _ _ hc e _=>k b o (λz=>hc (by simp[z])) e) (λb o _ _ hc e _=>⟨o.slots,k b o (λz=>hc (by simp[z])) e⟩) (λ_ _ _ _ n=>n)
  (λb o hc e=>⟨o,k b o (λz=>hc (by simp[z])) e⟩) (λ_ _ e=>e) (λ_ _ _ e=>e) (λb ps e=>⟨#[],by rw[e];simp⟩) (λm hm=>?_) (λb u e=>?_) I.bare
 ·have e:b=it:=by simpa using hb
  subst e;exact⟨h1,hL,h2,h3⟩
 ·obtain⟨o,es,ep,ho,r⟩:=hm;exact⟨o,es,ep,k _ o (Ne.symm hL) ho,r⟩
 ·refine (I.hok b u e).stay (λc v hc q=>k c v ?_ q) (λ_ q=>q) λ_ _ q=>q
  rcases hc with z | z
  ·rw[z];exact nit b u e
  ·exact nit c _ z
def Inv.tok (I:Inv X pins σ H s)(t:Nat):Inv X pins σ H { s with toks:=t }:=I.un (h':=s.heap) (t':=t) Un.refl I.hok
def Inv.kept {t':Nat}(I:Inv X pins σ H s)(k:∀b u,s.heap.get? b=some u->h'.get? b=some u):Inv X pins σ H { s with heap:=h',toks:=t' }:=I.un (Un.kept k) (I.hok.kept k)
def Inv.laid {a:Addr}{o:HO}{t':Nat}(I:Inv X pins σ H s)(k:∀b u,s.heap.get? b=some u->h'.get? b=some u)(hp:s.heap.objs.size<=a)(new:x8 X.prog X.w (upd H a o) h' a o) :
 Inv X pins σ (upd H a o) { s with heap:=h',toks:=t' }:=I.un (Un.laid k hp (I.hok.fresh hp)) (I.hok.laid k hp new)
def Inv.write {x e:Addr}{o:HO}{t':Nat}(I:Inv X pins σ H s)(mu:Mut (H x))(he:e=x∨H e=some (.own x))(k:∀b u,b≠e->s.heap.get? b=some u->h'.get? b=some u)(heo:∃u,h'.get? e=some u)
 (new:x8 X.prog X.w (upd H x o) h' x o):Inv X pins σ (upd H x o) { s with heap:=h',toks:=t' }:=I.un (Un.write mu he k heo) (I.hok.write mu he k heo new)
def Inv.weak {σ':List (Option V)}(I:Inv X pins σ H s)(hl:σ'.length=σ.length)(w:∀ (i:Nat) v,σ'[i]?=some (some v)->σ[i]?=some (some v)):Inv X pins σ' H s :=
 ⟨I.ok,I.os,I.bare,I.base,let ⟨m,hn,hl'⟩:=I.loc;⟨m,hn,λi x v e1 e2 e3=>hl' i x v e1 (w i v e2) e3⟩,I.cell,I.free,I.freeC,I.pin,I.hok,hl.trans I.len⟩
def Inv.kaj {pins':List (Addr×Obj)}(I:Inv X pins σ H s)(h:∀p∈pins',s.heap.get? p.1=some p.2/\H p.1=none/\p.1≠X.env.locals/\p.1∉X.fs/\∀v,p.2.data ≠ .cell v):Inv X pins' σ H s :=
 ⟨I.ok,I.os,I.bare,I.base,I.loc,I.cell,I.free,I.freeC,λp hp=>(List.mem_append.mp hp).elim (λz=>I.pin p (List.mem_append_left _ z)) (h p),I.hok,I.len⟩
def JC {N:List Str}(hN:N.Nodup){i j:Nat}{x:Str}(a:N[i]?=some x)(b:N[j]?=some x):i=j:=by
 obtain⟨h1,e1⟩:=List.getElem?_eq_some_iff.mp a;obtain⟨h2,e2⟩:=List.getElem?_eq_some_iff.mp b;exact (List.getElem_inj hN).mp (e1.trans e2.symm)
def kcx {M:Model}{A:Around}{E:zEx}{i:Nat}{x:Str}{v:V}{u:Value}{Q:Unit->Shared->Prop}(I:Inv X pins σ H s)(hN:X.N.Nodup)(hi:X.N[i]?=some x)(hx:Loc X.env.scope x)(r:RelV v u)
 (h:∀s',Inv X pins (σ.set i (some v)) H s'->(∃a,Heap.SameBut a s.heap s'.heap/\(a=X.env.locals∨X.env.cells.lookup x=some a))->Q () s') (hf:X.fn x=true∨X.env.scope.names.lookup x=some .local:=by first | exact .inl rfl | exact .inr rfl | assumption):wpAny M A (storeName X.env x u) Q E s:=by
 obtain⟨m,hn,hl⟩:=id I.loc;have hcls:(X.env.scope.kind == .class||(X.env.scope.kind == .module&&X.env.locals != X.env.globals))=false:=by rw[I.ok.kind];rfl
 have hiσ:i < σ.length:=by rw[I.len];exact (List.getElem?_eq_some_iff.mp hi).1
 have cne:=I.cne
 have tracked:∀ {a:Addr} {h':Heap},(∃o,s.heap.get? a=some o/\H a=none)->Heap.SameBut a s.heap h'->HOk X.prog X.w H h':=λ{a h'} ha hs b ob e=>by
  obtain⟨_,_,hfree⟩:=ha;refine (I.hok b ob e).stay (λc w' hc q=>(hs.2 c ?_).trans q) (λ_ q=>q) λ_ _ q=>q
  rintro rfl
  rcases hc with rfl | hc
  ·rw[hfree]at e;cases e
  ·rw[hfree]at hc;cases hc
 rcases hx with hk | hk
 ·refine wpAny_storeName_local hk hn (λh' hn' hs=>?_) hcls;obtain⟨oL,_,_,hoL,_⟩:=id hn;refine h _ ⟨I.ok,I.os,I.bare,⟨λb o e n hb hx=>?_,λb o e n hb hx=>?_,I.base.free,λb o e hx=>?_,I.base.tups,I.base.frzs,I.base.tbls⟩,⟨_,hn',λj y v' e1 e2 e3=>?_⟩,λy c e=>?_,I.free,I.freeC,λp hp=>?_,tracked ⟨oL,hoL,I.free⟩ hs,by simpa using I.len⟩ ⟨_,hs,.inl rfl⟩
  ·exact (hs.2 b (zas (Nat.lt_of_lt_of_le (zaf e) I.ok.above))).trans (I.base.keep b o e n hb hx)
  ·obtain⟨sl,e1⟩:=I.base.slot b o e n hb hx;exact⟨sl,(hs.2 b (zas (Nat.lt_of_lt_of_le (zaf e) I.ok.above))).trans e1⟩
  ·obtain⟨o',e1⟩:=I.base.there b o e hx;exact⟨o',(hs.2 b (zas (Nat.lt_of_lt_of_le (zaf e) I.ok.above))).trans e1⟩
  ·by_cases hj:j=i
   ·subst hj;rw[hi]at e1;cases e1
    rw[List.getElem?_set_self hiσ]at e2;cases e2;exact⟨u,r,.inl ⟨hk,by simp⟩⟩
   ·rw[zan (Ne.symm hj)]at e2;obtain⟨u',r',q⟩:=hl j y v' e1 e2 e3;refine⟨u',r',?_⟩
    rcases q with ⟨k,e⟩ | ⟨k,c,e,z⟩
    ·refine .inl ⟨k,?_⟩;have:y≠x:=λe=>hj (JC hN e1 (e ▸ hi))
     simp[this,e]
    ·exact .inr ⟨k,c,e,z.sameBut hs (cne y c e)⟩
  ·obtain⟨w',z⟩:=I.cell y c e;exact⟨w',z.sameBut hs (cne y c e)⟩
  ·obtain⟨e,n,ne,nf,d⟩:=I.pin p hp;exact⟨(hs.2 p.1 ne).trans e,n,ne,nf,d⟩
 ·have hfn:X.fn x=true:=by
   rcases hf with z | z
   ·exact z
   ·rw[z]at hk;cases hk
  obtain⟨c,hc⟩:=I.ok.has x (.inl hk);obtain⟨w',z⟩:=I.cell x c hc;refine wpAny_storeName_cell I.ok.kind hk hc z (λh' hc' hs=>?_);obtain⟨oc,hoc,hocd⟩:=id z;refine h { s with heap:=h' } ⟨I.ok,I.os,I.bare,⟨λb o e n hb hx=>?_,λb o e n hb hx=>?_,I.base.free,λb o e hx=>?_,I.base.tups,I.base.frzs,I.base.tbls⟩,⟨m,hn.sameBut hs (Ne.symm (cne x c hc)),λj y v' e1 e2 e3=>?_⟩,λy c' e=>?_,I.free,I.freeC,λp hp=>?_,tracked ⟨oc,hoc,I.freeC x c hc⟩ hs,by simpa using I.len⟩ ⟨c,hs,.inr hc⟩
  ·exact (hs.2 b (zas (Nat.lt_of_lt_of_le (zaf e) (I.ok.cab x c hfn hc)))).trans (I.base.keep b o e n hb hx)
  ·obtain⟨sl,e1⟩:=I.base.slot b o e n hb hx;exact⟨sl,(hs.2 b (zas (Nat.lt_of_lt_of_le (zaf e) (I.ok.cab x c hfn hc)))).trans e1⟩
  ·obtain⟨o',e1⟩:=I.base.there b o e hx;exact⟨o',(hs.2 b (zas (Nat.lt_of_lt_of_le (zaf e) (I.ok.cab x c hfn hc)))).trans e1⟩
  ·by_cases hj:j=i
   ·subst hj;rw[hi]at e1;cases e1
    rw[List.getElem?_set_self hiσ]at e2;cases e2;exact⟨u,r,.inr ⟨.inl hk,c,hc,hc'⟩⟩
   ·rw[zan (Ne.symm hj)]at e2;obtain⟨u',r',q⟩:=hl j y v' e1 e2 e3;refine⟨u',r',?_⟩
    rcases q with q | ⟨k,c',e,z'⟩
    ·exact .inl q
    ·refine .inr ⟨k,c',e,z'.sameBut hs ?_⟩;rintro rfl;exact hj (JC hN e1 (I.ok.inj _ _ _ e hc ▸ hi))
  ·by_cases hcc:c'=c
   ·subst hcc;exact⟨_,hc'⟩
   ·obtain⟨w2,z2⟩:=I.cell y c' e;exact⟨w2,z2.sameBut hs hcc⟩
  ·obtain⟨e,n,ne,nf,d⟩:=I.pin p hp;refine⟨(hs.2 p.1 ?_).trans e,n,ne,nf,d⟩;intro q;rw[q,hoc]at e;have q':oc=p.2:=Option.some.inj e;exact d w' (by rw[<- q'];exact hocd)
def Ys {M:Model}{A:Around}{E:zEx}{i:Nat}{x:Str}{v:V}{u:Value}{Q:Unit->Shared->Prop}(I:Inv X pins σ H s)(hN:X.N.Nodup)(hi:X.N[i]?=some x)(hx:Loc X.env.scope x)(r:RelV v u)
 (h:∀s',Inv X pins (σ.set i (some v)) H s'->Q () s') (hf:X.fn x=true∨X.env.scope.names.lookup x=some .local:=by first | exact .inl rfl | exact .inr rfl | assumption):wpAny M A (storeName X.env x u) Q E s :=
 kcx I hN hi hx r (λs' I' _=>h s' I') hf
def Inv.keM {s':Shared}{ch:List Addr}(I:Inv X pins σ H s)(ho:s'.os=s.os)(u:Un (frs X.stack) ch H H' s.heap s'.heap)(hok:HOk X.prog X.w H' s'.heap)(hg:AllBare s'.gens)
 (hch:∀b∈ch,(b∈X.ex∨X.s₀.heap.objs.size<=b)/\b≠X.env.locals/\(∀x c,X.env.cells.lookup x=some c->c≠b)/\∀p∈X.pn++pins,p.1≠b):Inv X pins σ H' s':=by
 obtain⟨h',g',d',t',o'⟩:=s';have e:o'=s.os:=ho;subst e;exact I.call (g':=g') (t':=t') (d':=d') u hok hg hch
end
abbrev XK:=Value->Option Addr->Hp->Prop
abbrev St:=List (Option V)
abbrev VK:=V->Hp->Prop
abbrev TE:=St->Hp->VK->Prop
abbrev TT:=St->Hp->(Bool->Hp->Prop)->Prop
abbrev TA:=St->Hp->(List V->Hp->Prop)->Prop
structure Ends where
 nx:St->Hp->Prop
 rt:VK
 bk:St->Hp->Prop:=λ_ _=>False
 ct:St->Hp->Prop:=λ_ _=>False
abbrev TS:=Ends->St->Hp->Prop
def EP (X:Cx)(pins:List (Addr×Obj))(σ:St)(Q:VK)(u:Value)(s':Shared):Prop:=∃v H',Inv X pins σ H' s'/\RelV v u/\Q v H'
def TP (X:Cx)(pins:List (Addr×Obj))(σ:St)(Q:Bool->Hp->Prop)(b:Bool)(s':Shared):Prop:=∃H',Inv X pins σ H' s'/\Q b H'
def AP (X:Cx)(pins:List (Addr×Obj))(σ:St)(Q:List V->Hp->Prop)(us:List Value)(s':Shared):Prop:=∃vs H',Inv X pins σ H' s'/\Vals vs us/\Q vs H'
def SP (X:Cx)(pins:List (Addr×Obj))(D:Ends)(f:Flow)(s':Shared):Prop :=
 match f with
 |.next=>∃σ' H',Inv X pins σ' H' s'/\D.nx σ' H'
 |.brk=>∃σ' H',Inv X pins σ' H' s'/\D.bk σ' H'
 |.cont=>∃σ' H',Inv X pins σ' H' s'/\D.ct σ' H'
 |.ret u=>∃v σ' H',Inv X pins σ' H' s'/\RelV v u/\D.rt v H'
def PE (X:Cx)(e:Expr)(t:TE):Prop :=
 ∀ (pins:List (Addr×Obj)) (s:Shared) (σ:St) (H:Hp) (Q:VK),Inv X pins σ H s->t σ H Q->wpAny (model X.prog X.w) X.A (eval e X.env) (EP X pins σ Q) X.xe s
def PT (X:Cx)(e:Expr)(t:TT):Prop :=
 ∀ (pins:List (Addr×Obj)) (s:Shared) (σ:St) (H:Hp) (Q:Bool->Hp->Prop),Inv X pins σ H s->t σ H Q->wpAny (model X.prog X.w) X.A (isTrue e X.env (eval e X.env)) (TP X pins σ Q) X.xe s
def PW (X:Cx)(e:Expr)(t:TT):Prop :=
 ∀ (whole:Sem Value) (pins:List (Addr×Obj)) (s:Shared) (σ:St) (H:Hp) (Q:Bool->Hp->Prop),Inv X pins σ H s->t σ H Q->wpAny (model X.prog X.w) X.A (isTrue e X.env whole) (TP X pins σ Q) X.xe s
def PW.pt {X:Cx}{e:Expr}{t:TT}(h:PW X e t):PT X e t:=h _
def PA (X:Cx)(es:List Expr)(t:TA):Prop :=
 ∀ (pos:Pos) (pins:List (Addr×Obj)) (s:Shared) (σ:St) (H:Hp) (Q:List V->Hp->Prop),Inv X pins σ H s->t σ H Q->wpAny (model X.prog X.w) X.A (spliced (backTo pos (starEach es X.env))) (AP X pins σ Q) X.xe s
def PS (X:Cx)(st:Stmt)(t:TS):Prop :=
 ∀ (pins:List (Addr×Obj)) (s:Shared) (σ:St) (H:Hp) (D:Ends),Inv X pins σ H s->t D σ H->wpAny (model X.prog X.w) X.A (exec st X.env) (SP X pins D) X.xe s
def PSs (X:Cx)(st:List Stmt)(t:TS):Prop :=
 ∀ (pins:List (Addr×Obj)) (s:Shared) (σ:St) (H:Hp) (D:Ends),Inv X pins σ H s->t D σ H->wpAny (model X.prog X.w) X.A (execs st X.env) (SP X pins D) X.xe s
def thn {α:Type}{t:Sem α}{Q Q':α->Shared->Prop}{M:Model}{A:Around}{E:zEx}{s:Shared}(h:wpAny M A t Q E s)(hQ:∀a s,Q a s->Q' a s):wpAny M A t Q' E s:=wpAny_mono h hQ λ_ _ x=>x
section
variable {X:Cx}
def bin {a b:Expr}{ta tb:TE}(ha:PE X a ta)(hb:PE X b tb){pins:List (Addr×Obj)}{s:Shared}{σ:St}{H:Hp}{R:V->V->Hp->Prop}(I:Inv X pins σ H s)(h:ta σ H λx H1=>tb σ H1 λy H2=>R x y H2)
 {α:Type} {Q:α->Shared->Prop} {f:Value->Value->Sem α}
 (hf:∀v u s2 x y H2,Inv X pins σ H2 s2->RelV x v->RelV y u->R x y H2->wpAny (model X.prog X.w) X.A (f v u) Q X.xe s2) :
 wpAny (model X.prog X.w) X.A (eval a X.env) (λv s₁=>wpAny (model X.prog X.w) X.A (eval b X.env) (λu s₂=>wpAny (model X.prog X.w) X.A (f v u) Q X.xe s₂) X.xe s₁) X.xe s:=by
 refine thn (ha pins s σ H _ I h) λv s1 ⟨x,H1,I1,r1,q1⟩=>?_
 refine thn (hb pins s1 σ H1 _ I1 q1) λu s2 ⟨y,H2,I2,r2,q2⟩=>?_
 exact hf v u s2 x y H2 I2 r1 r2 q2
def kiS (i:Nat):TE:=λσ H Q=>∃v,σ[i]?=some (some v)/\Q v H
def tC (v:V):TE:=λ_ H Q=>Q v H
def xN {i:Nat}{x:Str}{pos:Pos}(hN:X.N[i]?=some x)(hv:Vis X.env.scope x)(hd:(x==("__debug__":Str))=false:=by decide)(hcd:(x==("__classdict__":Str))=false:=by decide):PE X (.Name x pos) (kiS i):=by
 intro pins s σ H Q I h;obtain⟨v,e,h⟩:=h;obtain⟨m,hn,hl⟩:=I.loc;obtain⟨u,r,l⟩:=hl i x v hN e hv;have fin:EP X pins σ Q u s:=⟨v,H,I,r,h⟩
 rcases l with ⟨hk,hm⟩ | ⟨hk,c,hc,hcell⟩
 ·exact wpAny_Name (wpAny_loadName_local I.ok.kind hk hn hm fin) hd
 ·rcases hk with hk | hk
  ·exact wpAny_Name (wpAny_loadName_cell I.ok.kind hk hc hcell fin) hd
  ·exact wpAny_Name (wpAny_loadName_free I.ok.kind hk hc hcell fin hcd) hd
def kcH {i j pos}:PE X (.Constant (.int i) j pos) (tC (.int i)):=λ_ _ _ H _ I h=>wpAny_Constant_int ⟨.int i,H,I.tok _,⟨_,rfl⟩,h⟩
def kaA {b j pos}:PE X (.Constant (.bool b) j pos) (tC (.bl b)):=λ_ _ _ H _ I h=>Constant_bool ⟨.bl b,H,I,rfl,h⟩
def khu {j pos}:PE X (.Constant .none j pos) (tC .non):=λ_ _ _ H _ I h=>Constant_none ⟨.non,H,I,rfl,h⟩
def kbp {x j pos}:PE X (.Constant (.str x) j pos) (tC (.str x)):=λ_ _ _ H _ I h=>Calls.Constant_str ⟨.str x,H,I.tok _,⟨_,rfl⟩,h⟩
def Gl (X:Cx)(x:Str):Prop:=X.env.kindOf x=some .globalImplicit
def Vb {E:zEx}{pins:List (Addr×Obj)}{s:Shared}{σ:St}{H:Hp}{x:Str}{u:Value}{pos:Pos}{Q:zEx}(I:Inv X pins σ H s)(hg:Gl X x)(hm:X.mg x=some u)(h:Q u s)
 (hd:(x==("__debug__":Str))=false:=by decide):wpAny (model X.prog X.w) X.A (eval (.Name x pos) X.env) Q E s :=
 Calls.Name_function_global I.ok.kind hg (Calls.loadGlobal_global (by rw[I.ok.glob];exact I.mod.glob.keeps I.bk) hm h) hd
def zI {E:zEx}{pins:List (Addr×Obj)}{s:Shared}{σ:St}{H:Hp}{x:Str}{u:Value}{pos:Pos}{Q:zEx}(I:Inv X pins σ H s)(hg:Gl X x)(hm:X.mg x=none)(hv:bootBuiltins x=some u)(h:Q u s)
 (hn:x ≠ "__name__":=by decide) (hd:(x==("__debug__":Str))=false:=by decide):wpAny (model X.prog X.w) X.A (eval (.Name x pos) X.env) Q E s:=by
 obtain⟨mb,h1,h2⟩:=I.mod.blt;exact Calls.Name_function_global I.ok.kind hg (Calls.loadGlobal_builtin (by rw[I.ok.glob];exact I.mod.glob.keeps I.bk) hm (by rw[I.ok.blt];exact h1.keeps I.bk) ((h2 x hn).trans hv) h) hd
def Z2 {x:Str}{v:V}{u:Value}{pos:Pos}(hg:Gl X x)(hm:X.mg x=some u)(r:RelV v u)(hd:(x==("__debug__":Str))=false:=by decide):PE X (.Name x pos) (tC v) :=
 λ_ _ _ H _ I h=>Vb I hg hm ⟨v,H,I,r,h⟩ hd
def kak {x:Str}{v:V}{u:Value}{pos:Pos}(hg:Gl X x)(hm:X.mg x=none)(hv:bootBuiltins x=some u)(r:RelV v u)(hn:x ≠ "__name__":=by decide)(hd:(x==("__debug__":Str))=false:=by decide):PE X (.Name x pos) (tC v) :=
 λ_ _ _ H _ I h=>zI I hg hm hv ⟨v,H,I,r,h⟩ hn hd
variable {a b:Expr}{ta tb:TE}{pos:Pos}
def PC (X:Cx)(op:CmpOp)(a b:Expr)(t:TE):Prop :=
 ∀ (pins:List (Addr×Obj)) (s:Shared) (σ:St) (H:Hp) (Q:VK),Inv X pins σ H s->t σ H Q →
  wpAny (model X.prog X.w) X.A (eval a X.env) (λv s₁=>wpAny (model X.prog X.w) X.A (eval b X.env) (λu s₂=>wpAny (model X.prog X.w) X.A (compareOp op v u) (EP X pins σ Q) X.xe s₂) X.xe s₁) X.xe s
def JN (b:Expr){op:CmpOp}(h:op ≠ .In)(h2:op ≠ .NotIn):behindInMarks op b=false:=by
 have e1:(op==CmpOp.In)=false:=by cases op <;> first | rfl | exact absurd rfl h
 have e2:(op==CmpOp.NotIn)=false:=by cases op <;> first | rfl | exact absurd rfl h2
 cases b <;> simp[behindInMarks,e1,e2]
def kjF (ta:TE):TE:=λσ H Q=>ta σ H λx H1=>Q (.bl (decide (x = .non))) H1
def kih (ta:TE):TE:=λσ H Q=>ta σ H λx H1=>Q (.bl (!decide (x = .non))) H1
def RelV.ug {x:V}{v:Value}(r:RelV x v):(v==Value.none)=decide (x = .non):=by
 cases x with
 |non=>cases r;rfl
 |bl _=>cases r;rfl
 |int _=>obtain⟨t,rfl⟩:=r;rfl
 |str _=>obtain⟨t,rfl⟩:=r;rfl
 |byt _=>obtain⟨t,rfl⟩:=r;rfl
 |flt _=>obtain⟨t,rfl⟩:=r;rfl
 |ref _=>cases r;rfl
 |ty _=>cases r;rfl
def kcw {j pos'}(ha:PE X a ta):PC X .Is a (.Constant .none j pos') (kjF ta):=by
 intro pins s σ H Q I h;refine thn (ha pins s σ H _ I h) λv s1 ⟨x,H1,I1,r1,q1⟩=>?_
 exact Constant_none (is_none_gen ⟨.bl _,H1,I1,by rw[r1.ug];rfl,q1⟩)
def UM {j pos'}(ha:PE X a ta):PC X .IsNot a (.Constant .none j pos') (kih ta):=by
 intro pins s σ H Q I h;refine thn (ha pins s σ H _ I h) λv s1 ⟨x,H1,I1,r1,q1⟩=>?_
 exact Constant_none (isnot_none_gen ⟨.bl _,H1,I1,by rw[r1.ug];rfl,q1⟩)
def tB (t:TE):TT:=λσ H Q=>t σ H λx H1=>∃c,x = .bl c/\Q c H1
def kbG {op:CmpOp}{t:TE}(h:PC X op a b t)(h1:behindInMarks op b=false:=by first | exact JN _ (by decide) (by decide) | rfl):PE X (.Compare a [op] [b] pos) t:=λpins s σ H Q I hw=>wpAny_Compare1 (h pins s σ H Q I hw) h1
def kcs {op:CmpOp}{t:TE}(h:PC X op a b t)(h1:behindInMarks op b=false:=by first | exact JN _ (by decide) (by decide) | rfl):PT X (.Compare a [op] [b] pos) (tB t):=by
 intro pins s σ H Q I hw;refine wpAny_isTrue_Compare1 (thn (h pins s σ H _ I hw) λv s1 h1=>thn h1 λu s2 h2=>thn h2 λc s3 ⟨x,H1,I1,r1,q1⟩=>?_) h1;obtain⟨d,rfl,q⟩:=q1;cases r1;exact wpAny_truthy_bool ⟨H1,I1,q⟩
variable {tA tB':TT}{rest:List Expr}
def kjG (t u:TT):TT:=λσ H Q=>t σ H λc H1=>if c=true then u σ H1 Q else Q false H1
def tOr (t u:TT):TT:=λσ H Q=>t σ H λc H1=>if c=true then Q true H1 else u σ H1 Q
def kjb (t:TT):TT:=λσ H Q=>t σ H λc H1=>Q (!c) H1
def pw_and1 (ha:PT X a tA):PW X (.BoolOp .And [a] pos) tA:=by
 intro wh pins s σ H Q I h;refine isTrue_and (thn (ha pins s σ H Q I h) λc s1 e=>?_)
 cases c with
 |true=>exact isTrue_and_nil e
 |false=>exact e
def pw_or1 (ha:PT X a tA):PW X (.BoolOp .Or [a] pos) tA:=by
 intro wh pins s σ H Q I h;refine isTrue_or (thn (ha pins s σ H Q I h) λc s1 e=>?_)
 cases c with
 |false=>exact isTrue_or_nil e
 |true=>exact e
def pw_and (ha:PT X a tA)(hb:PW X (.BoolOp .And (b::rest) pos) tB'):PW X (.BoolOp .And (a::b::rest) pos) (kjG tA tB'):=by
 intro wh pins s σ H Q I h;refine isTrue_and (thn (ha pins s σ H _ I h) λc s1 ⟨H1,I1,q1⟩=>?_)
 cases c with
 |true=>exact hb wh pins s1 σ H1 Q I1 q1
 |false=>exact⟨H1,I1,q1⟩
def pw_or (ha:PT X a tA)(hb:PW X (.BoolOp .Or (b::rest) pos) tB'):PW X (.BoolOp .Or (a::b::rest) pos) (tOr tA tB'):=by
 intro wh pins s σ H Q I h;refine isTrue_or (thn (ha pins s σ H _ I h) λc s1 ⟨H1,I1,q1⟩=>?_)
 cases c with
 |true=>exact⟨H1,I1,q1⟩
 |false=>exact hb wh pins s1 σ H1 Q I1 q1
def khF (ha:PT X a tA):PT X (.UnaryOp .Not a pos) (kjb tA):=by
 intro pins s σ H Q I h;exact isTrue_not (ha pins s σ H (λc H1=>Q (!c) H1) I h)
def kiG (ta tb:TE):TE:=λσ H Q=>ta σ H λx H1=>∃c,x = .bl c/\if c=true then tb σ H1 Q else Q (.bl false) H1
def kjX (ta tb:TE):TE:=λσ H Q=>ta σ H λx H1=>∃c,x = .bl c/\if c=true then Q (.bl true) H1 else tb σ H1 Q
def kcp {op}{t:TE}(h:PE X a t):PE X (.BoolOp op [a] pos) t:=λpins s σ H Q I hw=>BoolOp_one (h pins s σ H Q I hw)
def ue (ha:PE X a ta)(hb:PE X (.BoolOp .And (b::rest) pos) tb):PE X (.BoolOp .And (a::b::rest) pos) (kiG ta tb):=by
 intro pins s σ H Q I h;refine BoolOp_and (thn (ha pins s σ H _ I h) λv s1 ⟨x,H1,I1,r1,q1⟩=>?_);obtain⟨c,rfl,q1⟩:=q1;cases r1;refine wpAny_truthy_bool ?_
 cases c with
 |true=>exact hb pins s1 σ H1 Q I1 q1
 |false=>exact⟨.bl false,H1,I1,rfl,q1⟩
def kij (ha:PE X a ta)(hb:PE X (.BoolOp .Or (b::rest) pos) tb):PE X (.BoolOp .Or (a::b::rest) pos) (kjX ta tb):=by
 intro pins s σ H Q I h;refine BoolOp_or (thn (ha pins s σ H _ I h) λv s1 ⟨x,H1,I1,r1,q1⟩=>?_);obtain⟨c,rfl,q1⟩:=q1;cases r1;refine wpAny_truthy_bool ?_
 cases c with
 |false=>exact hb pins s1 σ H1 Q I1 q1
 |true=>exact⟨.bl true,H1,I1,rfl,q1⟩
def tIf (t:TT)(ta tb:TE):TE:=λσ H Q=>t σ H λc H1=>if c=true then ta σ H1 Q else tb σ H1 Q
def kdF {c:Expr}(hc:PT X c tA)(ha:PE X a ta)(hb:PE X b tb):PE X (.IfExp c a b pos) (tIf tA ta tb):=by
 intro pins s σ H Q I h;refine wpAny_IfExp (thn (hc pins s σ H _ I h) λd s1 ⟨H1,I1,q1⟩=>?_)
 cases d with
 |true=>exact ha pins s1 σ H1 Q I1 q1
 |false=>exact hb pins s1 σ H1 Q I1 q1
end
def SqL (K:zFr)(H:Hp)(a:Addr)(xs:List V):Prop :=
 Rd H a (.lst xs) ∨
  ∃ (o:Obj) (its:Array Value) (n:Nat),K.lookup a=some o/\o.cls = .type "list" /\ o.dict=none/\o.data = .seq its n/\its.size<=sizeLine/\Vals xs its.toList
def SqT (K:zFr)(H:Hp)(a:Addr)(xs:List V):Prop :=
 Rd H a (.tup xs) ∨
  ∃ (o:Obj) (its:Array Value) (n:Nat),K.lookup a=some o/\o.cls = .type "tuple" /\ o.data = .seq its n/\its.size<=sizeLine/\Vals xs its.toList
def kja:Value->Option V
 |.none=>some .non
 |.bool b=>some (.bl b)
 |.int i _=>some (.int i)
 |.str x _=>some (.str x)
 |.bytes b _=>some (.byt b)
 |.float b _=>some (.flt b)
 |.ref a=>some (.ref a)
 |.type n=>some (.ty n)
 |_=>none
def RelV.abs {x:V}{u:Value}(r:RelV x u):kja u=some x:=by
 cases x with
 |non=>cases r;rfl
 |bl _=>cases r;rfl
 |int _=>obtain⟨t,rfl⟩:=r;rfl
 |str _=>obtain⟨t,rfl⟩:=r;rfl
 |byt _=>obtain⟨t,rfl⟩:=r;rfl
 |flt _=>obtain⟨t,rfl⟩:=r;rfl
 |ref _=>cases r;rfl
 |ty _=>cases r;rfl
def RelV.inj {x y:V}{u:Value}(r:RelV x u)(q:RelV y u):x=y:=Option.some.inj (r.abs.symm.trans q.abs)
def Vals.inj {xs ys:List V}{us:List Value}(h:Vals xs us)(q:Vals ys us):xs=ys:=by
 induction h generalizing ys with
 |nil=>cases q;rfl
 |cons r t ih=>
  cases q with
  |cons r' t'=>rw[r.inj r',ih t']
section
variable {X:Cx}{pins:List (Addr×Obj)}{σ:St}{H:Hp}{s:Shared}{a:Addr}{xs ys:List V}
def SqL.of {K:zFr}(h:H a=some (.lst xs)):SqL K H a xs:=.inl (.inl h)
def SqT.of {K:zFr}(h:H a=some (.tup xs)):SqT K H a xs:=.inl (.inl h)
def Inv.list (I:Inv X pins σ H s)(h:SqL X.K H a xs):∃its:List Value,Vals xs its/\PlainL s.heap a its.toArray/\xs.length<=sizeLine:=by
 rcases h with h | ⟨o,its,n,hk,hc,hd,hs,hz,r⟩
 ·obtain⟨z,its,n,r,e⟩:=h.ok I.hok;exact⟨its,r,⟨_,n,e,rfl,rfl,rfl⟩,z⟩
 ·refine⟨its.toList,r,⟨o,n,I.kIn a o hk,hc,hd,by simpa using hs⟩,?_⟩;have e:=r.length;simp only[zao]at e;omega
def Inv.tuple (I:Inv X pins σ H s)(h:SqT X.K H a xs):∃its:List Value,Vals xs its/\IsTup s.heap a its.toArray/\xs.length<=sizeLine:=by
 rcases h with h | ⟨o,its,n,hk,hc,hs,hz,r⟩
 ·obtain⟨z,its,r,p⟩:=h.ok I.hok;exact⟨its,r,p,z⟩
 ·refine⟨its.toList,r,⟨o,I.kIn a o hk,hc,n,by simpa using hs⟩,?_⟩;have e:=r.length;simp only[zao]at e;omega
def Inv.uq (I:Inv X pins σ H s)(h:SqL X.K H a xs)(h':SqL X.K H a ys):xs=ys:=by
 obtain⟨its,r,⟨o,n,e,_,_,d⟩,_⟩:=I.list h;obtain⟨its',r',⟨o',n',e',_,_,d'⟩,_⟩:=I.list h';rw[e]at e';cases e'
 rw[d]at d'
 injection d' with d1 _
 have:its=its':=by simpa using congrArg Array.toList d1
 subst this;exact r.inj r'
def Inv.Qz (I:Inv X pins σ H s)(h:SqT X.K H a xs)(h':SqT X.K H a ys):xs=ys:=by
 obtain⟨its,r,⟨o,e,_,n,d⟩,_⟩:=I.tuple h;obtain⟨its',r',⟨o',e',_,n',d'⟩,_⟩:=I.tuple h';rw[e]at e';cases e'
 rw[d]at d'
 injection d' with d1 _
 have:its=its':=by simpa using congrArg Array.toList d1
 subst this;exact r.inj r'
end
abbrev Cx.yb (X:Cx)(E:zEx):Cx:={ X with xe:=E }
abbrev Cx.nox (X:Cx):Cx:=X.yb λ_ _=>False
def Cx.Ok.yb {X:Cx}(ok:X.Ok)(E:zEx):(X.yb E).Ok :=
 ⟨ok.mod,ok.kind,ok.glob,ok.blt,ok.above,ok.inj,ok.has,ok.cab,ok.hd,ok.frames,ok.stk,ok.exf,ok.bs,ok.bsz,ok.noex,ok.exfs,ok.zZ,ok.frf⟩
def Cx.Ok.Qw {X:Cx}{E:zEx}(ok:(X.yb E).Ok):X.Ok :=
 ⟨ok.mod,ok.kind,ok.glob,ok.blt,ok.above,ok.inj,ok.has,ok.cab,ok.hd,ok.frames,ok.stk,ok.exf,ok.bs,ok.bsz,ok.noex,ok.exfs,ok.zZ,ok.frf⟩
section
variable {X:Cx}{pins:List (Addr×Obj)}{σ:St}{H:Hp}{s:Shared}{E:zEx}
def Inv.yb (I:Inv X pins σ H s)(E:zEx):Inv (X.yb E) pins σ H s:=⟨I.ok.yb E,I.os,I.bare,I.base,I.loc,I.cell,I.free,I.freeC,I.pin,I.hok,I.len⟩
def Inv.Qw (I:Inv (X.yb E) pins σ H s):Inv X pins σ H s:=⟨I.ok.Qw,I.os,I.bare,I.base,I.loc,I.cell,I.free,I.freeC,I.pin,I.hok,I.len⟩
def SP.Qw {D:Ends}{f:Flow}{s':Shared}(h:SP (X.yb E) pins D f s'):SP X pins D f s':=by
 cases f with
 |next=>obtain⟨σ',H',I,q⟩:=h;exact⟨σ',H',I.Qw,q⟩
 |brk=>obtain⟨σ',H',I,q⟩:=h;exact⟨σ',H',I.Qw,q⟩
 |cont=>obtain⟨σ',H',I,q⟩:=h;exact⟨σ',H',I.Qw,q⟩
 |ret u=>obtain⟨v,σ',H',I,r,q⟩:=h;exact⟨v,σ',H',I.Qw,r,q⟩
def PSs.nox {st:List Stmt}{t:TS}(h:PSs X.nox st t):PSs X st t:=λpins s σ H D I hw=>
 wpAny_mono (h pins s σ H D (I.yb _) hw) (λ_ _ q=>q.Qw) λ_ _ z=>False.elim z
end
section
variable {X:Cx}{st:Stmt}{rest:List Stmt}{t u:TS}{e:Expr}{te:TE}{pos:Pos}
def kie:TS:=λD σ H=>D.nx σ H
def ki2 (t u:TS):TS:=λD σ H=>t { D with nx:=u D } σ H
def kgn:PSs X [] kie:=λ_ _ σ H _ I h=>wpAny_execs_nil ⟨σ,H,I,h⟩
def X3 (h1:PS X st t)(h2:PSs X rest u):PSs X (st::rest) (ki2 t u):=by
 intro pins s σ H D I h;refine wpAny_execs_cons (thn (h1 pins s σ H { D with nx:=u D } I h) λf s1 q=>?_)
 cases f with
 |next=>
  obtain⟨σ',H',I',q⟩:=q;exact h2 pins s1 σ' H' D I' q
 |ret v=>exact q
 |brk=>exact q
 |cont=>exact q
def jc (h1:PS X st t):PSs X [st] t:=by
 intro pins s σ H D I h;refine wpAny_execs_cons (thn (h1 pins s σ H D I h) λf s1 q=>?_)
 cases f with
 |next=>exact wpAny_execs_nil q
 |ret v=>exact q
 |brk=>exact q
 |cont=>exact q
def Inv.quiet {pins:List (Addr×Obj)}{σ:St}{H:Hp}{s:Shared}(I:Inv X pins σ H s):interactive X.env=false:=by simp[interactive,I.ok.kind]
def kh7 (te:TE):TS:=λD σ H=>te σ H λ_ H1=>D.nx σ H1
def Vc (he:PE X e te)(hs:swapsWith e none pos.line X.env=pure false:=by rfl):PS X (.Expr e pos) (kh7 te):=by
 intro pins s σ H D I h;exact wpAny_Expr_any (thn (he pins s σ H _ I h) λv s1 ⟨x,H1,I1,r1,q1⟩=>⟨σ,H1,I1,q1⟩) I.quiet hs
def kjB (te:TE):TS:=λD σ H=>te σ H D.rt
def Jm (he:PE X e te):PS X (.Return (some e) pos) (kjB te):=by
 intro pins s σ H D I h;exact wpAny_Return_some (thn (he pins s σ H _ I h) λv s1 ⟨x,H1,I1,r1,q1⟩=>⟨x,σ,H1,I1,r1,q1⟩)
def kjC (c:TT)(t u:TS):TS:=λD σ H=>c σ H λb H1=>if b=true then t D σ H1 else u D σ H1
def kh8 {c:Expr}{a b:List Stmt}{tc:TT}(hc:PT X c tc)(ha:PSs X a t)(hb:PSs X b u):PS X (.If c a b pos) (kjC tc t u):=by
 intro pins s σ H D I h;refine wpAny_If (thn (hc pins s σ H _ I h) λd s1 ⟨H1,I1,q1⟩=>?_)
 cases d with
 |true=>exact ha pins s1 σ H1 D I1 q1
 |false=>exact hb pins s1 σ H1 D I1 q1
end
abbrev TG:=V->St->Hp->(St->Hp->Prop)->Prop
abbrev TGs:=List V->St->Hp->(St->Hp->Prop)->Prop
def PG (X:Cx)(target:Expr)(t:TG):Prop :=
 ∀ (pins:List (Addr×Obj)) (s:Shared) (σ:St) (H:Hp) (v:V) (u:Value) (Q:St->Hp->Prop),Inv X pins σ H s->RelV v u->t v σ H Q →
  wpAny (model X.prog X.w) X.A (assign target X.env u) (λ_ s'=>∃σ' H',Inv X pins σ' H' s'/\Q σ' H') X.xe s
def PGs (X:Cx)(ts:List Expr)(t:TGs):Prop :=
 ∀ (pins:List (Addr×Obj)) (s:Shared) (σ:St) (H:Hp) (vs:List V) (us:List Value) (Q:St->Hp->Prop),Inv X pins σ H s->Vals vs us->t vs σ H Q →
  wpAny (model X.prog X.w) X.A (assignInOrder ((assignEach ts X.env).map (·.2)) us) (λ_ s'=>∃σ' H',Inv X pins σ' H' s'/\Q σ' H') X.xe s
section
variable {X:Cx}{pos:Pos}
def keV (i:Nat):TG:=λv σ H Q=>Q (σ.set i (some v)) H
def UH {i:Nat}{x:Str}(hN:X.N.Nodup)(hi:X.N[i]?=some x)(hx:Loc X.env.scope x)(hf:X.fn x=true∨X.env.scope.names.lookup x=some .local:=by first | exact .inl rfl | exact .inr rfl | assumption):PG X (.Name x pos) (keV i):=by
 intro pins s σ H v u Q I r h;exact wpAny_assign_Name (Ys I hN hi hx r (λs' I'=>⟨_,H,I',h⟩) hf)
def kjO:TGs:=λvs σ H Q=>vs=[]/\Q σ H
def khV (t:TG)(u:TGs):TGs:=λvs σ H Q=>∃v r,vs=v::r/\t v σ H λσ' H'=>u r σ' H' Q
def kgi:PGs X [] kjO:=by
 intro pins s σ H vs us Q I r h;obtain⟨e,h⟩:=h;subst e;cases r;exact assignInOrder_nil ⟨σ,H,I,h⟩
def kc5 {e:Expr} {es:List Expr} {t:TG} {u:TGs} (h1:PG X e t) (h2:PGs X es u)
 (hs:(assignEach (e::es) X.env).map (·.2)=assign e X.env::(assignEach es X.env).map (·.2):=by rfl):PGs X (e::es) (khV t u):=by
 intro pins s σ H vs us Q I r h;obtain⟨v,vr,e1,h⟩:=h;subst e1
 cases r with
 |cons r rr=>
  rw[hs];refine assignInOrder_cons (thn (h1 pins s σ H _ _ _ I r h) λ_ s1 ⟨σ1,H1,I1,q1⟩=>?_);exact h2 pins s1 σ1 H1 _ _ Q I1 rr q1
def ki0 (K:zFr)(n:Nat)(t:TGs):TG:=λv σ H Q=>∃a xs,v = .ref a/\SqT K H a xs/\xs.length=n/\t xs σ H Q
def kg5 {es:List Expr}{k:Nat}{t:TGs}{n:Nat}(hc:X.calm=true)(h:PGs X es t)
 (hn:(assignEach es X.env).length=n:=by rfl) (hst:(assignEach es X.env).findIdx? (·.1)=none:=by rfl):PG X (.Tuple es k pos) (ki0 X.K n t):=by
 intro pins s σ H v u Q I r hw;obtain⟨a,xs,e1,hq,hl,hw⟩:=hw;subst e1;cases r;obtain⟨its,rv,ht,hz⟩:=I.tuple hq;refine assign_Tuple_tuple (I.ok.hd hc) ht (by simp[hn,<- hl,rv.length]) hst λh' hx=>?_
 have I1:Inv X pins σ H { s with heap:=h' }:=I.kept (t':=s.toks) λb o e=>hx b o (zas (zaf e)) e
 exact h pins _ σ H xs _ Q I1 (by simpa using rv) hw
def kjn (te:TE)(g:TG):TS:=λD σ H=>te σ H λx H1=>g x σ H1 D.nx
def YZ {i:Nat}{x:Str}{e:Expr}{te:TE}{pos':Pos}(hN:X.N.Nodup)(hi:X.N[i]?=some x)(hx:Loc X.env.scope x)(he:PE X e te)(hs:swapsWith e (some (.Name x pos')) pos.line X.env=pure false:=by rfl)(hf:X.fn x=true∨X.env.scope.names.lookup x=some .local:=by first | exact .inl rfl | exact .inr rfl | assumption) :
 PS X (.Assign [.Name x pos'] e pos) (kjn te (keV i)):=by
 intro pins s σ H D I h;refine wpAny_Assign_Name (thn (he pins s σ H _ I h) λv s1 ⟨y,H1,I1,r1,q1⟩=>?_) hs;exact Ys I1 hN hi hx r1 (λs2 I2=>⟨_,H1,I2,q1⟩) hf
end
section
variable {X:Cx}{pos:Pos}
def khf (c:TT)(tb:TS):TS:=λD σ H=>∃W:Nat->St->Hp->Prop,(∃m,W m σ H)/\∀m σ H,W m σ H →
 c σ H λb H1=>if b=true then ∃N:St->Hp->Prop,(∀σ' H',N σ' H'->∃m',m' < m/\W m' σ' H')/\tb { D with nx:=N,ct:=N,bk:=D.nx } σ H1 else D.nx σ H1
def kdE {c:Expr}{body:List Stmt}{tc:TT}{tb:TS}(hp:PassesOwn (model X.prog X.w) X.A X.env X.xe)(hc:PT X c tc)(hb:PSs X body tb):PS X (.While c body [] pos) (khf tc tb):=by
 intro pins s σ H D I h;obtain⟨W,⟨m0,w0⟩,turn⟩:=h;refine wpAny_While (codeAny_whileLoop (λn s'=>∃σ' H',Inv X pins σ' H' s'/\W n σ' H') ?_ m0 ⟨σ,H,I,w0⟩);rintro n s1 ⟨σ1,H1,I1,w1⟩;refine wpAny_passesOwn hp (thn (hc pins s1 σ1 H1 _ I1 (turn n σ1 H1 w1)) λb s2 ⟨H2,I2,q2⟩=>?_)
 cases b with
 |true=>
  obtain⟨N,hN,q2⟩:=q2;rw[if_pos rfl];refine wpAny_passesOwn hp (thn (hb pins s2 σ1 H2 _ I2 q2) λf s3 q3=>?_)
  cases f with
  |next=>
   obtain⟨σ3,H3,I3,n3⟩:=q3;obtain⟨m',hm,w3⟩:=hN σ3 H3 n3;exact⟨m',hm,σ3,H3,I3,w3⟩
  |cont=>
   obtain⟨σ3,H3,I3,n3⟩:=q3;obtain⟨m',hm,w3⟩:=hN σ3 H3 n3;exact⟨m',hm,σ3,H3,I3,w3⟩
  |brk=>exact q3
  |ret v=>exact q3
 |false=>
  rw[if_neg Bool.false_ne_true];exact wpAny_execs_nil ⟨σ1,H2,I2,q2⟩
end
structure It where
 go:Nat->Hp->Prop
 yld:Nat->Hp->V->Hp->Prop
 stop:Nat->Hp->Prop
def wN (X:Cx)(pins:List (Addr×Obj))(H:Hp)(b:Addr):Prop :=
 H b=none/\b≠X.env.locals/\b∉X.fs/\(b∈X.ex∨X.s₀.heap.objs.size<=b)/\(∀x c,X.env.cells.lookup x=some c->c≠b)/\∀p∈X.pn++pins,p.1≠b
def Inv.K8 {X:Cx}{pins:List (Addr×Obj)}{σ:St}{H H':Hp}{s:Shared}{b:Addr}(I:Inv X pins σ H s)(hb:s.heap.objs.size<=b)(hn:H' b=none):wN X pins H' b:=by
 refine⟨hn,Nat.ne_of_gt (Nat.lt_of_lt_of_le I.lt hb),I.kiQ hb,.inr (Nat.le_trans I.sz hb),λx c e z=>?_,λp hp z=>?_⟩
 ·obtain⟨v,q⟩:=I.cell x c e;exact absurd (Nat.lt_of_lt_of_le q.lt (by rw[z];exact hb)) (Nat.lt_irrefl _)
 ·exact absurd (Nat.lt_of_lt_of_le (zaf (I.pin p hp).1) (by rw[z];exact hb)) (Nat.lt_irrefl _)
structure Turn (P:Program)(w:World)(K:zFr)(tg:Expr)(J:It)(fp:List Addr)(it:Addr)(tn:Nat->Heap->Prop):Prop where
 mem:it∈fp
 obj:∀i h,tn i h->∀b∈fp,∃o,h.get? b=some o/\∀v,o.data ≠ .cell v
 keep:∀i h h',tn i h->(∀b∈fp,∀o,h.get? b=some o->h'.get? b=some o)->tn i h'
 item:∀ (X:Cx),X.prog=P->X.w=w->X.K=K->X.calm=true->∀ (i:Nat) (pins:List (Addr×Obj)) (s:Shared) (σ:St) (H:Hp) (E:zEx),Inv X pins σ H s->(∀b∈fp,wN X pins H b)->tn i s.heap->J.go i H →
  wpAny (model P w) X.A (pyNext (.ref it)) (λr s1=>∃u,r=some u ∧
   wpAny (model P w) X.A (letOwnedTupleGo tg (.ref it) u) (λ_ s2=>∃x H',Inv X pins σ H' s2/\RelV x u/\J.yld i H x H'/\tn (i+1) s2.heap/\∀b∈fp,H' b=none) E s1) E s
 done:∀ (X:Cx),X.prog=P->X.w=w->X.K=K->X.calm=true->∀ (i:Nat) (pins:List (Addr×Obj)) (s:Shared) (σ:St) (H:Hp) (E:zEx),Inv X pins σ H s->(∀b∈fp,wN X pins H b)->tn i s.heap->J.stop i H →
  wpAny (model P w) X.A (pyNext (.ref it)) (λr s1=>r=none/\Inv X pins σ H s1) E s
 self:∀ (A:Around) (i:Nat) (s:Shared) (Q:zEx) (E:zEx),tn i s.heap->Q (.ref it) s->wpAny (model P w) A (pyIter (.ref it)) Q E s
abbrev TI:=St->Hp->(It->Hp->Prop)->Prop
def PIE (X:Cx)(pins:List (Addr×Obj))(σ:St)(tg:Expr)(R:It->Hp->Prop)(itv:Value)(s2:Shared):Prop :=
 ∃ (it:Addr) (fp:List Addr) (tn:Nat->Heap->Prop) (J:It) (H':Hp),itv = .ref it/\Inv X pins σ H' s2/\Turn X.prog X.w X.K tg J fp it tn/\tn 0 s2.heap/\(∀b∈fp,wN X pins H' b)/\R J H'
def PI (X:Cx)(tg iter:Expr)(wi:TI):Prop :=
 ∀ (pins:List (Addr×Obj)) (s:Shared) (σ:St) (H:Hp) (R:It->Hp->Prop),Inv X pins σ H s->wi σ H R →
  wpAny (model X.prog X.w) X.A (eval iter X.env) (λv s1=>wpAny (model X.prog X.w) X.A (pyIter v) (PIE X pins σ tg R) X.xe s1) X.xe s
def Jb {M:Model} {A:Around} {E:Value -> Shared -> Prop} {s:Shared} {tg:Expr} {it:Addr} {u:Value} {o:Obj} {n:String} {vs:Array Value} {Q:Unit -> Shared -> Prop} (ho:s.heap.get? it = some o) (hc:o.cls = .type n) (hd:o.data = .fields vs)
 (hn:["enumerate","zip","dict_itemiterator","dict_reverseitemiterator","odict_iterator","itertools.zip_longest","itertools.pairwise"].contains n=false) (hQ:Q () s):wpAny M A (letOwnedTupleGo tg (.ref it) u) Q E s:=by
 unfold letOwnedTupleGo
 cases tg <;> first
  |exact zab hQ
  | (cases u <;> first
      |exact zab hQ
      | (refine zaa (wpAny_load ho ?_)
         rw[hc,hd];show wpAny M A (if (["enumerate","zip","dict_itemiterator","dict_reverseitemiterator","odict_iterator","itertools.zip_longest","itertools.pairwise"].contains n&&vs[0]?==some (rawInt _))=true then _ else _) Q E s;rw[if_neg (by intro h;rw[hn,Bool.false_and]at h;cases h)]
         exact zab hQ))
def Itl (K:zFr)(a:Addr):It :=
 ⟨λi H=>∃xs x,SqL K H a xs/\xs[i]?=some x,λi H x H'=>H'=H/\∀xs,SqL K H a xs->xs[i]?=some x,λi H=>∃xs,SqL K H a xs/\xs.length<=i⟩
def Itt (K:zFr)(a:Addr):It :=
 ⟨λi H=>∃xs x,SqT K H a xs/\xs[i]?=some x,λi H x H'=>H'=H/\∀xs,SqT K H a xs->xs[i]?=some x,λi H=>∃xs,SqT K H a xs/\xs.length<=i⟩
def Itr (lo:Int)(n:Nat):It:=⟨λi _=>i < n,λi H x H'=>H'=H/\x = .int (lo+i),λi _=>n<=i⟩
def kbV {P:Program}{w:World}{K:zFr}{tg:Expr}(a it:Addr):Turn P w K tg (Itl K a) [it] it (λi h=>h.IsListIter it a i) where
 mem:=by simp
 obj:=λi h st b hb=>by
  have e:b=it:=by simpa using hb
  subst e;obtain⟨o,e,c,d⟩:=st;exact⟨o,e,λv z=>by rw[d]at z;cases z⟩
 keep:=λi h h' st k=>st.at λo e=>k it (by simp) o e
 item:=by
  intro X hP hw hK hc i pins s σ H E I hf st hg;subst hP hw hK;obtain⟨xs,x,hq,hx⟩:=hg;obtain⟨its,rv,p,hz⟩:=I.list hq;obtain⟨u,hu,ru⟩:=rv.get hx;obtain⟨f0,f1,f2,f3,f4,f5⟩:=hf it (by simp);refine wpAny_pyNext_list_item st p.isList (x:=u) (by simpa using hu) λh' st' sb=>?_
  have I1:Inv X pins σ H { s with heap:=h' }:=I.turned (t':=s.toks) (λb o hb e=>(sb.2 b hb).trans e) f0 f1 f3 f4 f5;obtain⟨o,e,c,d⟩:=id st';exact⟨u,rfl,Jb (s:={ s with heap:=h' }) e c d (by decide) ⟨x,H,I1,ru,⟨rfl,λys hy=>by rw[I.uq hy hq];exact hx⟩,st',λb hb=>(hf b hb).1⟩⟩
 done:=by
  intro X hP hw hK hc i pins s σ H E I hf st hg;subst hP hw hK;obtain⟨xs,hq,hx⟩:=hg;obtain⟨its,rv,p,hz⟩:=I.list hq;obtain⟨f0,f1,f2,f3,f4,f5⟩:=hf it (by simp);have hl:=rv.length;exact wpAny_pyNext_list_end (I.ok.hd hc) st p.isList (by simp;omega) λh' eb=>⟨rfl,I.turned (t':=s.toks) (λb o hb e=>eb b o hb e) f0 f1 f3 f4 f5⟩
 self:=λ_ _ _ _ _ st h=>wpAny_pyIter_listiter st h
def ka9 {P:Program}{w:World}{K:zFr}{tg:Expr}(a it:Addr):Turn P w K tg (Itt K a) [it] it (λi h=>h.IsTupleIter it a i) where
 mem:=by simp
 obj:=λi h st b hb=>by
  have e:b=it:=by simpa using hb
  subst e;obtain⟨o,e,c,d⟩:=st;exact⟨o,e,λv z=>by rw[d]at z;cases z⟩
 keep:=λi h h' st k=>st.at λo e=>k it (by simp) o e
 item:=by
  intro X hP hw hK hc i pins s σ H E I hf st hg;subst hP hw hK;obtain⟨xs,x,hq,hx⟩:=hg;obtain⟨its,rv,p,hz⟩:=I.tuple hq;obtain⟨u,hu,ru⟩:=rv.get hx;obtain⟨f0,f1,f2,f3,f4,f5⟩:=hf it (by simp);refine wpAny_pyNext_tuple_item st (show s.heap.IsTuple a its.toArray from p) (x:=u) (by simpa using hu) λh' st' sb=>?_
  have I1:Inv X pins σ H { s with heap:=h' }:=I.turned (t':=s.toks) (λb o hb e=>(sb.2 b hb).trans e) f0 f1 f3 f4 f5;obtain⟨o,e,c,d⟩:=id st';exact⟨u,rfl,Jb (s:={ s with heap:=h' }) e c d (by decide) ⟨x,H,I1,ru,⟨rfl,λys hy=>by rw[I.Qz hy hq];exact hx⟩,st',λb hb=>(hf b hb).1⟩⟩
 done:=by
  intro X hP hw hK hc i pins s σ H E I hf st hg;subst hP hw hK;obtain⟨xs,hq,hx⟩:=hg;obtain⟨its,rv,p,hz⟩:=I.tuple hq;obtain⟨f0,f1,f2,f3,f4,f5⟩:=hf it (by simp);have hl:=rv.length;exact wpAny_pyNext_tuple_end (I.ok.hd hc) st (show s.heap.IsTuple a its.toArray from p) (by simp;omega) λh' eb=>⟨rfl,I.turned (t':=s.toks) (λb o hb e=>eb b o hb e) f0 f1 f3 f4 f5⟩
 self:=λ_ _ _ _ _ st h=>wpAny_pyIter_tupleiter st h
def kap {P:Program}{w:World}{K:zFr}{tg:Expr}(it:Addr)(lo:Int)(n:Nat):Turn P w K tg (Itr lo n) [it] it (λi h=>IsRangeIter h it (lo+(i:Nat) * 1) ((n:Int) - (i:Nat)) 1) where
 mem:=by simp
 obj:=λi h st b hb=>by
  have e:b=it:=by simpa using hb
  subst e
  exact⟨_,st,λv z=>by
   have z':Data.fields _=Data.cell v:=z
   cases z'⟩
 keep:=λi h h' st k=>k it (by simp) _ st
 item:=by
  intro X hP hw hK hc i pins s σ H E I hf st hg;subst hP hw hK;obtain⟨f0,f1,f2,f3,f4,f5⟩:=hf it (by simp);have W:=Walks.range (prog:=X.prog) (w:=X.w) (I.ok.hd hc) it lo 1 n;refine W.item i s _ _ hg st λv h' tk hv st' kk=>?_
  obtain⟨t,rfl⟩:=hv;have I1:Inv X pins σ H { s with heap:=h',toks:=tk }:=I.turned (λb o hb e=>kk b o (by simpa using hb) e) f0 f1 f3 f4 f5;refine⟨_,rfl,Jb (s:={ s with heap:=h',toks:=tk }) (n:="range_iterator") st' rfl rfl (by decide) ⟨.int (lo+i),H,I1,⟨t,?_⟩,⟨rfl,rfl⟩,st',λb hb=>(hf b hb).1⟩⟩;rw[Int.mul_one]
 done:=by
  intro X hP hw hK hc i pins s σ H E I hf st hg;subst hP hw hK;obtain⟨f0,f1,f2,f3,f4,f5⟩:=hf it (by simp);exact wpAny_pyNext_range_end (I.ok.hd hc) st (by have:n<=i:=hg;omega) λh' eb=>⟨rfl,I.turned (t':=s.toks) (λb o hb e=>eb b o hb e) f0 f1 f3 f4 f5⟩
 self:=λ_ _ _ _ _ st h=>wpAny_pyIter_rangeiter st h
section
variable {X:Cx}{tg:Expr}
def kcO {pins:List (Addr×Obj)}{σ:St}{H:Hp}{s:Shared}{R:It->Hp->Prop}{E:zEx}{lo hi:Int}{t u v:Tok}{tk:Nat}(I:Inv X pins σ H s)(h1:-(2 ^ 62)<=lo)(h2:lo < 2 ^ 62)(h3:-(2 ^ 62)<=hi)(h4:hi < 2 ^ 62)
 (q:R (Itr lo (hi - lo).toNat) H):wpAny (model X.prog X.w) X.A (pyIter (.ref s.heap.objs.size)) (PIE X pins σ tg R) E { s with heap:=s.heap.push { cls:=.type "range",data:=.fields #[.int lo t,.int hi u,.int 1 v] },toks:=tk }:=by
 refine wpAny_pyIter_range (IsRange.new ..) (small_one h1 h2 h3 h4) ?_;have I1:Inv X pins σ H { s with heap:=s.heap.push { cls:=.type "range",data:=.fields #[.int lo t,.int hi u,.int 1 v] },toks:=tk }:=I.kept λb o e=>zac _ e
 refine⟨(s.heap.push { cls:=.type "range",data:=.fields #[.int lo t,.int hi u,.int 1 v] }).objs.size,[(s.heap.push { cls:=.type "range",data:=.fields #[.int lo t,.int hi u,.int 1 v] }).objs.size],_,_,H,rfl,
  I1.kept (t':=tk) λb o e=>zac _ e,kap _ lo (hi - lo).toNat,?_,λb hb=>?_,q⟩
 ·have e1:lo+((0:Nat):Int) * 1=lo:=by simp
  have e2:(((hi - lo).toNat:Nat):Int) - ((0:Nat):Int)=Builtin.Range.rangeSize lo hi 1:=by rw[rangeSize_one];split <;> omega
  show IsRangeIter _ _ (lo+((0:Nat):Int) * 1) ((((hi - lo).toNat:Nat):Int) - ((0:Nat):Int)) 1;rw[e1,e2];exact zag _ rfl
 ·have e:b=(s.heap.push { cls:=.type "range",data:=.fields #[.int lo t,.int hi u,.int 1 v] }).objs.size:=by simpa using hb
  subst e;exact I1.K8 (zak _) (I1.hok.fresh (zak _))
def kiJ (ta:TA):TI:=λσ H R=>ta σ H λvs H1=>∃j:Int,vs=[.int j] /\ -(2 ^ 62)<=j/\j < 2 ^ 62/\R (Itr 0 j.toNat) H1
def kcn {a:Expr}{ta:TA}{p pos:Pos}(hg:Gl X "range")(hm:X.mg "range" = none)(ha:PA X [a] ta)(hs:starEach [a] X.env=[(false,eval a X.env)]:=by rfl):PI X tg (.Call (.Name "range" p) [a] [] pos) (kiJ ta):=by
 intro pins s σ H R I h;refine Call_ (zI I hg hm boot_range (PyProof.Rows.callWith_type1 (thn (ha pos pins s σ H _ I h) λus s1 ⟨vs,H1,I1,r1,q1⟩=>?_) hs rfl));obtain⟨j,e,q1,q2,q⟩:=q1;subst e
 cases r1 with
 |cons r rr=>
  cases rr;obtain⟨t,rfl⟩:=r;exact call_range_1 (kcO I1 (by omega) (by omega) q1 q2 (by simpa using q))
def kjo (wi:TI)(g:TG)(tb:TS):TS:=λD σ H=>wi σ H λJ H1=>∃W:Nat->Nat->St->Hp->Prop,(∃m,W 0 m σ H1)/\∀i m σ H,W i m σ H →
 (J.stop i H/\D.nx σ H)∨(J.go i H/\∃N:St->Hp->Prop,(∀σ' H',N σ' H'->∃m',m' < m/\W (i+1) m' σ' H')/\∀x H',J.yld i H x H'->g x σ H' λσ2 H2=>tb { D with nx:=N,ct:=N,bk:=D.nx } σ2 H2)
def Xg (fp:List Addr)(h:Heap):List (Addr×Obj):=fp.filterMap λb=>(h.get? b).map λo=>(b,o)
def zl {fp:List Addr}{h:Heap}{b:Addr}{o:Obj}(hb:b∈fp)(e:h.get? b=some o):(b,o)∈Xg fp h:=List.mem_filterMap.mpr ⟨b,hb,by rw[e];rfl⟩
def kch {fp:List Addr}{h:Heap}{p:Addr×Obj}(hp:p∈Xg fp h):p.1∈fp/\h.get? p.1=some p.2:=by
 obtain⟨b,hb,e⟩:=List.mem_filterMap.mp hp
 cases q:h.get? b with
 |none=>rw[q]at e;cases e
 |some o=>
  rw[q]at e;have e':(b,o)=p:=Option.some.inj e;subst e';exact⟨hb,q⟩
def Inv.pinned {pins:List (Addr×Obj)}{σ:St}{H:Hp}{s:Shared}{fp:List Addr}(I:Inv X pins σ H s)(hf:∀b∈fp,wN X pins H b)(ho:∀b∈fp,∃o,s.heap.get? b=some o/\∀v,o.data ≠ .cell v):Inv X (pins++Xg fp s.heap) σ H s :=
 I.kaj λp hp=>(List.mem_append.mp hp).elim (λz=>I.pin p (List.mem_append_right _ z)) λz=>by
  obtain⟨hb,e⟩:=kch z;obtain⟨f0,f1,f2,_⟩:=hf p.1 hb;obtain⟨o,e',d⟩:=ho p.1 hb;rw[e]at e';cases e'
  exact⟨e,f0,f1,f2,d⟩
def Inv.Vq {pins pl:List (Addr×Obj)}{σ:St}{H:Hp}{s:Shared}(I:Inv X (pins++pl) σ H s):Inv X pins σ H s:=I.kaj λp hp=>I.pin p (List.mem_append_right _ (List.mem_append_left _ hp))
def kgJ {iter:Expr}{body:List Stmt}{wi:TI}{g:TG}{tb:TS}{pos:Pos}(hp:PassesOwn (model X.prog X.w) X.A X.env X.xe)(hc:X.calm=true)(hi:PI X tg iter wi)(hg:PG X tg g)(hb:PSs X body tb)
 (hs:∀x,foldedSetIterable iter X.env x=pure x:=by intro _;rfl):PS X (.For tg iter body [] pos) (kjo wi g tb):=by
 intro pins s σ H D I h;refine wpAny_For (thn (hi pins s σ H _ I h) λv s1 h1=>thn h1 λitv s2 h2=>?_) hs;obtain⟨it,fp,tn,J,H2,e,I2,T,st2,f2,W,⟨m0,w0⟩,turn⟩:=h2;subst e
 -- what stays true of the iterator's objects through the loop
 have stat:∀ {H':Hp},(∀b∈fp,H' b=none)->∀b∈fp,wN X pins H' b:=λhn b hb=>⟨hn b hb,(f2 b hb).2⟩
 refine codeAny_forLoop_any (λn s'=>∃i σ' H',Inv X pins σ' H' s'/\tn i s'.heap/\(∀b∈fp,H' b=none)/\W i n σ' H') ?_ m0 ⟨0,σ,H2,I2,st2,λb hb=>(f2 b hb).1,w0⟩;rintro n s3 ⟨i,σ3,H3,I3,st3,fr3,w3⟩
 rcases turn i n σ3 H3 w3 with ⟨stop,qn⟩ | ⟨go,N,hN,step⟩
 ·refine wpAny_passesOwn hp (thn (T.done X rfl rfl rfl hc i pins s3 σ3 H3 X.xe I3 (stat fr3) st3 stop) λr s4 ⟨hr,I4⟩=>?_);subst hr;exact wpAny_execs_nil ⟨σ3,H3,I4,qn⟩
 ·refine wpAny_passesOwn hp (thn (T.item X rfl rfl rfl hc i pins s3 σ3 H3 X.xe I3 (stat fr3) st3 go) λr s4 ⟨u,hr,h4⟩=>?_);subst hr;refine wpAny_passesOwn hp (thn h4 λ_ s5 ⟨x,H5,I5,r5,y5,st5,fr5⟩=>?_);have I5':=I5.pinned (stat fr5) (T.obj _ _ st5);refine wpAny_passesOwn hp (thn (hg _ s5 σ3 H5 x u _ I5' r5 (step x H5 y5)) λ_ s6 ⟨σ6,H6,I6,q6⟩=>?_);refine wpAny_passesOwn hp (thn (hb _ s6 σ6 H6 _ I6 q6) λf s7 q7=>?_)
  have again:∀ {σ7:St} {H7:Hp},Inv X (pins++Xg fp s5.heap) σ7 H7 s7->N σ7 H7->∃m,m < n/\∃i σ' H',Inv X pins σ' H' s7/\tn i s7.heap/\(∀b∈fp,H' b=none)/\W i m σ' H':=λ{σ7 H7} I7 n7=>by
   obtain⟨m',hm,w7⟩:=hN σ7 H7 n7;refine⟨m',hm,i+1,σ7,H7,I7.Vq,T.keep _ _ _ st5 λb hb o e=>(I7.pin (b,o) (List.mem_append_right _ (List.mem_append_right _ (zl hb e)))).1,λb hb=>?_,w7⟩;obtain⟨o,e,d⟩:=T.obj _ _ st5 b hb;exact (I7.pin (b,o) (List.mem_append_right _ (List.mem_append_right _ (zl hb e)))).2.1
  cases f with
  |next=>obtain⟨σ7,H7,I7,n7⟩:=q7;exact again I7 n7
  |cont=>obtain⟨σ7,H7,I7,n7⟩:=q7;exact again I7 n7
  |brk=>obtain⟨σ7,H7,I7,q7⟩:=q7;exact⟨σ7,H7,I7.Vq,q7⟩
  |ret v=>obtain⟨x7,σ7,H7,I7,r7,q7⟩:=q7;exact⟨x7,σ7,H7,I7.Vq,r7,q7⟩
end
abbrev R2:=V->V->Hp->VK->Prop
def OpR (X:Cx)(f:Value->Value->Sem Value)(r:R2):Prop :=
 ∀ (pins:List (Addr×Obj)) (s:Shared) (σ:St) (H:Hp) (x y:V) (v u:Value) (Q:VK),Inv X pins σ H s->RelV x v->RelV y u->r x y H Q →
  wpAny (model X.prog X.w) X.A (f v u) (EP X pins σ Q) X.xe s
def UnR (X:Cx)(f:Value->Sem Value)(r:V->Hp->VK->Prop):Prop :=
 ∀ (pins:List (Addr×Obj)) (s:Shared) (σ:St) (H:Hp) (x:V) (v:Value) (Q:VK),Inv X pins σ H s->RelV x v->r x H Q →
  wpAny (model X.prog X.w) X.A (f v) (EP X pins σ Q) X.xe s
def Kv (X:Cx)(f:Value)(r:List V->Hp->VK->Prop):Prop :=
 ∀ (pins:List (Addr×Obj)) (s:Shared) (σ:St) (H:Hp) (xs:List V) (us:List Value) (Q:VK),Inv X pins σ H s->Vals xs us->r xs H Q →
  wpAny (model X.prog X.w) X.A (call f us) (EP X pins σ Q) X.xe s
def kjv (X:Cx)(r:V->Hp->(Bool->Hp->Prop)->Prop):Prop :=
 ∀ (pins:List (Addr×Obj)) (s:Shared) (σ:St) (H:Hp) (x:V) (v:Value) (Q:Bool->Hp->Prop),Inv X pins σ H s->RelV x v->r x H Q →
  wpAny (model X.prog X.w) X.A (truthy v) (TP X pins σ Q) X.xe s
def tOp (r:R2)(ta tb:TE):TE:=λσ H Q=>ta σ H λx H1=>tb σ H1 λy H2=>r x y H2 Q
def tUn (r:V->Hp->VK->Prop)(ta:TE):TE:=λσ H Q=>ta σ H λx H1=>r x H1 Q
def rI (C:Int->Int->Prop)(g:Int->Int->V):R2:=λx y H Q=>∃i j,x = .int i/\y = .int j/\C i j/\Q (g i j) H
def rI0 (g:Int->Int->V):R2:=λx y H Q=>∃i j,x = .int i/\y = .int j/\Q (g i j) H
def rU (g:Int->V):V->Hp->VK->Prop:=λx H Q=>∃i,x = .int i/\Q (g i) H
section
variable {X:Cx}{a b c:Expr}{ta tb tc:TE}{pos:Pos}
def kcX (ha:PE X a ta)(hb:PE X b tb){pins:List (Addr×Obj)}{s:Shared}{σ:St}{H:Hp}{R:V->V->Hp->Prop}(I:Inv X pins σ H s)
 (h:ta σ H λx H1=>tb σ H1 λy H2=>R x y H2) {Q:zEx} {f:Value->Value->Sem Value}
 (hf:∀v u s2 x y H2,Inv X pins σ H2 s2->RelV x v->RelV y u->R x y H2->wpAny (model X.prog X.w) X.A (f v u) Q X.xe s2) :
 wpAny (model X.prog X.w) X.A (eval a X.env) (λv s₁=>wpAny (model X.prog X.w) X.A (eval b X.env) (λu s₂=>wpAny (model X.prog X.w) X.A (f v u) Q X.xe s₂) X.xe s₁) X.xe s:=by
 refine thn (ha pins s σ H _ I h) λv s1 ⟨x,H1,I1,r1,q1⟩=>?_
 refine thn (hb pins s1 σ H1 _ I1 q1) λu s2 ⟨y,H2,I2,r2,q2⟩=>?_
 exact hf v u s2 x y H2 I2 r1 r2 q2
def kio {op:Operator}{r:R2}(ho:OpR X (binaryOp op) r)(ha:PE X a ta)(hb:PE X b tb):PE X (.BinOp a op b pos) (tOp r ta tb):=by
 intro pins s σ H Q I h;exact wpAny_BinOp (kcX ha hb I h λv u s2 x y H2 I2 rx ry q=>ho pins s2 σ H2 x y v u Q I2 rx ry q)
def kia {op:UnaryOp}{r:V->Hp->VK->Prop}(ho:UnR X (unaryOp op) r)(ha:PE X a ta):PE X (.UnaryOp op a pos) (tUn r ta):=by
 intro pins s σ H Q I h;exact UnaryOp_ (thn (ha pins s σ H _ I h) λv s1 ⟨x,H1,I1,r1,q1⟩=>ho pins s1 σ H1 x v Q I1 r1 q1)
def opI {f:Value->Value->Sem Value}{C:Int->Int->Prop}{g:Int->Int->Int}
 (rule:∀ (i j:Int) (t u:Tok) (s:Shared) (Q:zEx) (E:zEx),C i j->Q (.int (g i j) s.toks) { s with toks:=s.toks+1 }->wpAny (model X.prog X.w) X.A (f (.int i t) (.int j u)) Q E s) :
 OpR X f (rI C λi j=>.int (g i j)):=by
 intro pins s σ H x y v u Q I rx ry h;obtain⟨i,j,rfl,rfl,hc,q⟩:=h;obtain⟨t,rfl⟩:=rx;obtain⟨t',rfl⟩:=ry;exact rule i j t t' s _ _ hc ⟨.int (g i j),H,I.tok _,⟨_,rfl⟩,q⟩
def kgM {f:Value->Value->Sem Value}{g:Int->Int->Int}
 (rule:∀ (i j:Int) (t u:Tok) (s:Shared) (Q:zEx) (E:zEx),Q (.int (g i j) s.toks) { s with toks:=s.toks+1 }->wpAny (model X.prog X.w) X.A (f (.int i t) (.int j u)) Q E s) :
 OpR X f (rI0 λi j=>.int (g i j)):=by
 intro pins s σ H x y v u Q I rx ry h;obtain⟨i,j,rfl,rfl,q⟩:=h;obtain⟨t,rfl⟩:=rx;obtain⟨t',rfl⟩:=ry;exact rule i j t t' s _ _ ⟨.int (g i j),H,I.tok _,⟨_,rfl⟩,q⟩
def kgD {f:Value->Value->Sem Value}{g:Int->Int->Bool}
 (rule:∀ (i j:Int) (t u:Tok) (s:Shared) (Q:zEx) (E:zEx),Q (.bool (g i j)) s->wpAny (model X.prog X.w) X.A (f (.int i t) (.int j u)) Q E s) :
 OpR X f (rI0 λi j=>.bl (g i j)):=by
 intro pins s σ H x y v u Q I rx ry h;obtain⟨i,j,rfl,rfl,q⟩:=h;obtain⟨t,rfl⟩:=rx;obtain⟨t',rfl⟩:=ry;exact rule i j t t' s _ _ ⟨.bl (g i j),H,I,rfl,q⟩
def kjw (i j:Int):Prop:=0 < j/\j < 1073741824
def ki4 (i j:Int):Prop:=0<=j/\j<=1000000/\i.natAbs < 2 ^ 64
def kdf (i j:Int):Prop:=(-(2 ^ 64) < i/\i < 2 ^ 64)∨(-(2 ^ 64) < j/\j < 2 ^ 64)
def kdf.ok {i j:Int}(h:kdf i j):IntMulOk i j:=by
 rcases h with ⟨h1,h2⟩ | ⟨h1,h2⟩
 ·exact .of_left (intBits_le_64 h1 h2)
 ·exact .of_right (intBits_le_64 h1 h2)
def kgs:OpR X (binaryOp .Add) (rI0 λi j=>.int (i+j)):=kgM λ_ _ _ _ _ _ _ q=>add_int q
def kgC:OpR X (binaryOp .Sub) (rI0 λi j=>.int (i - j)):=kgM λ_ _ _ _ _ _ _ q=>sub_int q
def kgX:OpR X (binaryOp .Mult) (rI kdf λi j=>.int (i * j)):=opI λ_ _ _ _ _ _ _ hc q=>mul_int q hc.ok
def kfI:OpR X (binaryOp .FloorDiv) (rI kjw λi j=>.int (i / j)):=opI λi j _ _ _ _ _ hc q=>by
 have h1:(0:Int) < j:=hc.1;have h2:j < 1073741824:=hc.2;exact floordiv_int (by omega) (by rw[Int.fdiv_eq_ediv_of_nonneg i (by omega)];exact q) (.inl (PyProof.noPylong_small (by omega)))
def kgp:OpR X (binaryOp .Mod) (rI (λ_ j=>0 < j) λi j=>.int (i % j)):=opI λi j _ _ _ _ _ hc q=>by
 have h1:(0:Int) < j:=hc;exact mod_int' (by omega) (by rw[Int.fmod_eq_emod_of_nonneg i (by omega)];exact q)
def kgx:OpR X (binaryOp .Pow) (rI ki4 λi j=>.int (i ^ j.toNat)):=opI λ_ _ _ _ _ _ _ hc q=>pow_int_small hc.1 hc.2.1 hc.2.2 q
def unI {f:Value->Sem Value}{g:Int->Int}
 (rule:∀ (i:Int) (t:Tok) (s:Shared) (Q:zEx) (E:zEx),Q (.int (g i) s.toks) { s with toks:=s.toks+1 }->wpAny (model X.prog X.w) X.A (f (.int i t)) Q E s) :
 UnR X f (rU λi=>.int (g i)):=by
 intro pins s σ H x v Q I rx h;obtain⟨i,rfl,q⟩:=h;obtain⟨t,rfl⟩:=rx;exact rule i t s _ _ ⟨.int (g i),H,I.tok _,⟨_,rfl⟩,q⟩
def khd:UnR X (unaryOp .USub) (rU λi=>.int (-i)):=unI λ_ _ _ _ _ q=>neg_int q
end
def kiU:V->V->Bool
 |.non,.non=>true | .non,.int _=>true | .int _,.non=>true | .non,.bl _=>true | .bl _,.non=>true | .non,.str _=>true | .str _,.non=>true
 |.int _,.int _=>true | .bl _,.bl _=>true | .str _,.str _=>true | .byt _,.byt _=>true
 |.int _,.str _=>true | .str _,.int _=>true | .bl _,.str _=>true | .str _,.bl _=>true
 |_,_=>false
def rEq:R2:=λx y H Q=>kiU x y=true/\Q (.bl (decide (x=y))) H
def ke8 {i j:Int}:decide (V.int i=V.int j)=(i==j):=by
 rw[Bool.eq_iff_iff];simp
def kg2 {i j:Bool}:decide (V.bl i=V.bl j)=(i==j):=by
 rw[Bool.eq_iff_iff];simp
def kfX {i j:Str}:decide (V.str i=V.str j)=(i==j):=by
 rw[Bool.eq_iff_iff];simp
def kf6 {i j:Array UInt8}:decide (V.byt i=V.byt j)=(i.toList==j.toList):=by
 rw[Bool.eq_iff_iff];cases i;cases j;simp
section
variable {X:Cx}{a b c:Expr}{ta tb tc:TE}{pos:Pos}
def xg {pins:List (Addr×Obj)}{σ:St}{H:Hp}{s:Shared}{Q:VK}{k k':Bool}(I:Inv X pins σ H s)(q:Q (.bl k) H)(e:k=k'):EP X pins σ Q (.bool k') s:=by
 subst e;exact⟨.bl k,H,I,rfl,q⟩
def keA:OpR X (compareOp .Eq) rEq:=by
 intro pins s σ H x y v u Q I rx ry h;obtain⟨hs,q⟩:=h
 cases x with
 |non=>
  cases rx
  cases y with
  |non=>cases ry;exact PySem.EqNone.eq_none_none (xg I q (by simp))
  |bl j=>cases ry;exact PySem.EqNone.eq_none_bool (xg I q (by simp))
  |int j=>obtain⟨t',rfl⟩:=ry;exact PySem.EqNone.eq_none_int (xg I q (by simp))
  |str j=>obtain⟨t',rfl⟩:=ry;exact PySem.EqNone.eq_none_str (xg I q (by simp))
  |_=>exact absurd (show false=true from hs) Bool.false_ne_true
 |bl i=>
  cases rx
  cases y with
  |non=>cases ry;exact PySem.EqNone.eq_bool_none (xg I q (by simp))
  |bl j=>cases ry;exact eq_bool (xg I q kg2)
  |str j=>obtain⟨t',rfl⟩:=ry;exact PySem.EqMixed.eq_bool_str (xg I q (by simp))
  |_=>exact absurd (show false=true from hs) Bool.false_ne_true
 |int i=>
  obtain⟨t,rfl⟩:=rx
  cases y with
  |non=>cases ry;exact PySem.EqNone.eq_int_none (xg I q (by simp))
  |int j=>obtain⟨t',rfl⟩:=ry;exact eq_int (xg I q ke8)
  |str j=>obtain⟨t',rfl⟩:=ry;exact PySem.EqMixed.eq_int_str (xg I q (by simp))
  |_=>exact absurd (show false=true from hs) Bool.false_ne_true
 |str i=>
  obtain⟨t,rfl⟩:=rx
  cases y with
  |non=>cases ry;exact PySem.EqNone.eq_str_none (xg I q (by simp))
  |bl j=>cases ry;exact PySem.EqMixed.eq_str_bool (xg I q (by simp))
  |int j=>obtain⟨t',rfl⟩:=ry;exact PySem.EqMixed.eq_str_int (xg I q (by simp))
  |str j=>obtain⟨t',rfl⟩:=ry;exact eq_str (xg I q kfX)
  |_=>exact absurd (show false=true from hs) Bool.false_ne_true
 |byt i=>
  obtain⟨t,rfl⟩:=rx
  cases y with
  |byt j=>obtain⟨t',rfl⟩:=ry;exact PySem.W.eq_bytes (xg I q kf6)
  |_=>exact absurd (show false=true from hs) Bool.false_ne_true
 |_=>cases y <;> exact absurd (show false=true from hs) Bool.false_ne_true
def kis:OpR X (compareOp .LtE) (rI0 λi j=>.bl (decide (i<=j))):=kgD λ_ _ _ _ _ _ _ q=>le_int q
def kik:OpR X (compareOp .Gt) (rI0 λi j=>.bl (decide (j < i))):=kgD λ_ _ _ _ _ _ _ q=>gt_int q
def YY (b:Expr){op:CmpOp}(h:op ≠ .In:=by decide)(h2:op ≠ .NotIn:=by decide):behindInMarks op b=false:=by
 have e1:(op==CmpOp.In)=false:=by cases op <;> first | rfl | exact absurd rfl h
 have e2:(op==CmpOp.NotIn)=false:=by cases op <;> first | rfl | exact absurd rfl h2
 cases b <;> simp[behindInMarks,e1,e2]
def Z4 {op:CmpOp}{r:R2}(ho:OpR X (compareOp op) r)(ha:PE X a ta)(hb:PE X b tb)(hm:behindInMarks op b=false):PE X (.Compare a [op] [b] pos) (tOp r ta tb):=by
 intro pins s σ H Q I h;exact wpAny_Compare1 (kcX ha hb I h λv u s2 x y H2 I2 rx ry q=>ho pins s2 σ H2 x y v u Q I2 rx ry q) hm
def keJ (t:TE):TT:=λσ H Q=>t σ H λx H'=>∃k,x = .bl k/\Q k H'
def kfQ {op:CmpOp}{r:R2}(ho:OpR X (compareOp op) r)(ha:PE X a ta)(hb:PE X b tb)(hm:behindInMarks op b=false):PT X (.Compare a [op] [b] pos) (keJ (tOp r ta tb)):=by
 intro pins s σ H Q I h
 refine wpAny_isTrue_Compare1 (thn (ha pins s σ H _ I h) λv s1 ⟨x,H1,I1,r1,q1⟩=>thn (hb pins s1 σ H1 _ I1 q1) λu s2 ⟨y,H2,I2,r2,q2⟩=>
  thn (ho pins s2 σ H2 x y v u _ I2 r1 r2 q2) λc s3 ⟨z,H3,I3,r3,k,e,q3⟩=>?_) hm
 subst e;cases r3;exact wpAny_truthy_bool ⟨H3,I3,q3⟩
def JH (r r':R2)(ta tb tc:TE):TE:=λσ H Q=>ta σ H λx H1=>tb σ H1 λy H2=>r x y H2 λz H3=>∃k,z = .bl k ∧
 (if k=true then tc σ H3 λw' H4=>r' y w' H4 Q else Q (.bl false) H3)
def kc2 {op op':CmpOp}{r r':R2}(ho:OpR X (compareOp op) r)(ho':OpR X (compareOp op') r')(ha:PE X a ta)(hb:PE X b tb)(hc:PE X c tc)
 (hm:lastMarks [op,op'] [b,c]=false:=by with_unfolding_all rfl):PE X (.Compare a [op,op'] [b,c] pos) (JH r r' ta tb tc):=by
 intro pins s σ H Q I h
 refine Compare_chain (thn (ha pins s σ H _ I h) λv s1 ⟨x,H1,I1,r1,q1⟩=>chain_link (thn (hb pins s1 σ H1 _ I1 q1) λu s2 ⟨y,H2,I2,r2,q2⟩=>
  thn (ho pins s2 σ H2 x y v u _ I2 r1 r2 q2) λd s3 ⟨z,H3,I3,r3,k,e,q3⟩=>?_)) hm
 subst e;cases r3;refine wpAny_truthy_bool ?_
 cases k with
 |false=>exact ite_ff ⟨.bl false,H3,I3,rfl,q3⟩
 |true=>exact ite_tt (chain_last (thn (hc pins s3 σ H3 _ I3 q3) λw' s4 ⟨z',H4,I4,r4,q4⟩=>ho' pins s4 σ H4 y z' u w' Q I4 r2 r4 q4))
def keb {op op':CmpOp} {r r':R2} (ho:OpR X (compareOp op) r) (ho':OpR X (compareOp op') r') (ha:PE X a ta) (hb:PE X b tb) (hc:PE X c tc)
 (hm:lastMarks [op,op'] [b,c]=false:=by with_unfolding_all rfl):PT X (.Compare a [op,op'] [b,c] pos) (keJ (JH r r' ta tb tc)):=by
 intro pins s σ H Q I h
 refine isTrue_chain (thn (ha pins s σ H _ I h) λv s1 ⟨x,H1,I1,r1,q1⟩=>test_link (thn (hb pins s1 σ H1 _ I1 q1) λu s2 ⟨y,H2,I2,r2,q2⟩=>
  thn (ho pins s2 σ H2 x y v u _ I2 r1 r2 q2) λd s3 ⟨z,H3,I3,r3,k,e,q3⟩=>?_)) hm
 subst e;cases r3;refine wpAny_truthy_bool ?_
 cases k with
 |false=>
  obtain⟨k',e',q'⟩:=q3;cases e';exact ite_ff ⟨H3,I3,q'⟩
 |true=>
  refine ite_tt (test_last (thn (hc pins s3 σ H3 _ I3 q3) λw' s4 ⟨z',H4,I4,r4,q4⟩=>thn (ho' pins s4 σ H4 y z' u w' _ I4 r2 r4 q4) λd' s5 ⟨z2,H5,I5,r5,k2,e2,q5⟩=>?_));subst e2;cases r5;exact wpAny_truthy_bool ⟨H5,I5,q5⟩
def kep (K:zFr)(x:V)(H:Hp)(k:Bool):Prop :=
 match x with
 |.non=>k=false
 |.bl b=>k=b
 |.int i=>k=(i != 0)
 |.str y=>y.length<=sizeLine/\k=((y.length:Int) != 0)
 |.byt y=>y.size<=sizeLine/\k=((y.size:Int) != 0)
 |.ref p=>(∃xs,SqL K H p xs/\k=!xs.isEmpty)∨(∃xs,SqT K H p xs/\k=!xs.isEmpty)∨∃kvs,H p=some (.dK kvs)/\k=!kvs.isEmpty
 |_=>False
def kat {κ:Type}{kvs:List (κ×V)}{vs:List (κ×Value)}(r:KV kvs vs):(!vs.isEmpty)=!kvs.isEmpty:=by
 cases r <;> rfl
def YO {xs:List V}{its:List Value}(r:Vals xs its):(!its.toArray.isEmpty)=!xs.isEmpty:=by
 cases r <;> simp
def yN:(sizeLine:Nat) < 2 ^ 63:=by rw[sizeLine_eq];decide
def khD:kjv X (λx H Q=>∃k,kep X.K x H k/\Q k H):=by
 intro pins s σ H x v Q I rx h;obtain⟨k,e,q⟩:=h;have hl:=yN;have hs:sizeLine=16777216:=sizeLine_eq
 cases x with
 |non=>
  cases rx;have e':k=false:=e;subst e';exact truthy_none ⟨H,I,q⟩
 |bl b=>
  cases rx;have e':k=b:=e;subst e';exact wpAny_truthy_bool ⟨H,I,q⟩
 |int i=>
  obtain⟨t,rfl⟩:=rx;have e':k=(i != 0):=e;subst e';exact PySem.P.truthy_int ⟨H,I,q⟩
 |str y=>
  obtain⟨t,rfl⟩:=rx;obtain⟨hy,e'⟩:y.length<=sizeLine/\k=((y.length:Int) != 0):=e;subst e';exact PySem.P.truthy_str (by omega) ⟨H,I.tok _,q⟩
 |byt y=>
  obtain⟨t,rfl⟩:=rx;obtain⟨hy,e'⟩:y.size<=sizeLine/\k=((y.size:Int) != 0):=e;subst e';exact PySem.W.truthy_bytes (by omega) ⟨H,I.tok _,q⟩
 |ref p=>
  cases rx;have e':(∃xs,SqL X.K H p xs/\k=!xs.isEmpty)∨(∃xs,SqT X.K H p xs/\k=!xs.isEmpty)∨∃kvs,H p=some (.dK kvs)/\k=!kvs.isEmpty:=e
  rcases e' with ⟨xs,hx,e'⟩ | ⟨xs,hx,e'⟩ | ⟨kvs,hx,e'⟩
  ·subst e'
   obtain⟨its,r,pl,hz⟩:=I.list hx;have hlen:=r.length;exact wpAny_truthy_list pl.isList (by simp only[zal];omega) ⟨H,I.tok _,by rw[YO r];exact q⟩
  ·subst e'
   obtain⟨its,r,pl,hz⟩:=I.tuple hx;have hlen:=r.length;exact truthy_tuple pl (by simp only[zal];omega) ⟨H,I.tok _,by rw[YO r];exact q⟩
  ·subst e'
   obtain⟨hz,hS,vs,r,m⟩:kvs.length<=sizeLine/\(p==sysModules)=false/\∃vs,KV kvs vs/\s.heap.DictOf (Z1 X.prog X.w) p vs:=I.hok p _ hx
   have hlen:kvs.length=vs.length:=Paired.length r;exact wpAny_truthy_dict hS m (by omega) ⟨H,I.tok _,by rw[kat r];exact q⟩
 |_=>exact (show False from e).elim
def kdH (ha:PE X a ta)(he:∀whole,isTrue a X.env whole=(do let v ← whole;standAt a.pos;holding [v] (truthy v))) :
 PT X a (λσ H Q=>ta σ H λx H'=>∃k,kep X.K x H' k/\Q k H'):=by
 intro pins s σ H Q I h;exact isTrue_plain (thn (ha pins s σ H _ I h) λv s1 ⟨x,H1,I1,r1,q1⟩=>khD pins s1 σ H1 x v Q I1 r1 q1) (he _)
def kaB:OpR X (binaryOp .Add) (λx y H Q=>∃i j,x = .str i/\y = .str j/\i.length+j.length<=sizeLine/\Q (.str (i++j)) H):=by
 intro pins s σ H x y v u Q I rx ry h;obtain⟨i,j,rfl,rfl,hz,q⟩:=h;obtain⟨t,rfl⟩:=rx;obtain⟨t',rfl⟩:=ry;exact add_str (λt' tk=>⟨.str (i++j),H,I.tok _,⟨_,rfl⟩,q⟩) hz
def vals1 {x:V}{us:List Value}(r:Vals [x] us):∃u,us=[u]/\RelV x u:=by
 cases r with
 |cons r1 r2=>cases r2;exact⟨_,rfl,r1⟩
def vals2 {x y:V}{us:List Value}(r:Vals [x,y] us):∃u w',us=[u,w']/\RelV x u/\RelV y w':=by
 cases r with
 |cons r1 r2=>
  cases r2 with
  |cons r3 r4=>cases r4;exact⟨_,_,rfl,r1,r3⟩
def jN:Kv X (.type "int") (λxs H Q=>(∃i,xs=[.int i]/\Q (.int i) H)∨∃k,xs=[.bl k]/\Q (.int (if k then 1 else 0)) H):=by
 intro pins s σ H xs us Q I r h
 rcases h with ⟨i,rfl,q⟩ | ⟨k,rfl,q⟩
 ·obtain⟨u,rfl,t,rfl⟩:=vals1 r;exact call_int_int ⟨.int i,H,I,⟨_,rfl⟩,q⟩
 ·obtain⟨u,rfl,r1⟩:=vals1 r;cases r1;exact call_int_bool ⟨.int (if k then 1 else 0),H,I.tok _,⟨_,rfl⟩,q⟩
end
structure kgV (h:Heap)(x dx C:Addr)(mA:Str->Option Value):Prop where
 obj:h.get? x=some (PySem.W.instObj C dx)
 ns:h.Ns1 dx mA
 ne:dx≠x
def kcC {h:Heap}{dx:Addr}{mA:Str->Option Value}(n:h.Ns1 dx mA):∃od,h.get? dx=some od/\∀name,PySem.W.lookIn name od=some (mA name):=by
 obtain⟨o,es,ep,ho,hd,hk,_,hm⟩:=n;refine⟨o,ho,λname=>?_⟩;have e:=hm name;unfold nsFind findBy at e;rw[<- Array.find?_toList]at e;unfold PySem.W.lookIn;rw[hd];dsimp only;split
 ·rename_i y q;rw[q]at e;exact congrArg some e
 ·rename_i q;rw[q]at e
  have a:es.toList.any (·.refKey)=false:=by
   rw[List.any_eq_false];intro y hy;obtain⟨z,t,hkey⟩:=hk y (Array.mem_toList_iff.mp hy);simp[DictEntry.refKey,hkey]
  have a':¬ es.toList.any (·.refKey)=true:=by rw[a];exact Bool.false_ne_true
  rw[if_neg a'];exact congrArg some e
def kgV.look {h:Heap}{x dx C:Addr}{mA:Str->Option Value}(I:kgV h x dx C mA):∃od,PySem.W.InstAt h x (PySem.W.instObj C dx) C (some od)/\∀name,PySem.W.lookIn name od=some (mA name) :=
 let ⟨od,ho,hl⟩:=kcC I.ns
 ⟨od,⟨I.obj,rfl,rfl,ho⟩,hl⟩
section
variable {X:Cx}{pins:List (Addr×Obj)}{σ:St}{H:Hp}{s:Shared}{a C dx:Addr}{fs:List (Str×V)}{f:Str}{v:V}{A:Around}{E:zEx}
def Inv.made (I:Inv X pins σ H s):Inv X pins σ (upd (upd H s.heap.objs.size (.own (s.heap.objs.size+1))) (s.heap.objs.size+1) (.ins C s.heap.objs.size []))
 { s with heap:=(s.heap.push PySem.W.emptyDict).push (PySem.W.instObj C s.heap.objs.size) }:=by
 have e1:(s.heap.push PySem.W.emptyDict).get? s.heap.objs.size=some PySem.W.emptyDict:=zag s.heap rfl
 have e2:((s.heap.push PySem.W.emptyDict).push (PySem.W.instObj C s.heap.objs.size)).get? (s.heap.objs.size+1)=some (PySem.W.instObj C s.heap.objs.size):=by
  have:=zag (s.heap.push PySem.W.emptyDict) (o:=PySem.W.instObj C s.heap.objs.size) rfl
  rwa [Heap.size_push]at this
 have e3:(s.heap.push PySem.W.emptyDict).Ns s.heap.objs.size (λ_=>none):=⟨PySem.W.emptyDict,#[],_,e1,rfl,(λe he=>absurd he (by simp)),λ_=>rfl⟩;have I1:=I.laid (a:=s.heap.objs.size) (o:=.own (s.heap.objs.size+1)) (h':=s.heap.push PySem.W.emptyDict) (t':=s.toks) (λb u q=>zac _ q) (zak _) ⟨_,e1⟩;refine I1.laid (a:=s.heap.objs.size+1) (o:=.ins C s.heap.objs.size []) (t':=s.toks) (λb u q=>zac _ q) (Nat.le_of_eq (Heap.size_push _ _)) ?_;have ne:s.heap.objs.size≠s.heap.objs.size+1:=zas (Nat.lt_succ_self _);refine⟨by rw[qm ne,k9],Nat.zero_le _,ne,e2,λ_=>none,(Heap.Ns1.of_empty e3).at λo q=>zac _ q,λ_=>True.intro,λy hy=>absurd rfl hy⟩
end
structure qU (k:Nat)(A:Around):Prop where
 hd:A.handled=none
 dp:A.depth+3 * k+5 < recursionLimit
 un:A.units+16 * k+200 < cLine
def qU.mono {j k:Nat}{A:Around}(r:qU k A)(h:j<=k):qU j A:=⟨r.hd,by have:=r.dp;omega,by have:=r.un;omega⟩
def qU.deeper {k:Nat}{A:Around}(r:qU (k+1) A)(env:Env):qU k (A.deeper env) :=
 ⟨r.hd,by have:=r.dp;show A.depth+1+3 * k+5 < _;omega,by have:=r.un;show A.units+3+16 * k+200 < _;omega⟩
def qU.in1 {k:Nat}{A:Around}(r:qU (k+1) A):qU k A.in1 :=
 ⟨r.hd,by have:=r.dp;show A.depth+3 * k+5 < _;omega,by have:=r.un;show A.units+1+16 * k+200 < _;omega⟩
def qU.depth {k:Nat}{A:Around}(r:qU k A):A.depth < recursionLimit:=by have:=r.dp;omega
def qU.units {k:Nat}{A:Around}(r:qU k A):A.units+64 < cLine:=by have:=r.un;omega
def qU.kg3 {k:Nat}{A:Around}(r:qU k A):A.units < cLine:=by have:=r.un;omega
def kjW:TA:=λ_ H Q=>Q [] H
def kib (ta:TE)(tr:TA):TA:=λσ H Q=>ta σ H λx H1=>tr σ H1 λxs H2=>Q (x::xs) H2
section
variable {X:Cx}{e:Expr}{es:List Expr}{te:TE}{t:TA}{pos:Pos}
def vS:PA X [] kjW:=λ_ _ _ _ H Q I h=>Calls.spliced_nil ⟨[],H,I,.nil,h⟩
def qE (ha:PE X e te)(hr:PA X es t)(hs:starEach (e::es) X.env=(false,eval e X.env)::starEach es X.env:=by rfl):PA X (e::es) (kib te t):=by
 intro pos pins s σ H Q I h;rw[hs];show wpAny _ _ (spliced ((false,eval e X.env)::backTo pos (starEach es X.env))) _ _ s;refine Calls.spliced_cons (thn (ha pins s σ H _ I h) λu s1 ⟨x,H1,I1,r1,q1⟩=>?_);exact thn (hr pos pins s1 σ H1 _ I1 q1) λus s2 ⟨xs,H2,I2,r2,q2⟩=>⟨x::xs,H2,I2,.cons r1 r2,q2⟩
def kjr (t:TA):TE:=λσ H Q=>t σ H λxs H1=>xs.length<=sizeLine/\∀p,H1 p=none->Q (.ref p) (upd H1 p (.tup xs))
def kiL (t:TA):TE:=λσ H Q=>t σ H λxs H1=>xs.length<=sizeLine/\∀p,H1 p=none->Q (.ref p) (upd H1 p (.lst xs))
def kha {x1}(h:PA X es t):PE X (.Tuple es x1 pos) (kjr t):=by
 intro pins s σ H Q I hq;refine wpAny_Tuple_spliced (thn (h pos pins s σ H _ I hq) λus s1 ⟨xs,H1,I1,r,z,q⟩=>⟨by rw[<- r.length];exact z,?_⟩);have hf:H1 s1.heap.objs.size=none:=I1.hok.fresh (zak _);refine⟨.ref s1.heap.objs.size,upd H1 s1.heap.objs.size (.tup xs),I1.laid (t':=s1.toks) (λb u e=>zac _ e) (zak _) ?_,rfl,q _ hf⟩;exact⟨z,us,r,⟨_,zag _ rfl,rfl,_,rfl⟩⟩
def YR (h:PA X es t):PE X (.List es pos) (kiL t):=by
 intro pins s σ H Q I hq;refine wpAny_List_spliced (thn (h pos pins s σ H _ I hq) λus s1 ⟨xs,H1,I1,r,z,q⟩=>⟨by rw[<- r.length];exact z,?_⟩);have hf:H1 s1.heap.objs.size=none:=I1.hok.fresh (zak _);refine⟨.ref s1.heap.objs.size,upd H1 s1.heap.objs.size (.lst xs),I1.laid (t':=s1.toks) (λb u e=>zac _ e) (zak _) ?_,rfl,q _ hf⟩;exact⟨z,us,0,r,zag _ rfl⟩
end
abbrev Sp:=List V->Hp->VK->XK->Prop
abbrev CXT:=List Env->Hp->Shared->XK->Value->Shared->Prop
structure Yr (P:Program)(w:World)(K:zFr)(mg:Str->Option Value)(base:Heap)(A:Around)(outer:List Env)(s:Shared)(H:Hp):Prop where
 frames:A.frames=some outer
 mod:Mod K mg base
 bs:∀b o,base.get? b=some o->s.heap.get? b=some o/\H b=none
 bsz:base.objs.size<=s.heap.objs.size
 zZ:s.heap.FunFrames base outer
 frf:∀b∈frs outer,H b=none
 hok:HOk P w H s.heap
 bare:AllBare s.gens
def CE (outer:List Env)(P:Program)(w:World)(H:Hp)(s:Shared)(Q:VK)(u:Value)(s':Shared):Prop :=
 ∃v H',s'.os=s.os/\AllBare s'.gens/\Un (frs outer) [] H H' s.heap s'.heap/\HOk P w H' s'.heap/\RelV v u/\Q v H'
def CR (CX:CXT)(outer:List Env)(P:Program)(w:World)(H:Hp)(s:Shared)(Q:VK)(E:XK)(r:Result)(s':Shared):Prop :=
 match r with
 |.ok (.ret u)=>CE outer P w H s Q u s'
 |.ok _=>False
 |.error e=>CX outer H s E e s'
structure wg (P:Program)(w:World)(K:zFr)(mg:Str->Option Value)(base:Heap)(CX:CXT)(k:Nat)(f:Addr)(fd:FuncData)(ps:List Str)(sp:Sp):Prop where
 len:∀vs H Q E,sp vs H Q E->vs.length=ps.length
 run:∀ (A:Around) (outer:List Env) (s:Shared) (H:Hp) (args:Args) (us:List Value) (vs:List V) (Q:VK) (E:XK),qU k A->Yr P w K mg base A outer s H->BindsTo s fd args (ps.zip us)->Vals vs us->sp vs H Q E →
  codeAny (model P w) A (.call (.ref f) args) (CR CX outer P w H s Q E) s
def wg.imp {P:Program}{w:World}{K:zFr}{mg:Str->Option Value}{base:Heap}{CX:CXT}{k:Nat}{f:Addr}{fd:FuncData}{ps:List Str}{sp sp':Sp}(F:wg P w K mg base CX k f fd ps sp)
 (h:∀vs H Q E,sp' vs H Q E->sp vs H Q E):wg P w K mg base CX k f fd ps sp' :=
 ⟨λvs H Q E q=>F.len vs H Q E (h _ _ _ _ q),λA outer s H args us vs Q E hr he hb hv hs=>F.run A outer s H args us vs Q E hr he hb hv (h _ _ _ _ hs)⟩
def Yr.in1 {P:Program}{w:World}{K:zFr}{mg:Str->Option Value}{base:Heap}{A:Around}{outer:List Env}{s:Shared}{H:Hp}(e:Yr P w K mg base A outer s H) :
 Yr P w K mg base A.in1 outer s H:=⟨e.frames,e.mod,e.bs,e.bsz,e.zZ,e.frf,e.hok,e.bare⟩
section
variable {X:Cx}{pins:List (Addr×Obj)}{σ:St}{H:Hp}{s s':Shared}
def Inv.kd9 (I:Inv X pins σ H s):Yr X.prog X.w X.K X.mg X.base X.A X.stack s H :=
 ⟨I.ok.frames,I.ok.mod,I.bs,Nat.le_trans I.ok.bsz I.sz,I.stack,I.jg,I.hok,I.bare⟩
def Inv.after {Q:VK}{u:Value}(I:Inv X pins σ H s)(h:CE X.stack X.prog X.w H s Q u s'):EP X pins σ Q u s':=by
 obtain⟨v,H',os,bare,un,hok,r,q⟩:=h;obtain⟨hh,g,d,t,os'⟩:=s';obtain rfl:os'=s.os:=os;exact⟨v,H',I.call (h':=hh) (g':=g) (d':=d) (t':=t) (ch:=[]) un hok bare (λb z=>absurd z (by simp)),r,q⟩
end
def keL (sp:Sp)(dvs:List V)(E:XK)(t:TA):TE:=λσ H Q=>t σ H λvs H1=>sp (vs++dvs) H1 Q E
def Binds (K:zFr)(fd:FuncData)(ps:List Str)(ds:List Value):Prop :=
 ∀ (s:Shared) (us:List Value),K.In s.heap->(us++ds).length=ps.length->BindsTo s fd ⟨us,[]⟩ (ps.zip (us++ds))
def Binds.all {K:zFr}{fd:FuncData}{ps:List Str}(h:∀us:List Value,us.length=ps.length->bindArgs fd ⟨us,[]⟩=pure (ps.zip us)):Binds K fd ps []:=λs us _ hl=>by
 rw[List.append_nil]at hl ⊢;exact .of_eq (h us hl)
def Passes (CX:CXT)(X:Cx)(E:XK):Prop:=∀ (pins:List (Addr×Obj)) (σ:St) (H:Hp) (s:Shared) (e:Value) (s':Shared),Inv X pins σ H s->CX X.stack H s E e s'->X.xe e s'
section
variable {X:Cx}{CX:CXT}{k:Nat}{f C:Addr}{fd:FuncData}{ps:List Str}{sp:Sp}{dvs:List V}{ds:List Value}{E:XK}{x m:Str}{p pos apos:Pos}{e o:Expr}{es:List Expr}{ta:TE}{t:TA}
def kcM {pins:List (Addr × Obj)} {σ:St} {H:Hp} {s:Shared} {Q:VK} {us:List Value} {vs:List V} (F:wg X.prog X.w X.K X.mg X.base CX k f fd ps sp) (hr:qU k X.A) (hb:Binds X.K fd ps ds) (hd:Vals dvs ds) (hx:Passes CX X E)
 (I:Inv X pins σ H s) (r:Vals vs us) (h:sp (vs++dvs) H Q E):wpAny (model X.prog X.w) X.A (call (.ref f) us) (EP X pins σ Q) X.xe s:=by
 have r2:Vals (vs++dvs) (us++ds):=r.append hd;have hl:(us++ds).length=ps.length:=by rw[<- r2.length];exact F.len _ _ _ _ h
 refine wpAny_call (codeAny_mono (F.run X.A X.stack s H ⟨us,[]⟩ (us++ds) (vs++dvs) Q E hr I.kd9 (hb s us I.kIn hl) r2 h) λr s' hq=>?_)
 cases r with
 |error e=>exact hx pins σ H s e s' I hq
 |ok fl=>
  cases fl with
  |ret u=>exact I.after hq
  |next=>exact False.elim hq
  |brk=>exact False.elim hq
  |cont=>exact False.elim hq
def kfr (F:wg X.prog X.w X.K X.mg X.base CX k f fd ps sp)(hr:qU k X.A)(hg:Gl X x)(hm:X.mg x=some (.ref f))(hk:PySem.W.keepIn X.K (.ref f)=true)(hb:Binds X.K fd ps ds)(hd:Vals dvs ds)(hx:Passes CX X E)
 (ha:PA X (e::es) t) (hdb:(x==("__debug__":Str))=false:=by decide) (he:starEach (e::es) X.env=(false,eval e X.env)::starEach es X.env:=by rfl) (hpl:(backTo pos (starEach es X.env)).any (·.1)=false:=by rfl) :
 PE X (.Call (.Name x p) (e::es) [] pos) (keL sp dvs E t):=by
 intro pins s σ H Q I h;refine wpAny_Call_Name_kw (Vb I hg hm ?_ hdb);refine PySem.W.callWith_K (h₀:=X.base) I.ok.mod.kin hk (thn (ha pos pins s σ H _ I h) λus s1 ⟨vs,H1,I1,r,q⟩=>⟨I1.kIn,?_⟩) he hpl;exact kcM F hr hb hd hx I1 r q
end
structure kQ (N P:List Str)(sc:Scope):Prop where
 kind:sc.kind = .function
 co:sc.isCoroutine=false
 gen:sc.isGenerator=false
 nd:N.Nodup
 pre:N.take P.length=P
 par:∀x∈P,sc.names.lookup x=some .local∨sc.names.lookup x=some .cell
 nofree:∀y∈sc.names,y.2 ≠ .free
def jw {kindOf:Str->Option NameKind}{x:Str}:∀ {binds:List (Str×Value)} {m:Str->Option Value},(∀v,(x,v)∉binds)->bindL kindOf binds m x=m x
 | [],_,_=>rfl
 |(n,v)::r,m,h=>by
  unfold bindL;rw[jw λw hw=>h w (zah _ hw)];split
  ·have:x≠n:=by rintro rfl;exact h v zaj
   simp[this]
  ·rfl
def jn {kindOf:Str->Option NameKind}{x:Str}:∀ {binds:List (Str×Value)} {m:Str->Option Value},(∀v,(x,v)∉binds)->bindC kindOf binds m x=m x
 | [],_,_=>rfl
 |(n,v)::r,m,h=>by
  unfold bindC;rw[jn λw hw=>h w (zah _ hw)];split
  ·rfl
  ·have:x≠n:=by rintro rfl;exact h v zaj
   simp[this]
def jM {kindOf:Str -> Option NameKind} {x:Str} {v:Value}:∀ {P:List Str} {vs:List Value} {i:Nat} {m:Str -> Option Value},P.Nodup -> P[i]? = some x -> vs[i]? = some v -> kindOf x = some .local →
 bindL kindOf (P.zip vs) m x=some v
 | [],_,_,_,_,h,_,_=>by simp at h
 |_::_,[],_,_,_,_,h,_=>by simp at h
 |p::P,w::vs,0,m,nd,h1,h2,hk=>by
  simp at h1 h2;subst h1;subst h2
  show bindL kindOf ((p,w)::P.zip vs) m p=_;unfold bindL;rw[jw λv hv=>(List.nodup_cons.mp nd).1 (List.of_mem_zip hv).1,if_pos hk];simp
 |p::P,w::vs,i+1,m,nd,h1,h2,hk=>by
  show bindL kindOf ((p,w)::P.zip vs) m x=_;unfold bindL;exact jM (i:=i) (List.nodup_cons.mp nd).2 (by simpa using h1) (by simpa using h2) hk
def jk {kindOf:Str -> Option NameKind} {x:Str} {v:Value}:∀ {P:List Str} {vs:List Value} {i:Nat} {m:Str -> Option Value},P.Nodup -> P[i]? = some x -> vs[i]? = some v -> kindOf x ≠ some .local →
 bindC kindOf (P.zip vs) m x=some v
 | [],_,_,_,_,h,_,_=>by simp at h
 |_::_,[],_,_,_,_,h,_=>by simp at h
 |p::P,w::vs,0,m,nd,h1,h2,hk=>by
  simp at h1 h2;subst h1;subst h2
  show bindC kindOf ((p,w)::P.zip vs) m p=_;unfold bindC;rw[jn λv hv=>(List.nodup_cons.mp nd).1 (List.of_mem_zip hv).1,if_neg hk];simp
 |p::P,w::vs,i+1,m,nd,h1,h2,hk=>by
  show bindC kindOf ((p,w)::P.zip vs) m x=_;unfold bindC;exact jk (i:=i) (List.nodup_cons.mp nd).2 (by simpa using h1) (by simpa using h2) hk
def start (N:List Str)(vs:List V):St:=vs.map some++List.replicate (N.length - vs.length) none
def KL (CX:CXT)(P:Program)(w:World)(K:zFr)(mg:Str->Option Value)(base:Heap)(N:List Str)(qual:Str)(scope:Scope)(f:Addr)(cd:Value)(A:Around)(outer:List Env)(s:Shared)(H:Hp)(E:XK):Cx where
 prog:=P
 w:=w
 K:=K
 mg:=mg
 base:=base
 A:=A.deeper (envOfC qual scope s.heap.objs.size f cd)
 N:=N
 s₀:=s
 H₀:=H
 env:=envOfC qual scope s.heap.objs.size f cd
 outer:=outer
 stack:=envOfC qual scope s.heap.objs.size f cd::outer
 ex:=[]
 calm:=true
 fn:=λ_=>true
 pn:=[]
 xe:=λe s'=>wpAny (model P w) (A.deeper (envOfC qual scope s.heap.objs.size f cd)) (leaving (envOfC qual scope s.heap.objs.size f cd) e) (λ_ s''=>CX outer H s E e s'') (λe' s''=>CX outer H s E e' s'') s'
def Yb {sc:Scope}{n:Nat}{x:Str}(h:sc.names.lookup x=some .cell):∃c,(cellsFrom n sc.names []).lookup x=some c:=by
 have q:=PySem.W.cellsFrom_some sc.names n [] (.inl h);exact Option.isSome_iff_exists.mp q
def kbs {CX:CXT}{P:Program}{w:World}{K:zFr}{mg:Str->Option Value}{base:Heap}{N ps:List Str}{qual:Str}{scope:Scope}{f:Addr}{cd:Value}{A:Around}{outer:List Env}{s s1:Shared}{H:Hp}{E:XK}{us:List Value}{vs:List V}
 (S:kQ N ps scope) (hd:A.handled=none) (e0:Yr P w K mg base A outer s H) (hl:vs.length=ps.length) (r:Vals vs us)
 (x:InCallC s s.heap.objs.size (bindL (envOfC qual scope s.heap.objs.size f cd).kindOf (ps.zip us) λ_=>none) (cellsFrom (s.heap.objs.size+1) scope.names []) (bindC (envOfC qual scope s.heap.objs.size f cd).kindOf (ps.zip us) λ_=>none) s1) :
 Inv (KL CX P w K mg base N qual scope f cd A outer s H E) [] (start N vs) H s1:=by
 have hpl:ps.length<=N.length:=by have:=congrArg List.length S.pre;rw[List.length_take]at this;omega
 obtain⟨h1,tk,rfl,hk⟩:=x.done;have noA:∀b:Addr,b∉(KL CX P w K mg base N qual scope f cd A outer s H E).ex:=λb z=>absurd (show b∈([]:List Addr) from z) (by simp)
 refine⟨⟨e0.mod,S.kind,rfl,rfl,zak _,λy z c h1 h2=>?_,λy hy=>?_,λy c _ h=>?_,λ_=>hd,Around.frames_deeper e0.frames,.inr ⟨rfl,rfl⟩,λb z=>absurd z (noA b),e0.bs,e0.bsz,λb _ _=>noA b,λb z=>absurd z (noA b),e0.zZ,e0.frf⟩,
  rfl,e0.bare,Un.kept hk,⟨_,x.toInCall.ns,λi y v h1 h2 h3=>?_⟩,λy c h=>⟨_,x.cell y c h⟩,e0.hok.fresh (zak _),λy c h=>?_,λp hp=>absurd (show p∈([]:List (Addr×Obj)) from hp) (by simp),e0.hok.kept hk,?_⟩
 ·exact name_of_addr x.apart (PySem.mem_of_lookup h1) (PySem.mem_of_lookup h2)
 ·have hy:scope.names.lookup y=some .cell∨scope.names.lookup y=some .free:=hy
  rcases hy with hy | hy
  ·exact Yb hy
  ·exact absurd rfl (S.nofree _ (PySem.mem_of_lookup hy))
 ·exact Nat.le_of_lt (x.above y c (PySem.mem_of_lookup h))
 ·have hi:i < vs.length:=by
   unfold start at h2
   by_cases hi:i < vs.length
   ·exact hi
   ·rw[List.getElem?_append_right (by simpa using hi)]at h2;rw[List.getElem?_replicate]at h2
    split at h2 <;> cases h2
  have ha:vs[i]?=some v:=by
   unfold start at h2;rw[List.getElem?_append_left (by simpa using hi),zar]at h2
   cases e:vs[i]? with
   |none=>rw[e]at h2;cases h2
   |some a=>rw[e]at h2;cases h2;rfl
  obtain⟨u,hu,rv⟩:=r.get ha
  have hp:ps[i]?=some y:=by
   rw[<- S.pre,List.getElem?_take_of_lt (by omega)];exact h1
  have ndP:ps.Nodup:=by rw[<- S.pre];exact S.nd.sublist (List.take_sublist _ _)
  refine⟨u,rv,?_⟩
  rcases S.par y (List.mem_of_getElem? hp) with k | k
  ·exact .inl ⟨k,jM ndP hp hu k⟩
  ·obtain⟨c,e⟩:=Yb (n:=s.heap.objs.size+1) k;refine .inr ⟨.inl k,c,e,?_⟩;have q:=x.cell y c e;rw[jk ndP hp hu (by show scope.names.lookup y≠_;rw[k];decide)]at q;exact q
 ·exact e0.hok.fresh (Nat.le_of_lt (x.above y c (PySem.mem_of_lookup h)))
 ·unfold start;show _=N.length;rw[zap,zai,List.length_replicate];omega
def khT {CX:CXT} {P:Program} {w:World} {K:zFr} {mg:Str -> Option Value} {base:Heap} {k:Nat} {f:Addr} {name qual:Str} {params:Arguments} {body:List Stmt} {scope:Scope} {dV kV doc pm cdv ct oc:Value} {an od:Option Addr}
 {osl:Array (Option Value)} {N ps:List Str} {sp:Sp} (lk:K.lookup f=some ⟨oc,od,.func (PySem.W.fnOf name qual params body scope dV kV doc pm an cdv ct),osl⟩) (hcd:PySem.W.codeIn K cdv qual=true) (S:kQ N ps scope)
 (len:∀vs H Q E,sp vs H Q E->vs.length=ps.length)
 (hbody:∀ (A:Around) (outer:List Env) (s:Shared) (H:Hp) (vs:List V) (Q:VK) (E:XK),qU k (A.deeper (envOfC qual scope s.heap.objs.size f cdv))->sp vs H Q E →
  ∃t,PSs (KL CX P w K mg base N qual scope f cdv A outer s H E) body t/\t { nx:=λ_ H'=>Q .non H',rt:=Q } (start N vs) H) :
 wg P w K mg base CX (k+1) f (PySem.W.fnOf name qual params body scope dV kV doc pm an cdv ct) ps sp:=by
 refine⟨len,λA outer s H args us vs Q E hr e0 hb r hsp=>?_⟩;have hl:=len _ _ _ _ hsp;have KX:K.In s.heap:=e0.mod.kin.keeps λb o e=>(e0.bs b o e).1
 have lim:s.heap.NoLimit:=e0.mod.nolimit.keeps λb o e=>(e0.bs b o e).1
 have hkind:∀y∈ps.zip us,scope.names.lookup y.1=some .local∨(scope.names.lookup y.1=some .cell/\((cellsFrom (s.heap.objs.size+1) scope.names []).lookup y.1).isSome=true):=λ⟨n,v⟩ hy=>by
  rcases S.par n (List.of_mem_zip hy).1 with q | q
  ·exact .inl q
  ·exact .inr ⟨q,PySem.W.cellsFrom_some _ _ _ (.inl q)⟩
 refine codeAny_call_function hr.depth (KX _ _ lk) rfl S.co S.gen rfl (PySem.W.codeRec_of KX hcd) (hb _ _ _ _ ?_);refine wpAny_newFunctionEnv_cells S.kind hkind λenv he s1 x=>?_
 subst he;refine⟨lim.keeps x.toInCall.keep,codeAny_func ?_⟩;obtain⟨t,ht,hq⟩:=hbody A outer s H vs Q E (hr.deeper _) hsp;have I:Inv (KL CX P w K mg base N qual scope f cdv A outer s H E) [] (start N vs) H s1:=kbs S hr.hd e0 hl r x;refine wpAny_mono (ht [] s1 (start N vs) H _ I hq) (λfl s' hs=>?_) λe s' hs=>hs
 have fin:∀ {σ':St} {H':Hp} {v:V} {u:Value},Inv (KL CX P w K mg base N qual scope f cdv A outer s H E) [] σ' H' s'->RelV v u->Q v H'->CE outer P w H s Q u s' :=
  λ{σ' H' v u} J rv q=>⟨v,H',J.os,J.bare,J.base,J.hok,rv,q⟩
 cases fl with
 |ret u=>
  obtain⟨v,σ',H',J,rv,q⟩:=hs;exact fin J rv q
 |next=>
  obtain⟨σ',H',J,q⟩:=hs;exact fin (v:=V.non) (u:=Value.none) J rfl q
 |brk=>
  obtain⟨_,_,_,q⟩:=hs;exact False.elim q
 |cont=>
  obtain⟨_,_,_,q⟩:=hs;exact False.elim q
section
variable {X:Cx}{x:Str}{p pos:Pos}{e:Expr}{es:List Expr}{t:TA}{id T:String}{r:List V->Hp->VK->Prop}
def tCB (r:List V->Hp->VK->Prop)(t:TA):TE:=λσ H Q=>t σ H λvs H1=>r vs H1 Q
def Wf (hc:Kv X (.builtin id) r)(hg:Gl X x)(hm:X.mg x=none)(hv:bootBuiltins x=some (.builtin id))(ha:PA X (e::es) t)(hn:x ≠ "__name__":=by decide)(hdb:(x==("__debug__":Str))=false:=by decide)
 (he:starEach (e::es) X.env=(false,eval e X.env)::starEach es X.env:=by rfl) (hpl:(backTo pos (starEach es X.env)).any (·.1)=false:=by rfl):PE X (.Call (.Name x p) (e::es) [] pos) (tCB r t):=by
 intro pins s σ H Q I h;refine wpAny_Call_Name_kw (zI I hg hm hv ?_ hn hdb);exact PyProof.Rows.callWith_builtin1 (thn (ha pos pins s σ H _ I h) λus s1 ⟨vs,H1,I1,r1,q1⟩=>hc pins s1 σ H1 vs us Q I1 r1 q1) he hpl
def kbY (hc:Kv X (.type T) r)(hg:Gl X x)(hm:X.mg x=none)(hv:bootBuiltins x=some (.type T))(ha:PA X (e::es) t)(hn:x ≠ "__name__":=by decide)(hdb:(x==("__debug__":Str))=false:=by decide)
 (he:starEach (e::es) X.env=(false,eval e X.env)::starEach es X.env:=by rfl) (hpl:(backTo pos (starEach es X.env)).any (·.1)=false:=by rfl):PE X (.Call (.Name x p) (e::es) [] pos) (tCB r t):=by
 intro pins s σ H Q I h;refine wpAny_Call_Name_kw (zI I hg hm hv ?_ hn hdb);exact PyProof.Rows.callWith_type1 (thn (ha pos pins s σ H _ I h) λus s1 ⟨vs,H1,I1,r1,q1⟩=>hc pins s1 σ H1 vs us Q I1 r1 q1) he hpl
end
end L2
namespace HT
open PySem PyProof.Rows
def kdt (A:Around)(s:Shared)(a:Int)(t:Tok)(c:Int)(u:Tok)(prog:Program)(w:World)(E:zEx)(Q:zEx)(h:Q (.bool (decide (a < c))) s) :
 wpAny (model prog w) A (richCompare .Lt (.int a t) (.int c u)) Q E s :=
 (PyProof.Rows.lt_int h:wpAny (model prog w) A (compareOp .Lt (.int a t) (.int c u)) Q E s)
section
variable {prog:Program}{w:World}{A:Around}{E:zEx}{s:Shared}
def kfA {t b:Addr}{vs ws:List Value}{Q:zEx}(ht:IsTup s.heap t vs.toArray)(hb:IsTup s.heap b ws.toArray)(hv:vs≠[])
 (h1:ws=[]->Q (.ref t) s) (h2:ws≠[]->Q (.ref s.heap.objs.size) { s with heap:=s.heap.push { cls:=.type "tuple",data:=.seq (vs++ws).toArray } })
 (hsz:vs.length+ws.length<=sizeLine):wpAny (model prog w) A (binaryOp .Add (.ref t) (.ref b)) Q E s:=by
 obtain⟨⟨cls,dd,data,sl⟩,ho,hc,n,hd⟩:=id ht;obtain⟨⟨cls2,dd2,data2,sl2⟩,ho2,hc2,n2,hd2⟩:=id hb;simp only at hc hd hc2 hd2;subst hc hd hc2 hd2;have e:vs.toArray++ws.toArray=(vs++ws).toArray:=by simp
 by_cases hw:ws=[]
 ·exact concat_meets ⟨_,ho,rfl⟩ ⟨_,ho2,rfl⟩ noFill_tuple_add seq_tuple_add PySem.F.slot_tuple_add PySem.F.entry_tuple_add (PySem.F.args_tuple_add_2 _ _)
   (tuple_addW1 t b vs.toArray ws.toArray n n2 dd dd2 sl sl2 (by simpa using hv) (by simp[hw])) ⟨ho,ho2,h1 hw⟩
 ·refine concat_meets ⟨_,ho,rfl⟩ ⟨_,ho2,rfl⟩ noFill_tuple_add seq_tuple_add PySem.F.slot_tuple_add PySem.F.entry_tuple_add (PySem.F.args_tuple_add_2 _ _)
   (tuple_addW2 t b vs.toArray ws.toArray n n2 dd dd2 sl sl2 (by simpa using hv) (by simpa using hw) (by rw[zal,zal];exact hsz)) ⟨ho,ho2,?_⟩
  rw[e];exact h2 hw
def sIx (n d:Nat):Option Int->Nat
 |none=>d
 |some v=>if v < 0 then (v+(n:Int)).toNat else min v.toNat n
def khm (n d:Nat)(hd:d<=n)(o:Option Int):sIx n d o<=n:=by
 cases o with
 |none=>exact hd
 |some v=>
  show (if v < 0 then (v+(n:Int)).toNat else min v.toNat n)<=n
  by_cases hv:v < 0
  ·rw[if_pos hv];omega
  ·rw[if_neg hv];exact Nat.min_le_right _ _
def kai (v:Int)(n d:Nat):(if v < 0 then max (v+(n:Int)) 0 else min v (n:Int))=((sIx n d (some v):Nat):Int):=by
 show (if v < 0 then max (v+(n:Int)) 0 else min v (n:Int))=(((if v < 0 then (v+(n:Int)).toNat else min v.toNat n):Nat):Int)
 by_cases hv:v < 0
 ·simp only[if_pos hv];omega
 ·simp only[if_neg hv];omega
def ka6 (lo hi:Option Int)(n:Nat):Builtin.Slice.sliceAdjust lo hi 1 (n:Int)=(((sIx n 0 lo:Nat):Int),((sIx n n hi:Nat):Int)):=by
 have h1:¬ ((1:Int) < 0):=by omega
 unfold Builtin.Slice.sliceAdjust;simp only[h1,if_false];refine Prod.ext ?_ ?_
 ·cases lo with
  |none=>rfl
  |some v=>exact kai v n 0
 ·cases hi with
  |none=>rfl
  |some v=>exact kai v n n
def kbc (i j:Nat):Builtin.Slice.slicePlaces (i:Int) (j:Int) 1=j - i:=by
 unfold Builtin.Slice.slicePlaces;have h1:(1:Int) > 0:=by omega
 simp only[h1,if_true,Int.ediv_one]
 split <;> omega
def Za {v:Value}{o:Option Int}{Q:Option Int->Shared->Prop}(p:IsPart v o)(h:Q o s):wpAny (model prog w) A (Builtin.Slice.slicePartIndex v) Q E s:=by
 cases p with
 |none=>exact slicePart_none h
 |int i t=>exact slicePart_int h
def Vl {sl:Addr}{vl vu:Value}{lo hi:Option Int}{n:Nat}{Q:Int×Int×Nat->Shared->Prop}(hs:s.heap.IsSliceOf sl vl vu .none)(pl:IsPart vl lo)(pu:IsPart vu hi)
 (h:Q (((sIx n 0 lo:Nat):Int),1,sIx n n hi - sIx n 0 lo) s):wpAny (model prog w) A (Builtin.Slice.sliceApplied (.ref sl) (pure (n:Int))) Q E s:=by
 obtain⟨os,hos,hcs,hds⟩:=id hs;unfold Builtin.Slice.sliceApplied Builtin.Slice.sliceFields;refine zaa (zaa (wpAny_field hos hds (x:=vl) rfl (zaa (wpAny_field hos hds (x:=vu) rfl (zaa (wpAny_field hos hds (x:=.none) rfl (zab ?_)))))));refine zaa (slicePart_none ?_);show wpAny _ _ (if ((1:Int)==0)=true then _ else _) _ _ s;rw[if_neg (by decide)];refine zaa (Za pl (zaa (Za pu (zaa (zab ?_)))));show wpAny _ _ (match Builtin.Slice.sliceAdjust lo hi 1 (n:Int) with | (lo,hi)=>pure (lo,(1:Int),Builtin.Slice.slicePlaces lo hi 1)) _ _ s;rw[ka6 lo hi n];show wpAny _ _ (pure (((sIx n 0 lo:Nat):Int),(1:Int),Builtin.Slice.slicePlaces ((sIx n 0 lo:Nat):Int) ((sIx n n hi:Nat):Int) 1)) _ _ s
 rw[kbc];exact zab h
def keq (xs:Array Value)(i k:Nat):((List.range k).filterMap λ(m:Nat)=>xs[((i:Int)+(m:Int) * 1).toNat]?).toArray=((xs.toList.drop i).take k).toArray:=by
 have e:(λ(m:Nat)=>xs[((i:Int)+(m:Int) * 1).toNat]?)=λm=>xs[i+m]?:=by
  funext m
  have:((i:Int)+(m:Int) * 1).toNat=i+m:=by omega
  rw[this]
 rw[e];have:=pick_run xs i k;rw[List.filterMap_map]at this;have e2:((λx=>xs[x]?) ∘ λx=>i+x)=λm=>xs[i+m]?:=rfl
 rw[e2]at this;rw[this]
def XQ {t sl:Addr}{items:Array Value}{vl vu:Value}{lo hi:Option Int}{Q:zEx}(ht:IsTup s.heap t items)(hs:s.heap.IsSliceOf sl vl vu .none)(pl:IsPart vl lo)(pu:IsPart vu hi)
 (hw:¬ (sIx items.size 0 lo=0/\sIx items.size items.size hi=items.size))
 (h:Q (.ref s.heap.objs.size) { s with heap:=s.heap.push { cls:=.type "tuple",data:=.seq ((items.toList.drop (sIx items.size 0 lo)).take (sIx items.size items.size hi - sIx items.size 0 lo)).toArray } })
 (hsz:items.size<=sizeLine):wpAny (model prog w) A (getItem (.ref t) (.ref sl)) Q E s:=by
 have htake:sizeOk (.seq ((items.toList.drop (sIx items.size 0 lo)).take (sIx items.size items.size hi - sIx items.size 0 lo)).toArray):=by
  show ((items.toList.drop (sIx items.size 0 lo)).take (sIx items.size items.size hi - sIx items.size 0 lo)).toArray.size<=sizeLine;rw[zal,List.length_take,List.length_drop,zao];omega
 have hj:sIx items.size items.size hi<=items.size:=khm _ _ (zak _) hi;obtain⟨os,hos,hcs,hds⟩:=id hs;have hTs:s.TypeIs (.ref sl) "slice":=⟨os,hos,hcs⟩;unfold getItem
 try with_reducible refine wpAny_holding ?_
 first | refine zaa (zab ?_) | skip
 refine zaa (wpAny_sequenceKey ht.typeIs (by decide) ?_)
 refine zaa (wpAny_callSpecial?_slot (name:=Str.ofString "__getitem__") ht.typeIs PyProof.Rows.slot_tuple_getitem
  (wpAny_call_entry PyProof.Rows.slot_tuple_getitem ht.typeIs entry_tuple_getitem ?_ (args_tuple_getitem _ _)))
 show wpAny _ _ (Builtin.Tuple.tupleItemsOf (.ref t)>>=_) _ _ s;refine zaa (tupleItemsOf_ ht ?_);refine zaa (wpAny_typeOf hTs ?_);rw[if_pos (by decide)];refine zaa (Vl hs pl pu ?_)
 have hno:¬ ((((sIx items.size 0 lo:Nat):Int)==0&&(1:Int)==1&&(sIx items.size items.size hi - sIx items.size 0 lo)==items.size)=true):=by
  intro q;rw[Bool.and_eq_true,Bool.and_eq_true]at q;have q1:((sIx items.size 0 lo:Nat):Int)=0:=eq_of_beq q.1.1;have q2:sIx items.size items.size hi - sIx items.size 0 lo=items.size:=eq_of_beq q.2;exact hw ⟨by omega,by omega⟩
 show wpAny _ _ (if (((sIx items.size 0 lo:Nat):Int)==0&&(1:Int)==1&&(sIx items.size items.size hi - sIx items.size 0 lo)==items.size)=true then _ else _) _ _ s;rw[if_neg hno,keq]
 first
  |exact zaa (m:=Builtin.Tuple.tupleExact _) (wpAny_newObj_type (zab ⟨_,rfl,zab h⟩) htake)
  |exact zaa (m:=Builtin.Tuple.tupleExact _) (wpAny_newObj_type (zaa (zab (zab ⟨_,rfl,zab h⟩))) htake)
  |exact zaa (zaa (m:=Builtin.Tuple.tupleExact _) (wpAny_newObj_type (zab (zab ⟨_,rfl,zab h⟩)) htake))
  |exact zaa (zaa (m:=Builtin.Tuple.tupleExact _) (wpAny_newObj_type (zab ⟨_,rfl,zab h⟩) htake))
end
end HT
namespace L2
open PySem PySem.Spec PyProof.Rows
abbrev TO:=St->Hp->(Option Int->Hp->Prop)->Prop
def PO (X:Cx)(e:Option Expr)(t:TO):Prop :=
 ∀ (pins:List (Addr×Obj)) (s:Shared) (σ:St) (H:Hp) (Q:Option Int->Hp->Prop),Inv X pins σ H s->t σ H Q →
  wpAny (model X.prog X.w) X.A (evalPart e X.env) (λu s'=>∃o H',Inv X pins σ H' s'/\IsPart u o/\Q o H') X.xe s
def kgj:TO:=λ_ H Q=>Q none H
def kif (t:TE):TO:=λσ H Q=>t σ H λx H1=>∃i,x = .int i/\Q (some i) H1
section
variable {X:Cx}{e:Expr}{te:TE}{lo hi:Option Expr}{tl th:TO}{pos p2:Pos}
def kfa:PO X none kgj:=by
 intro pins s σ H Q I h;rw[evalPart_none];exact zab ⟨none,H,I,.none,h⟩
def kff (h:PE X e te):PO X (some e) (kif te):=by
 intro pins s σ H Q I hw;rw[evalPart_some];refine thn (h pins s σ H _ I hw) λu s1 ⟨x,H1,I1,r1,q1⟩=>?_
 obtain⟨i,rfl,q⟩:=q1;obtain⟨t,rfl⟩:=r1;exact⟨some i,H1,I1,.int i t,q⟩
def SlR (X:Cx)(r:V->Option Int->Option Int->Hp->VK->Prop):Prop :=
 ∀ (pins:List (Addr×Obj)) (s:Shared) (σ:St) (H:Hp) (x:V) (v vl vu:Value) (lo hi:Option Int) (sl:Addr) (Q:VK),Inv X pins σ H s->RelV x v->s.heap.IsSliceOf sl vl vu .none->IsPart vl lo->IsPart vu hi->r x lo hi H Q →
  ∃T id,typeLookup (.type T) "__getitem__" = pure (some (.builtin id))/\s.TypeIs v T/\wpAny (model X.prog X.w) X.A (getItem v (.ref sl)) (EP X pins σ Q) X.xe s
def SlR.or {r r':V->Option Int->Option Int->Hp->VK->Prop}(h:SlR X r)(h':SlR X r'):SlR X (λx lo hi H Q=>r x lo hi H Q∨r' x lo hi H Q):=by
 intro pins s σ H x v vl vu lo hi sl Q I rx hs pl pu q
 rcases q with q | q
 ·exact h pins s σ H x v vl vu lo hi sl Q I rx hs pl pu q
 ·exact h' pins s σ H x v vl vu lo hi sl Q I rx hs pl pu q
def tSl (r:V->Option Int->Option Int->Hp->VK->Prop)(te:TE)(tl th:TO):TE:=λσ H Q=>te σ H λx H1=>tl σ H1 λl H2=>th σ H2 λu H3=>r x l u H3 Q
def kes {r:V->Option Int->Option Int->Hp->VK->Prop}(hr:SlR X r)(he:PE X e te)(hl:PO X lo tl)(hu:PO X hi th):PE X (.Subscript e (.Slice lo hi none p2) pos) (tSl r te tl th):=by
 intro pins s σ H Q I h;refine Subscript_ (thn (he pins s σ H _ I h) λv s1 ⟨x,H1,I1,r1,q1⟩=>?_);refine wpAny_Slice (thn (hl pins s1 σ H1 _ I1 q1) λvl s2 ⟨l,H2,I2,pl,q2⟩=>thn (hu pins s2 σ H2 _ I2 q2) λvu s3 ⟨u,H3,I3,pu,q3⟩=>?_);rw[evalPart_none];refine zab ?_;have I4:Inv X pins σ H3 { s3 with heap:=s3.heap.push { cls:=.type "slice",data:=.fields #[vl,vu,.none] } }:=I3.kept (t':=s3.toks) λb ob q=>zac _ q
 obtain⟨T,id,hT,ht,hg⟩:=hr pins { s3 with heap:=s3.heap.push { cls:=.type "slice",data:=.fields #[vl,vu,.none] } } σ H3 x v vl vu l u s3.heap.objs.size Q I4 r1 (Heap.IsSliceOf.new ..) pl pu q3;show wpAny (model X.prog X.w) X.A (subscriptTail e (.Slice lo hi none p2) v (.ref s3.heap.objs.size)) (EP X pins σ Q) X.xe { s3 with heap:=s3.heap.push { cls:=.type "slice",data:=.fields #[vl,vu,.none] } };exact tail_any (ops:=[.ref s3.heap.objs.size,v]) ht hT hg (by with_unfolding_all rfl)
def Xa (xs:List V)(lo hi:Option Int):List V:=(xs.drop (HT.sIx xs.length 0 lo)).take (HT.sIx xs.length xs.length hi - HT.sIx xs.length 0 lo)
def XW (xs:List V)(lo hi:Option Int):(Xa xs lo hi).length<=xs.length:=by
 unfold Xa;rw[List.length_take,List.length_drop];omega
def kjE (K:zFr):V->Option Int->Option Int->Hp->VK->Prop:=λx lo hi H Q=>∃a xs,x = .ref a/\SqT K H a xs ∧
 ¬ (HT.sIx xs.length 0 lo=0/\HT.sIx xs.length xs.length hi=xs.length)/\∀p,H p=none->Q (.ref p) (upd H p (.tup (Xa xs lo hi)))
def khE:SlR X (kjE X.K):=by
 intro pins s σ H x v vl vu lo hi sl Q I rx hs pl pu h;obtain⟨a,xs,rfl,hx,hw,q⟩:=h;cases rx;obtain⟨its,r,ht,hz⟩:=I.tuple hx;have hlen:its.toArray.size=xs.length:=by rw[zal];exact r.length.symm
 refine⟨"tuple",_,PyProof.Rows.slot_tuple_getitem.lookup,ht.typeIs,?_⟩;refine HT.XQ ht hs pl pu (by rw[hlen];exact hw) ?_ (by rw[hlen];exact hz);rw[hlen];refine⟨.ref s.heap.objs.size,_,I.laid (t':=s.toks) (o:=.tup (Xa xs lo hi)) (λb ob q=>zac _ q) (zak _) ?_,rfl,q _ (I.hok.fresh (zak _))⟩;exact⟨Nat.le_trans (XW xs lo hi) hz,_,(r.drop (HT.sIx xs.length 0 lo)).take (HT.sIx xs.length xs.length hi - HT.sIx xs.length 0 lo),IsTup.new _ _⟩
def kiB (K:zFr):R2:=λx y H Q=>∃a b xs ys,x = .ref a/\y = .ref b/\SqT K H a xs/\SqT K H b ys/\xs≠[]/\xs.length+ys.length<=sizeLine ∧
 (ys=[]->Q (.ref a) H)/\(ys≠[]->∀p,H p=none->Q (.ref p) (upd H p (.tup (xs++ys))))
def Vals.Zy {xs:List V}{us:List Value}(r:Vals xs us):us=[]↔xs=[]:=by
 cases r with
 |nil=>simp
 |cons _ _=>simp
def kgk:OpR X (binaryOp .Add) (kiB X.K):=by
 intro pins s σ H x y v u Q I rx ry h;obtain⟨a,b,xs,ys,rfl,rfl,ha,hb,hx,hz,q1,q2⟩:=h;cases rx;cases ry;obtain⟨its,r1,p1,_⟩:=I.tuple ha;obtain⟨its2,r2,p2,_⟩:=I.tuple hb;refine HT.kfA p1 p2 (λz=>hx (r1.Zy.mp z)) (λz=>⟨.ref a,H,I,rfl,q1 (r2.Zy.mp z)⟩) (λz=>?_) (by rw[<- r1.length,<- r2.length];exact hz);refine⟨.ref s.heap.objs.size,_,I.laid (t':=s.toks) (o:=.tup (xs++ys)) (λb ob q=>zac _ q) (zak _) ?_,rfl,q2 (λw=>z (r2.Zy.mpr w)) _ (I.hok.fresh (zak _))⟩;exact⟨by rw[zap];exact hz,_,r1.append r2,IsTup.new _ _⟩
end
def ixN (n:Nat)(i:Int):Option Nat:=if 0<=i then (if i < n then some i.toNat else none) else if -(n:Int)<=i then some (i+n).toNat else none
def atI {α:Type}(xs:List α)(i:Int):Option α:=(ixN xs.length i).bind λj=>xs[j]?
def kgg {n:Nat}{i:Int}{j:Nat}(h:ixN n i=some j):seqIndex? i n=some j/\j < n /\ -(n:Int)<=i/\i < n:=by
 unfold ixN at h
 by_cases h0:0<=i
 ·rw[if_pos h0]at h
  by_cases h1:i < n
  ·rw[if_pos h1]at h;have e:i.toNat=j:=Option.some.inj h;exact⟨by rw[seqIndex_of h0 h1,e],by omega,by omega,h1⟩
  ·rw[if_neg h1]at h;cases h
 ·rw[if_neg h0]at h
  by_cases h1:-(n:Int)<=i
  ·rw[if_pos h1]at h;have e:(i+n).toNat=j:=Option.some.inj h;exact⟨by rw[seqIndex_neg (by omega) h1,e],by omega,h1,by omega⟩
  ·rw[if_neg h1]at h;cases h
def ZQ {α:Type}{xs:List α}{i:Int}{v:α}(h:atI xs i=some v):∃j,seqIndex? i xs.length=some j/\xs[j]?=some v/\j < xs.length /\ -(xs.length:Int)<=i/\i < xs.length:=by
 unfold atI at h
 cases e:ixN xs.length i with
 |none=>rw[e]at h;cases h
 |some j=>
  rw[e]at h;obtain⟨h1,h2,h3,h4⟩:=kgg e;exact⟨j,h1,h,h2,h3,h4⟩
def wG {α:Type}{xs:List α}{j:Nat}{v:α}(h:xs[j]?=some v):atI xs (j:Int)=some v:=by
 have hj:j < xs.length:=(List.getElem?_eq_some_iff.mp h).1
 have e:ixN xs.length (j:Int)=some j:=by
  unfold ixN;rw[if_pos (by omega),if_pos (by omega)];simp
 unfold atI;rw[e];exact h
def Zx (b:Expr):Prop:=∀o i,subscripted b false o i=operate [o,i] (getItem o i)
def IxR (X:Cx)(r:R2):Prop :=
 ∀ (value slice:Expr) (pins:List (Addr×Obj)) (s:Shared) (σ:St) (H:Hp) (x y:V) (v u:Value) (Q:VK),Inv X pins σ H s->RelV x v->RelV y u->r x y H Q →
  subscripted slice false v u=operate [v,u] (getItem v u)->wpAny (model X.prog X.w) X.A (subscriptTail value slice v u) (EP X pins σ Q) X.xe s
def MtR (X:Cx)(id:String)(r:V->List V->Hp->VK->Prop):Prop :=
 ∀ (pins:List (Addr×Obj)) (s:Shared) (σ:St) (H:Hp) (x:V) (xs:List V) (v:Value) (us:List Value) (Q:VK),Inv X pins σ H s->RelV x v->Vals xs us->r x xs H Q →
  wpAny (model X.prog X.w) X.A (call (.builtin id) (v::us)) (EP X pins σ Q) X.xe s
section
variable {X:Cx}{a b:Expr}{ta tb:TE}{pos:Pos}
def IxR.or {r r':R2}(h:IxR X r)(h':IxR X r'):IxR X (λx y H Q=>r x y H Q∨r' x y H Q):=by
 intro value slice pins s σ H x y v u Q I rx ry q hs
 rcases q with q | q
 ·exact h value slice pins s σ H x y v u Q I rx ry q hs
 ·exact h' value slice pins s σ H x y v u Q I rx ry q hs
def kew {r:R2}(hr:IxR X r)(ha:PE X a ta)(hb:PE X b tb)(hs:Zx b):PE X (.Subscript a b pos) (tOp r ta tb):=by
 intro pins s σ H Q I h;exact Subscript_ (kcX ha hb I h λv u s2 x y H2 I2 rx ry q=>hr a b pins s2 σ H2 x y v u Q I2 rx ry q (hs _ _))
def kgR (K:zFr):R2:=λx y H Q=>∃p xs i v,x = .ref p/\y = .int i/\SqL K H p xs/\atI xs i=some v/\Q v H
def khp (K:zFr):R2:=λx y H Q=>∃p xs i v,x = .ref p/\y = .int i/\SqT K H p xs/\atI xs i=some v/\Q v H
def kgZ:R2:=λx y H Q=>∃z i c,x = .str z/\y = .int i/\z.length<=sizeLine/\atI z.cps.toList i=some c/\Q (.str ⟨#[c]⟩) H
def kad:IxR X (kgR X.K):=by
 intro value slice pins s σ H x y v u Q I rx ry h hs;obtain⟨p,xs,i,z,rfl,rfl,hq,he,q⟩:=h;cases rx;obtain⟨t,rfl⟩:=ry;obtain⟨its,r,pl,hz⟩:=I.list hq;obtain⟨j,h1,h2,h3,h4,h5⟩:=ZQ he;obtain⟨w,ew,rw'⟩:=r.get h2;have hl:=r.length;have hn:=yN;have fin:EP X pins σ Q w s:=⟨z,H,I,rw',q⟩
 by_cases h0:0<=i
 ·have hj:i.toNat=j:=by
   rw[seqIndex_of h0 h5]at h1;exact Option.some.inj h1
  exact item_listR pl.isList h0 (by omega) (by rw[hj];simpa using ew) fin hs
 ·have hj:(i+(its.toArray.size:Int)).toNat=j:=by
   rw[seqIndex_neg (by omega) h4]at h1;rw[zal,<- hl];exact Option.some.inj h1
  exact subscriptTail_builtinR (x:=w) pl.isList.typeIs slot_list_getitem.lookup
   (wpAny_getItem_list_neg (Q:=λr s'=>r=w/\EP X pins σ Q r s') pl.isList (by omega) (by rw[zal] <;> omega) (by omega) (by rw[hj];simpa using ew) ⟨rfl,fin⟩) hs
def kg4:IxR X (khp X.K):=by
 intro value slice pins s σ H x y v u Q I rx ry h hs;obtain⟨p,xs,i,z,rfl,rfl,hq,he,q⟩:=h;cases rx;obtain⟨t,rfl⟩:=ry;obtain⟨its,r,pl,hz⟩:=I.tuple hq;obtain⟨j,h1,h2,h3,h4,h5⟩:=ZQ he;obtain⟨w,ew,rw'⟩:=r.get h2;have hl:=r.length;have hn:=yN;have fin:EP X pins σ Q w s:=⟨z,H,I,rw',q⟩
 exact subscriptTail_builtinR (x:=w) pl.typeIs slot_tuple_getitem.lookup
  (getItem_tuple (j:=j) (Q:=λr s'=>r=w/\EP X pins σ Q r s') pl (by omega) (by omega) (by rw[zal,<- hl];exact h1) (by simpa using ew) ⟨rfl,fin⟩) hs
def khP:IxR X kgZ:=by
 intro value slice pins s σ H x y v u Q I rx ry h hs;obtain⟨z,i,c,rfl,rfl,hz,he,q⟩:=h;obtain⟨t,rfl⟩:=rx;obtain⟨t',rfl⟩:=ry;obtain⟨j,h1,h2,h3,h4,h5⟩:=ZQ he;have hl:z.cps.toList.length=z.length:=by simp[Str.length]
 rw[hl]at h1 h4 h5;have hn:=yN
 exact tail_any (typeIs_str s z t) slot_str_getitem.lookup (getItem_str (c:=c) (by
  have e1:decide (i < -(2 ^ 63:Int))=false:=decide_eq_false (by omega);have e2:decide (i ≥ 2 ^ 63)=false:=decide_eq_false (by omega)
  rw[e1,e2,Bool.or_false]) (by rw[h1];simpa using h2) ⟨.str ⟨#[c]⟩,H,I.tok _,⟨_,rfl⟩,q⟩) hs
def rIx (K:zFr):R2:=λx y H Q=>kgR K x y H Q∨khp K x y H Q∨kgZ x y H Q
def kg6:IxR X (rIx X.K):=kad.or (kg4.or khP)
def Inv.lst {pins:List (Addr×Obj)}{σ:St}{H:Hp}{s:Shared}{p:Addr}{xs:List V}(I:Inv X pins σ H s)(h:H p=some (.lst xs)) :
 ∃ (its:List Value) (n:Nat),Vals xs its/\s.heap.get? p=some { cls:=.type "list",data:=.seq its.toArray n }/\xs.length<=sizeLine:=by
 obtain⟨z,its,n,r,e⟩:=I.hok p _ h;exact⟨its,n,r,e,z⟩
def J1 (lo hi:Option Int)(n:Nat):(sliceBounds lo hi none n).1=((HT.sIx n 0 lo:Nat):Int)/\(sliceBounds lo hi none n).2.1=((HT.sIx n n hi:Nat):Int)/\(sliceBounds lo hi none n).2.2=1:=by
 refine⟨?_,?_,rfl⟩
 ·cases lo with
  |none=>simp[sliceBounds,HT.sIx]
  |some i=>
   simp only[sliceBounds,HT.sIx,Option.getD_none,show (1:Int) > 0 by decide,if_true]
   by_cases h:i < 0
   ·simp only[h,if_true] <;> omega
   ·simp only[h,if_false] <;> omega
 ·cases hi with
  |none=>simp[sliceBounds,HT.sIx]
  |some i=>
   simp only[sliceBounds,HT.sIx,Option.getD_none,show (1:Int) > 0 by decide,if_true]
   by_cases h:i < 0
   ·simp only[h,if_true] <;> omega
   ·simp only[h,if_false] <;> omega
def jX (its:List Value)(lo hi:Option Int):slicePick its.toArray lo hi none=((its.drop (HT.sIx its.length 0 lo)).take (HT.sIx its.length its.length hi - HT.sIx its.length 0 lo)).toArray:=by
 obtain⟨h1,h2,h3⟩:=J1 lo hi its.toArray.size;unfold slicePick;rw[h1,h2,h3]
 simp only[sliceRange_one,pick_run,zal] <;> rfl
def kjK (K:zFr):V->Option Int->Option Int->Hp->VK->Prop:=λx lo hi H Q=>∃a xs,x = .ref a/\SqL K H a xs/\∀p,H p=none->Q (.ref p) (upd H p (.lst (Xa xs lo hi)))
def kfL:SlR X (kjK X.K):=by
 intro pins s σ H x v vl vu lo hi sl Q I rx hs pl pu h;obtain⟨a,xs,rfl,hx,q⟩:=h;cases rx;obtain⟨its,r,ht,hz⟩:=I.list hx;have hlen:=r.length;refine⟨"list",_,slot_list_getitem.lookup,ht.isList.typeIs,?_⟩;refine wpAny_getItem_list_slice ht.isList hs pl pu .none (by simp) ?_ (by rw[zal] <;> omega);rw[jX,<- hlen];refine⟨.ref s.heap.objs.size,_,I.laid (t':=s.toks) (o:=.lst (Xa xs lo hi)) (λb ob q=>zac _ q) (zak _) ?_,rfl,q _ (I.hok.fresh (zak _))⟩;exact⟨Nat.le_trans (XW xs lo hi) hz,_,0,(r.drop (HT.sIx xs.length 0 lo)).take (HT.sIx xs.length xs.length hi - HT.sIx xs.length 0 lo),zag _ rfl⟩
def Vn:Kv X (.builtin "len") (λxs H Q=>∃p ys,xs=[.ref p]/\(SqL X.K H p ys∨SqT X.K H p ys)/\Q (.int ys.length) H):=by
 intro pins s σ H xs us Q I r h;obtain⟨p,ys,rfl,hq,q⟩:=h;obtain⟨u,rfl,rx⟩:=vals1 r;cases rx;have hn:=yN
 rcases hq with hq | hq
 ·obtain⟨its,r',pl,hz⟩:=I.list hq;have hlen:=r'.length;exact Calls.call_len_list pl.isList (by simp only[zal] <;> omega) ⟨.int ys.length,H,I.tok _,⟨s.toks+1,by rw[zal,hlen]⟩,q⟩
 ·obtain⟨its,r',pl,hz⟩:=I.tuple hq;have hlen:=r'.length;exact len_tuple pl (by simp only[zal] <;> omega) ⟨.int ys.length,H,I.tok _,⟨s.toks+1,by rw[zal,hlen]⟩,q⟩
def JK:Kv X (.builtin "len") (λxs H Q=>∃z,xs=[.str z]/\z.length<=sizeLine/\Q (.int z.length) H):=by
 intro pins s σ H xs us Q I r h;obtain⟨z,rfl,hz,q⟩:=h;obtain⟨u,rfl,t,rfl⟩:=vals1 r;have hn:=yN;exact len_str (by omega) ⟨.int z.length,H,I.tok _,⟨_,rfl⟩,q⟩
def Xe:Kv X (.type "list") (λxs H Q=>∃p ys,xs=[.ref p]/\(SqL X.K H p ys∨SqT X.K H p ys)/\∀l,H l=none->Q (.ref l) (upd H l (.lst ys))):=by
 intro pins s σ H xs us Q I r h;obtain⟨p,ys,rfl,hq,q⟩:=h;obtain⟨u,rfl,rx⟩:=vals1 r;cases rx
 have fin:∀ (its:List Value),Vals ys its->ys.length<=sizeLine->∀ (h':Heap) (c':Nat),(∀b o',s.heap.get? b=some o'->h'.get? b=some o') →
  h'.get? s.heap.objs.size=some { cls:=.type "list",dict:=none,data:=.seq its.toArray c',slots:=#[] }->EP X pins σ Q (.ref s.heap.objs.size) { s with heap:=h' }:=λits r' hz h' c' kp e=>
  ⟨.ref s.heap.objs.size,_,I.laid (t':=s.toks) kp (zak _) (show x8 X.prog X.w _ h' _ (.lst ys) from ⟨hz,its,c',r',e⟩),rfl,q _ (I.hok.fresh (zak _))⟩
 rcases hq with hq | hq
 ·obtain⟨its,r',pl,hz⟩:=I.list hq;have hlen:=r'.length;obtain⟨o,ho,hc,n,hd⟩:=pl.isList;exact call_list_seq p (.inl rfl) ho hc hd (λh' c' kp e=>fin its r' hz h' c' kp e) (by simp only[zal] <;> omega)
 ·obtain⟨its,r',pl,hz⟩:=I.tuple hq;have hlen:=r'.length;obtain⟨o,ho,hc,n,hd⟩:=pl;exact call_list_seq p (.inr rfl) ho hc hd (λh' c' kp e=>fin its r' hz h' c' kp e) (by simp only[zal] <;> omega)
def WV:Kv X (.type "tuple") (λxs H Q=>∃p ys,xs=[.ref p]/\((SqL X.K H p ys/\∀l,H l=none->Q (.ref l) (upd H l (.tup ys)))∨(SqT X.K H p ys/\Q (.ref p) H))):=by
 intro pins s σ H xs us Q I r h;obtain⟨p,ys,rfl,h⟩:=h;obtain⟨u,rfl,rx⟩:=vals1 r;cases rx
 rcases h with ⟨hq,q⟩ | ⟨hq,q⟩
 ·obtain⟨its,r',pl,hz⟩:=I.list hq;have hlen:=r'.length;refine call_tuple_list pl.isList (λh' kp=>?_) (by simp only[zal] <;> omega);have I1:Inv X pins σ H { s with heap:=h' }:=I.kept (t':=s.toks) kp
  have I2:Inv X pins σ (upd H h'.objs.size (.tup ys)) { s with heap:=h'.push { cls:=.type "tuple",data:=.seq its.toArray } } :=
   I1.laid (t':=s.toks) (λb o e=>zac _ e) (zak _) (show x8 X.prog X.w _ _ _ (.tup ys) from ⟨hz,its,r',IsTup.new _ _⟩)
  exact⟨.ref h'.objs.size,_,I2,rfl,q _ (I1.hok.fresh (zak _))⟩
 ·obtain⟨its,r',pl,hz⟩:=I.tuple hq;exact call_tuple_same pl ⟨.ref p,H,I,rfl,q⟩
def tyV (K:zFr)(T:String)(x:V)(H:Hp):Prop:=match x with
 |.str _=>T = "str"
 |.int _=>T = "int"
 |.ref p=>(T = "list" /\ ∃xs,SqL K H p xs)∨(T = "tuple" /\ ∃o,K.lookup p=some o/\o.cls = .type "tuple" /\ o.dict=none) ∨
  (T = "dict" /\ ((∃kvs,H p=some (.dK kvs))∨∃kvs,H p=some (.dT kvs)))∨(T = "set" /\ ∃S n,H p=some (.set S n))
 |_=>False
def kcy {pins:List (Addr × Obj)} {σ:St} {H:Hp} {s:Shared} {T:String} {x:V} {v:Value} (I:Inv X pins σ H s) (r:RelV x v) (ty:tyV X.K T x H) :
 s.TypeIs v T/\∀a,v = .ref a->∃ob,s.heap.get? a=some ob/\ob.dict=none:=by
 cases x with
 |str z=>
  obtain⟨t,rfl⟩:=r;cases (show T = "str" from ty);exact⟨typeIs_str s z t,λ_ e=>nomatch e⟩
 |int i=>
  obtain⟨t,rfl⟩:=r;cases (show T = "int" from ty);exact⟨typeIs_int s i t,λ_ e=>nomatch e⟩
 |ref p=>
  cases r
  rcases ty with ⟨rfl,xs,hq⟩ | ⟨rfl,o,hk,hc,hd⟩ | ⟨rfl,hk⟩ | ⟨rfl,S,n,hk⟩
  ·obtain⟨its,_,pl,_⟩:=I.list hq
   refine⟨pl.isList.typeIs,λa e=>?_⟩;cases e;obtain⟨o,n,e,c,hd,_⟩:=pl;exact⟨o,e,hd⟩
  ·refine⟨⟨o,I.kIn p o hk,hc⟩,λa e=>?_⟩
   cases e;exact⟨o,I.kIn _ o hk,hd⟩
  · have z:∃ o,s.heap.get? p = some o /\ o.ExactDict:=by
      rcases hk with ⟨kvs,hk⟩ | ⟨kvs,hk⟩
      ·obtain⟨_,_,_,_,o,_,_,e,ex,_⟩:=I.hok p _ hk
       exact⟨o,e,ex⟩
      ·obtain⟨_,_,_,_,o,_,_,e,ex,_⟩:=I.hok p _ hk
       exact⟨o,e,ex⟩
    obtain⟨o,e,ex⟩:=z;refine⟨⟨o,e,ex.1⟩,λa e2=>?_⟩;cases e2;exact⟨o,e,ex.2.1⟩
  ·obtain⟨o,_,_,_,e,ex,_⟩:=I.hok p _ hk
   refine⟨⟨o,e,ex.1⟩,λa e2=>?_⟩;cases e2;exact⟨o,e,ex.2.1⟩
 |_=>exact False.elim ty
def kiY (K:zFr)(T:String)(r:V->List V->Hp->VK->Prop)(to:TE):TE:=λσ H Q=>to σ H λx H1=>tyV K T x H1/\r x [] H1 Q
def tBM (K:zFr)(T:String)(r:V->List V->Hp->VK->Prop)(to:TE)(t:TA):TE:=λσ H Q=>to σ H λx H1=>tyV K T x H1/\t σ H1 λxs H2=>r x xs H2 Q
variable {o e:Expr}{es:List Expr}{to:TE}{t:TA}{name:Str}{apos cpos:Pos}{T id:String}{r:V->List V->Hp->VK->Prop}
def kgS (pa:PlainAttrs T)(slot:Slot T name id)(hty:typeOf (.builtin id)=pure (.type "method_descriptor"))(hm:MtR X id r)(ho:PE X o to)
 (hbase:attributeBase o name X.env (eval o X.env)=eval o X.env:=by rfl) (hline:(apos.endLine==cpos.line)=true:=by rfl):PE X (.Call (.Attribute o name apos) [] [] cpos) (kiY X.K T r to):=by
 intro pins s σ H Q I h;refine wpAny_Call_method0_late hbase hline (thn (ho pins s σ H _ I h) λv s1 ⟨x,H1,I1,r1,ty,q1⟩=>?_);obtain⟨h1,h2⟩:=kcy I1 r1 ty;exact⟨T,id,pa,slot,hty,h1,h2,Calls.callWith_builtin rfl (PySem.evalArgs_none (hm pins s1 σ H1 x [] v [] Q I1 r1 .nil q1))⟩
def Xy (pa:PlainAttrs T)(slot:Slot T name id)(hty:typeOf (.builtin id)=pure (.type "method_descriptor"))(hm:MtR X id r)(ho:PE X o to)(ha:PA X (e::es) t)
 (hbase:attributeBase o name X.env (eval o X.env)=eval o X.env:=by rfl)
 (hfew:((backTo cpos (starEach (e::es) X.env)).all (λx=>!x.1)&&(backToKw cpos (keywordEach [] X.env)).all (λx=>x.1.isSome)
  && decide ((e::es).length+([]:List Keyword).length+(if ([]:List Keyword).isEmpty then 0 else 1) < 30))=true:=by rfl)
 (hline:(apos.endLine==cpos.line)=true:=by rfl) (hs:starEach (e::es) X.env=(false,eval e X.env)::starEach es X.env:=by rfl) (hplain:(backTo cpos (starEach es X.env)).any (·.1)=false:=by rfl) :
 PE X (.Call (.Attribute o name apos) (e::es) [] cpos) (tBM X.K T r to t):=by
 intro pins s σ H Q I h;refine wpAny_Call_method_late hbase hfew hline rfl (thn (ho pins s σ H _ I h) λv s1 ⟨x,H1,I1,r1,ty,q1⟩=>?_);obtain⟨h1,h2⟩:=kcy I1 r1 ty;refine⟨T,id,pa,slot,hty,h1,h2,?_⟩;have hA:=ha cpos pins s1 σ H1 _ I1 q1;rw[hs]at hA ⊢;refine Calls.callWith_builtin (by show (false||(backTo cpos (starEach es X.env)).any (·.1))=false;rw[hplain] <;> rfl) (Calls.evalArgs_plain ?_);exact thn hA λus s2 ⟨vs,H2,I2,r2,q2⟩=>hm pins s2 σ H2 x vs v us Q I2 r1 r2 q2
end
def MtM (X:Cx)(id:String)(r:V->List V->Hp->VK->Prop):Prop :=
 ∀ (pins:List (Addr×Obj)) (s:Shared) (σ:St) (H:Hp) (x:V) (xs:List V) (v:Value) (us:List Value) (Q:VK),Inv X pins σ H s->RelV x v->Vals xs us->r x xs H Q →
  wpAny (model X.prog X.w) X.A (call (.builtin id) (v::us)) (EP X pins σ Q) X.xe s
def Vals.one {x:V}{us:List Value}(h:Vals [x] us):∃u,us=[u]/\RelV x u:=by
 cases h with
 |cons r t=>cases t;exact⟨_,rfl,r⟩
def Vals.two {x y:V}{us:List Value}(h:Vals [x,y] us):∃u v,us=[u,v]/\RelV x u/\RelV y v:=by
 cases h with
 |cons r t=>
  obtain⟨v,rfl,q⟩:=Vals.one t;exact⟨_,_,rfl,r,q⟩
def Vals.zero:∀ {us:List Value},Vals [] us->us=[]
 |_,.nil=>rfl
def Vals.dropLast {xs:List V}{us:List Value}(h:Vals xs us):Vals xs.dropLast us.dropLast:=by
 induction h with
 |nil=>exact .nil
 |cons r t ih=>
  cases t with
  |nil=>exact .nil
  |cons q t'=>exact .cons r ih
def Vals.eraseIdx:∀ {xs:List V} {us:List Value} (i:Nat),Vals xs us->Vals (xs.eraseIdx i) (us.eraseIdx i)
 |_,_,_,.nil=>.nil
 |_,_,0,.cons _ t=>t
 |_,_,i+1,.cons r t=>.cons r (Vals.eraseIdx i t)
def Vals.reverse {xs:List V}{us:List Value}(h:Vals xs us):Vals xs.reverse us.reverse:=by
 induction h with
 |nil=>exact .nil
 |cons r t ih=>rw[List.reverse_cons,List.reverse_cons];exact Vals.append ih (.cons r .nil)
def Vals.rep {xs:List V}{us:List Value}(h:Vals xs us):∀k:Nat,Vals (List.replicate k xs).flatten (List.replicate k us).flatten
 |0=>.nil
 |k+1=>by
  rw[List.replicate_succ,List.replicate_succ,List.flatten_cons,List.flatten_cons];exact Vals.append h (Vals.rep h k)
def kaC {α:Type}(l:List α):l.eraseIdx (l.length - 1)=l.dropLast:=by
 induction l with
 |nil=>rfl
 |cons a r ih=>
  cases r with
  |nil=>rfl
  |cons b r=>
   have e:(a::b::r).length - 1=((b::r).length - 1)+1:=by
    have h1:(a::b::r).length=r.length+2:=rfl;have h2:(b::r).length=r.length+1:=rfl;omega
   rw[e,List.eraseIdx_cons_succ,ih]
   all_goals rfl
def foldl_rep (its:List Value):∀ (k:Nat) (acc:List Value),
 List.foldl (λx1 x2=>x1++x2) acc.toArray (List.replicate k its.toArray)=(acc++(List.replicate k its).flatten).toArray
 |0,acc=>by simp
 |k+1,acc=>by
  have e:acc.toArray++its.toArray=(acc++its).toArray:=by simp
  have e2:(acc++its)++(List.replicate k its).flatten=acc++(List.replicate (k+1) its).flatten:=by
   rw[List.replicate_succ,List.flatten_cons,List.append_assoc]
  rw[<- e2,<- foldl_rep its k (acc++its),<- e,List.replicate_succ,List.foldl_cons]
section
variable {X:Cx}{pins:List (Addr×Obj)}{σ:St}{H:Hp}{s:Shared}{l b:Addr}{xs ys zs:List V}
def Inv.kaR {its its':List Value}{n:Nat}{f:Array Value->Array Value}{t':Nat}(I:Inv X pins σ H s)(hH:H l=some (.lst xs))
 (e:s.heap.get? l=some { cls:=.type "list",data:=.seq its.toArray n }) (hf:f its.toArray=its'.toArray) (hv:Vals ys its') (hz:ys.length<=sizeLine) :
 Inv X pins σ (upd H l (.lst ys)) { s with heap:=s.heap.update l (Obj.mapSeq f),toks:=t' }:=by
 have q:=PySem.IsL.update e f;rw[hf]at q;refine I.write (x:=l) (e:=l) (by rw[hH];exact trivial) (.inl rfl) (λb' u hb hu=>(Heap.get?_update_other s.heap (Obj.mapSeq f) (Ne.symm hb)).trans hu) ⟨_,q⟩ ?_;exact⟨hz,its',_,hv,q⟩
def Inv.kdA {its:List Value}{t':Nat}(I:Inv X pins σ H s)(hv:Vals ys its)(hz:ys.length<=sizeLine) :
 Inv X pins σ (upd H s.heap.objs.size (.lst ys)) { s with heap:=s.heap.push { cls:=.type "list",data:=.seq its.toArray },toks:=t' } :=
 I.laid (λ_ _ q=>zac _ q) (zak _) ⟨hz,its,0,hv,zag _ rfl⟩
def Inv.fresh (I:Inv X pins σ H s):H s.heap.objs.size=none:=I.hok.fresh (zak _)
def Inv.VY (I:Inv X pins σ H s)(hH:H l=some (.lst xs)):xs.length<=sizeLine/\∃ (its:List Value) (n:Nat),Vals xs its/\xs.length=its.length/\s.heap.get? l=some { cls:=.type "list",data:=.seq its.toArray n }:=by
 obtain⟨z,its,n,r,e⟩:=I.hok l _ hH;exact⟨z,its,n,r,r.length,e⟩
def X4 {n:Nat}(h:n<=sizeLine):Builtin.List.listTooLong n=false:=by
 unfold Builtin.List.listTooLong;exact decide_eq_false (by omega)
end
section
variable {X:Cx}
def kfv:V->List V->Hp->VK->Prop:=λx vs H Q=>∃l xs y,x = .ref l/\vs=[y]/\H l=some (.lst xs)/\xs.length < sizeLine/\Q .non (upd H l (.lst (xs++[y])))
def jK:MtM X "list.append" kfv:=by
 intro pins s σ H x vs v us Q I rx rv h;obtain⟨l,xs,y,rfl,rfl,hH,hz,q⟩:=h;cases rx;obtain⟨u,rfl,ru⟩:=rv.one;obtain⟨z,its,n,r,hl,e⟩:=I.VY hH;refine call_meets F.slot_list_append ⟨_,e,rfl⟩ F.entry_list_append (F.args_list_append_2 _ _) (PySem.list_append l its.toArray n u (by rw[zal];omega)) ⟨e,?_⟩;refine⟨.non,_,I.kaR (its':=its++[u]) hH e (by simp) (r.append (.cons ru .nil)) ?_,rfl,q⟩;rw[zap,List.length_singleton];omega
def kfi:V->List V->Hp->VK->Prop:=λx vs H Q=>∃l b xs zs,x = .ref l/\vs=[.ref b]/\H l=some (.lst xs)/\H b=some (.lst zs)/\xs.length+zs.length<=sizeLine/\Q .non (upd H l (.lst (xs++zs)))
def jj:MtM X "list.extend" kfi:=by
 intro pins s σ H x vs v us Q I rx rv h;obtain⟨l,b,xs,zs,rfl,rfl,hH,hB,hz,q⟩:=h;cases rx;obtain⟨u,rfl,ru⟩:=rv.one;cases ru;obtain⟨z,its,n,r,hl,e⟩:=I.VY hH;obtain⟨z2,its2,n2,r2,hl2,e2⟩:=I.VY hB;have hsz:its.toArray.size+its2.toArray.size<=sizeLine:=by rw[zal,zal];omega
 have hlong:¬ (!its.toArray.isEmpty&&Builtin.List.listTooLong (its.toArray.size+its2.toArray.size))=true:=by
  rw[X4 hsz,Bool.and_false];exact Bool.false_ne_true
 refine call_meets F.slot_list_extend ⟨_,e,rfl⟩ F.entry_list_extend (F.args_list_extend_2 _ _)
  (AutoSeq1.list_extend_list_list_0 l its.toArray n b its2.toArray n2 hlong (by rw[zal];omega) (by omega)) ⟨e,e2,?_⟩
 refine⟨.non,_,I.kaR (its':=its++its2) hH e (by simp) (r.append r2) ?_,rfl,q⟩;rw[zap];omega
def kjU:V->List V->Hp->VK->Prop:=λx vs H Q=>∃l xs y,x = .ref l/\vs=[]/\H l=some (.lst xs)/\xs[xs.length - 1]?=some y/\Q y (upd H l (.lst xs.dropLast))
def khR:MtM X "list.pop" kjU:=by
 intro pins s σ H x vs v us Q I rx rv h;obtain⟨l,xs,y,rfl,rfl,hH,hy,q⟩:=h;cases rx;have hus:=rv.zero;subst hus;obtain⟨z,its,n,r,hl,e⟩:=I.VY hH;obtain⟨u,hu,ru⟩:=r.get hy
 have hy':its.toArray[its.toArray.size - 1]?=some u:=by
  show its.toArray[its.length - 1]?=some u;rw[<- Array.getElem?_toList,<- hl];exact hu
 refine call_meets F.slot_list_pop ⟨_,e,rfl⟩ F.entry_list_pop (F.args_list_pop_1 _) (MeetsSeq.list_pop_last l its.toArray n u hy' (by rw[zal];omega)) ⟨e,?_⟩;refine⟨y,_,I.kaR (its':=its.dropLast) hH e ?_ r.dropLast ?_,ru,q⟩
 ·show its.toArray.eraseIdxIfInBounds (its.toArray.size - 1)=its.dropLast.toArray;rw[zal,List.eraseIdxIfInBounds_toArray,kaC]
 ·rw[List.length_dropLast];omega
def ki6:R2:=λx y H Q=>∃l b xs zs,x = .ref l/\y = .ref b/\H l=some (.lst xs)/\H b=some (.lst zs)/\xs.length+zs.length<=sizeLine/\∀p,H p=none->Q (.ref p) (upd H p (.lst (xs++zs)))
def kgL:OpR X (binaryOp .Add) ki6:=by
 intro pins s σ H x y v u Q I rx ry h;obtain⟨l,b,xs,zs,rfl,rfl,hH,hB,hz,q⟩:=h;cases rx;cases ry;obtain⟨z,its,n,r,hl,e⟩:=I.VY hH;obtain⟨z2,its2,n2,r2,hl2,e2⟩:=I.VY hB;refine PySem.P.add_list e e2 ?_ (by rw[zal,zal];omega);have ea:its.toArray++its2.toArray=(its++its2).toArray:=by simp
 rw[ea];exact⟨.ref _,_,I.kdA (t':=s.toks) (r.append r2) (by rw[zap];omega),rfl,q _ I.fresh⟩
def kjz:R2:=λx y H Q=>∃l k xs,x = .ref l/\y = .int k/\H l=some (.lst xs) /\ -(2 ^ 63)<=k/\k < 2 ^ 63/\xs.length * k.toNat<=sizeLine ∧
 ∀p,H p=none->Q (.ref p) (upd H p (.lst (List.replicate k.toNat xs).flatten))
def len_rep {α:Type}(xs:List α)(k:Nat):(List.replicate k xs).flatten.length=k * xs.length:=by
 induction k with
 |zero=>simp
 |succ k ih=>rw[List.replicate_succ,List.flatten_cons,zap,ih,Nat.succ_mul,Nat.add_comm]
def khb:OpR X (binaryOp .Mult) kjz:=by
 intro pins s σ H x y v u Q I rx ry h;obtain⟨l,k,xs,rfl,rfl,hH,h1,h2,hz,q⟩:=h;cases rx;obtain⟨t,rfl⟩:=ry;obtain⟨z,its,n,r,hl,e⟩:=I.VY hH;have hlen:its.toArray.size * k.toNat<=sizeLine:=by rw[zal,<- hl];exact hz
 have hcap:¬ its.toArray.size * k.toNat > (2 ^ 63 - 1) / 8:=by
  have:(sizeLine:Nat)<=(2 ^ 63 - 1) / 8:=by decide
  omega
 have hfit:¬ (!Builtin.List.listFitsIndex k)=true:=by
  rw[fitsIndex_both h1 h2];exact Bool.false_ne_true
 have hlong:¬ Builtin.List.listTooLong (its.toArray.size * k.toNat)=true:=by
  rw[X4 hlen];exact Bool.false_ne_true
 have hnew:List.foldl (λx1 x2=>x1++x2) #[] (List.replicate (if its.toArray.isEmpty=true then 0 else k.toNat) its.toArray)=(List.replicate k.toNat its).flatten.toArray:=by
  have f0:∀m:Nat,List.foldl (λx1 x2=>x1++x2) #[] (List.replicate m its.toArray)=(List.replicate m its).flatten.toArray:=λm=>by
   have:=foldl_rep its m [];rw[List.nil_append]at this;exact this
  rw[f0]
  cases its with
  |nil=>simp
  |cons a r'=>rw[if_neg (by simp)]
 refine wpAny_binaryOp_repeat_ref (T:="list") (U:="int") (by decide) ⟨_,e,rfl⟩ (λs'=>typeIs_int s' k t) noFill_list_mul F.fills_int_mul F.slot_int_rmul repeat_list F.slot_int_index.lookup
  (call_meets F.slot_int_rmul (typeIs_int s k t) F.entry_int_rmul (F.args_int_rmul_2 _ _) (int___rmul___int_list k t l its.toArray n)
   ⟨e,rfl,⟨_,e,rfl⟩,call_meets F.slot_list_mul ⟨_,e,rfl⟩ F.entry_list_mul (F.args_list_mul_2 _ _) (AutoListH.list___mul___list_int_3 l its.toArray n k t hfit hcap hlong) ⟨e,?_⟩⟩)
 rw[hnew];exact⟨.ref _,_,I.kdA (t':=s.toks) (r.rep k.toNat) (by rw[len_rep,Nat.mul_comm];exact hz),rfl,q _ I.fresh⟩
end
section
variable {prog:Program}{w:World}{A:Around}{E:zEx}{s:Shared}
set_option maxRecDepth 100000 in
end
end L2
namespace Att
open PySem PySem.W PySem.Calls PyProof.Rows
def Y5 {P:Params}{h:Heap}:∀ (ns:List Int) (vs:List Value),WellAll P h vs (ns.map WData.int)->IntsAre vs ns:=by
 intro ns
 induction ns with
 |nil=>
  intro vs w;rw[List.map_nil]at w;cases w;exact .nil
 |cons n ns ih=>
  intro vs w;rw[zat]at w
  cases w with
  |cons a b=>
   cases a;exact .cons _ _ (ih _ b)
def kbu {l:OpenLaw} {n:Nat} (hn:l.most = some n) {P:Params} {h:Heap} {args:List WData} {vals:List Value}
 (hpre:l.row.toRowW.claim.pre args=true) (hwl:WellAll P h vals args) :
 ∃a vs ns,vals=[Value.ref a]/\args=[WData.list (ns.map WData.int)]/\h.get? a=some { cls:=.type "list",data:=.seq vs.toArray }/\IntsAre vs ns/\ns.length<=n:=by
 have hsh:WShape.hasAll [] args [.list .int]=true:=(pre_splitW hpre).1;have hc:l.pre.holds [] { args:=args }=true:=(pre_splitW hpre).2;obtain⟨d,r,rfl,h1,h2⟩:=hasAllW_cons hsh;obtain rfl:=hasAllW_nil h2;obtain⟨xs,rfl,h3⟩:=hasW_list h1;obtain⟨ns,rfl⟩:=items_int h3
 have hlen:ns.length<=n:=by
  unfold OpenLaw.pre at hc
  have h4:(WTm.not (.lt (.lit (.int (n:Int))) (.len (.arg 0)))).holds [] { args:=[.list (ns.map .int)] }=true:=by
   have h4:=(holds_andW hc).1;rw[hn]at h4;exact h4
  have h5:=condW_of h4 (w_not (w_lt w_lit (w_len_list (w_arg rfl))));rw[zai]at h5;refine Nat.le_of_not_lt λq=>?_
  have q':(n:Int) < ((ns.length:Nat):Int):=by omega
  first
   |(rw[decide_eq_true q']at h5;exact absurd h5 (by decide))
   |(simp at h5;omega)
 cases hwl with
 |cons w1 w2=>
  cases w2
  cases w1 with
  |list ho hall=>exact⟨_,_,ns,rfl,rfl,ho,Y5 ns _ hall,hlen⟩
def kcF (l:OpenLaw)(args:List WData):l.row.toRowW.claim.post args (.bool true) args=true :=
 postW_of (r:=l.row.toRowW) (X:=(true==true))
  (show WShape.has [] (.bool true) .bool=true by first | rfl | decide | simp[WShape.has,WShape.arms,WShape.armsAll])
  (show (WTm.eq .res (.lit (.bool true))).value [] { args:=args,res:=some (.bool true),after:=args }=some (.bool (true==true)) from w_eq_bool (w_res rfl) w_lit) rfl
def UB {l:OpenLaw}{n:Nat}{q:Program}{loose:List Str}{XP:(Str->Option Value)->Heap->Prop}{YP:World->Heap->Prop}{d:DefRec}
 (hn:l.most=some n) (hdf:d.params.defaults=[])
 (call:∀ (w:World) (s₀ s₁:Shared) (mg mb:Str->Option Value) (fa:Addr) (o:Obj) (pm cd doc:Value) (a:Addr) (vs:List Value) (ns:List Int),
  Ground q loose [] XP w s₀ mg mb s₁.heap->YP w s₁.heap →
  s₁.heap.get? fa=some o->o.data = .func (docDef d.name d.params d.body d.scope pm cd doc)->s₁.heap.CodeRec cd d.name->mg d.name=some (.ref fa) →
  s₁.heap.get? a=some { cls:=.type "list",data:=.seq vs.toArray }->IntsAre vs ns->ns.length<=n->s₁.gens=#[] →
  codeAny (model l.prog w) callerA (.call (.ref fa) ⟨[.ref a],[]⟩) (λr s'=>r = .ok (.ret (.bool true))/\OldK s₁.heap s'.heap/\s'.os=s₁.os/\AllBare s'.gens) s₁) :
 WalkO q loose XP YP l.row.toRowW d [] (λf vs=>PySem.call f vs):=by
 intro w s₀ s₁ mg mb G Y fa o pm cd doc dV kV ho hd hcd hD hmg hg args vals as hpre hlay hrd hwl hlo;obtain rfl:dV = .none:=Dflts.none hD hdf;obtain rfl:kV = .none:=Dflts.noKw hD;obtain⟨a,vs,ns,rfl,rfl,hobj,hints,hlen⟩:=kbu hn hpre hwl;refine enter_call (codeAny_mono (call w s₀ s₁ mg mb fa o pm cd doc a vs ns G Y ho (fd_plain hd) hcd hmg hobj hints hlen hg) λr s' hq=>?_);obtain⟨rfl,h2,h3,h4⟩:=hq;exact⟨.inl ⟨.bool true,.bool true,[],rfl,λ_=>rfl,.bool true,kcF l _,λ_=>⟨List.Pairwise.nil,λ_ hm=>(nomatch hm)⟩⟩,h2,h3,h4⟩
end Att
namespace L2
open PySem PySem.Spec PyProof.Rows
def jm:∀ {vs:List Value} {ns:List Int},IntsAre vs ns->Vals (ns.map V.int) vs
 |_,_,.nil=>.nil
 |_,_,.cons n t h=>.cons ⟨t,rfl⟩ (jm h)
def kaQ (H:Hp):Prop:=∀b,H b=none∨∃o xs,H b=some (.frz o (.lst xs))
def kcN {P:Program} {w:World} {K:zFr} {mg mb:Str -> Option Value} {CX:CXT} {k:Nat} {fa a:Addr} {fd:FuncData} {x:Str} {sp:Sp} {s₁:Shared} {vs:List Value} {ns:List Int}
 (KX:K.In s₁.heap) (hns:s₁.heap.Ns mainGlobals mg) (hb:s₁.heap.Ns builtinsNs mb) (hbb:∀x:Str,x ≠ "__name__" -> mb x=bootBuiltins x) (hlim:s₁.heap.NoLimit) (hg:s₁.gens=#[])
 (ha:s₁.heap.get? a=some { cls:=.type "list",data:=.seq vs.toArray }) (hi:IntsAre vs ns) (hl:ns.length<=sizeLine) (hr:qU k callerA)
 (F:∀base:Heap,K.In base->base.Ns mainGlobals mg->wg P w K mg base CX k fa fd [x] sp) (hbind:∀ (s:Shared) (u:Value),BindsTo s fd ⟨[u],[]⟩ [(x,u)])
 (hsp:∀H:Hp,kaQ H->SqL K H a (ns.map V.int)->sp [.ref a] H (λv _=>v = .bl true) λ_ _ _=>False)
 (hCX:∀H e s',CX [] H s₁ (λ_ _ _=>False) e s'->False) :
 codeAny (model P w) callerA (.call (.ref fa) ⟨[.ref a],[]⟩) (λr s'=>r = .ok (.ret (.bool true))/\OldK s₁.heap s'.heap/\s'.os=s₁.os/\AllBare s'.gens) s₁:=by
 have rv:=jm hi;have lenV:=hi.length
 -- from an abstract heap in which nothing but the script may be tracked
 have core:∀ H:Hp,kaQ H -> SqL K H a (ns.map V.int) -> HOk P w H s₁.heap -> (∀ b,H b ≠ none -> b = a) -> (H a ≠ none -> K.lookup a = none) →
     codeAny (model P w) callerA (.call (.ref fa) ⟨[.ref a],[]⟩) (λr s'=>r = .ok (.ret (.bool true))/\OldK s₁.heap s'.heap/\s'.os=s₁.os/\AllBare s'.gens) s₁:=by
  intro H hO hS hok hA hK;have base_of:∀ {b:Addr} {o:Obj},s₁.heap.get? b=some o->H b=none->(WI s₁.heap H).get? b=some o:=λe n=>kdM e n
  have noA:∀ {b:Addr} {o:Obj} {es:Array DictEntry} {ep:Nat},s₁.heap.get? b=some o->o.data = .dict es ep->H b=none:=λ{b o es ep} e d=>by
   cases q:H b with
   |none=>rfl
   |some u=>
    have e':b=a:=hA b (by rw[q];simp);subst e';rw[ha]at e;cases e
    have d':Data.seq vs.toArray _=Data.dict es ep:=d;cases d'
  have nsK:∀ {b:Addr} {m:Str->Option Value},s₁.heap.Ns b m->(WI s₁.heap H).Ns b m:=λ{b m} ⟨o,es,ep,e,d,r⟩=>⟨o,es,ep,base_of e (noA e d),d,r⟩
  have hKb:K.In (WI s₁.heap H):=λb o e=>base_of (KX b o e) (by
   cases q:H b with
   |none=>rfl
   |some u=>
    have e':b=a:=hA b (by rw[q];simp);subst e'
    rw[hK (by rw[q];simp)]at e;cases e)
  have hM:Mod K mg (WI s₁.heap H):=⟨hKb,nsK hns,⟨mb,nsK hb,hbb⟩,let ⟨mc,h1,h2⟩:=hlim;⟨mc,nsK h1,h2⟩⟩;have e0:Yr P w K mg (WI s₁.heap H) callerA [] s₁ H:=⟨rfl,hM,λb o e=>kfP e,Nat.le_of_eq (kbH _ _),trivial,λb hb=>absurd (show b∈([]:List Addr) from hb) (by simp),hok,.of_eq hg⟩;refine codeAny_mono ((F _ hKb (nsK hns)).run callerA [] s₁ H ⟨[.ref a],[]⟩ [.ref a] [.ref a] _ _ hr e0 (hbind s₁ (.ref a)) (.cons rfl .nil) (hsp H hO hS)) λr s' h=>?_
  cases r with
  |error e=>exact (hCX H e s' h).elim
  |ok fl=>
   cases fl with
   |next=>exact False.elim h
   |brk=>exact False.elim h
   |cont=>exact False.elim h
   |ret u=>
    obtain⟨v,H',os,bare,un,hok',r',q⟩:=h;have q':v = .bl true:=q;subst q';obtain rfl:u=Value.bool true:=r';refine⟨rfl,OldK.of_keep λb o e=>?_,os,bare⟩
    cases q:H b with
    |none=>exact un.keep b o e q (by intro z;exact absurd (show b∈([]:List Addr) from z) (by simp)) (by simp)
    |some u=>
     rcases hO b with z | ⟨ob,xs,z⟩
     ·rw[q]at z;cases z
     ·have z2:=un.frzs b ob _ z
      obtain⟨e1,_⟩:=hok b _ z;obtain⟨e2,_⟩:=hok' b _ z2;rw[e]at e1;cases e1
      exact e2
 cases hk:K.lookup a with
 |some o=>
  -- the script is one of the module's own objects
  have e:=KX a o hk;rw[ha]at e;cases e;refine core (λ_=>none) (λ_=>.inl rfl) (.inr ⟨_,vs.toArray,_,hk,rfl,rfl,rfl,by rw[zal,lenV];exact hl,by simpa using rv⟩) (λb u z=>by have z':(none:Option HO)=some u:=z;cases z') (λb z=>absurd rfl z) λz=>absurd rfl z
 |none=>
  refine core (λb=>if b=a then some (.frz { cls:=.type "list",data:=.seq vs.toArray } (.lst (ns.map V.int))) else none) (λb=>?_) (.inl (.inr ⟨{ cls:=.type "list",data:=.seq vs.toArray },if_pos rfl⟩)) (λb u z=>?_) (λb z=>?_) λ_=>hk
  ·by_cases hb:b=a
   ·exact .inr ⟨_,_,if_pos hb⟩
   ·exact .inl (if_neg hb)
  ·by_cases hb:b=a
   ·have z':=(if_pos hb).symm.trans z
    cases z';subst hb;exact⟨ha,by rw[zai];exact hl,vs,_,rv,ha⟩
   ·have z':=(if_neg hb).symm.trans z
    cases z'
  ·by_cases hb:b=a
   ·exact hb
   ·exact absurd (if_neg hb) z
def kf2 {l:PySem.W.OpenLaw}{n k:Nat}{q:Program}{loose:List Str}{XP:(Str->Option Value)->Heap->Prop}{YP:World->Heap->Prop}{d:DefRec}{K:Params->PySem.W.Frag}{CX:World->CXT}{sp:World->Sp}{x:Str}
 (hn:l.most=some n) (hn2:n<=sizeLine) (hdf:d.params.defaults=[]) (hr:qU k callerA)
 (hY:∀ (w:World) (h:Heap),YP w h->(K w.params).In h)
 (F:∀ (w:World) (mg:Str->Option Value) (fa:Addr) (h:Heap),(K w.params).In h->h.Ns mainGlobals mg->mg d.name=some (.ref fa) →
  ∃fd:FuncData,(∀ (s:Shared) (u:Value),BindsTo s fd ⟨[u],[]⟩ [(x,u)]) ∧
   ∀base:Heap,(K w.params).In base->base.Ns mainGlobals mg->wg l.prog w (K w.params) mg base (CX w) k fa fd [x] (sp w))
 (hsp:∀ (w:World) (H:Hp) (a:Addr) (ns:List Int),ns.length<=n->kaQ H->SqL (K w.params) H a (ns.map V.int)->sp w [.ref a] H (λv _=>v = .bl true) λ_ _ _=>False)
 (hCX:∀ (w:World) (H:Hp) (s:Shared) (e:Value) (s':Shared),CX w [] H s (λ_ _ _=>False) e s'->False) :
 PySem.W.WalkO q loose XP YP l.row.toRowW d [] (λf vs=>PySem.call f vs):=by
 refine Att.UB hn hdf λw s₀ s₁ mg mb fa o pm cd doc a vs ns G Y ho hd hcd hmg hobj hints hlen hg=>?_
 have KX:=hY w _ Y;obtain⟨fd,hb,hF⟩:=F w mg fa _ KX G.T.g hmg;exact kcN KX G.T.g G.T.b G.T.builtins G.T.nolimit hg hobj hints (Nat.le_trans hlen hn2) hr hF hb (λH hO hS=>hsp w H a ns hlen hO hS) λH e s'=>hCX w H s₁ e s'
def yc (s:Stmt):Arguments:=match s with
 |.FunctionDef _ a _ _ _ _ _ _ _ _=>a
 |_=>{ posonlyargs:=[],args:=[],vararg:=none,kwonlyargs:=[],kw_defaults:=[],kwarg:=none,defaults:=[] }
def xB (s:Stmt):List Stmt:=match s with
 |.FunctionDef _ _ b _ _ _ _ _ _ _=>b
 |_=>[]
def kL (s:Stmt):Scope:=match s with
 |.FunctionDef _ _ _ _ _ _ sc _ _ _=>sc
 |_=>{ kind:=.function,names:=[],isGenerator:=false,isCoroutine:=false }
abbrev CX0:CXT:=λ_ _ _ _ _ _=>False
structure Fun (K:zFr)(x qual:Str)(st:Stmt)(f:Addr)(fd:FuncData):Prop where
 ex:∃ (oc:Value) (od:Option Addr) (kV doc pm:Value) (an:Option Addr) (cdv ct:Value) (osl:Array (Option Value)),
  fd=PySem.W.fnOf x qual (yc st) (xB st) (kL st) .none kV doc pm an cdv ct/\K.lookup f=some ⟨oc,od,.func fd,osl⟩/\PySem.W.codeIn K cdv qual=true
 kp:PySem.W.keepIn K (.ref f)=true
section
variable {P:Program}{w:World}{K:zFr}{mg:Str->Option Value}{base:Heap}
def Fun.binds {x qual:Str}{st:Stmt}{f:Addr}{fd:FuncData}{ps:List Str}(F:Fun K x qual st f fd)
 (h:∀ (kV doc pm:Value) (an:Option Addr) (cdv ct:Value) (us:List Value),us.length=ps.length->bindArgs (PySem.W.fnOf x qual (yc st) (xB st) (kL st) .none kV doc pm an cdv ct) ⟨us,[]⟩=pure (ps.zip us)):Binds K fd ps []:=by
 obtain⟨oc,od,kV,doc,pm,an,cdv,ct,osl,rfl,lk,hcd⟩:=F.ex;exact .all (h kV doc pm an cdv ct)
def uN {x qual:Str}{st:Stmt}{f:Addr}{oc:Value}{od an:Option Addr}{osl:Array (Option Value)}{kV doc pm cdv ct:Value}(l:K.lookup f=some ⟨oc,od,.func (PySem.W.fnOf x qual (yc st) (xB st) (kL st) .none kV doc pm an cdv ct),osl⟩)
 (c:PySem.W.codeIn K cdv qual=true) (k:PySem.W.keepIn K (.ref f)=true):Fun K x qual st f (PySem.W.fnOf x qual (yc st) (xB st) (kL st) .none kV doc pm an cdv ct):=⟨⟨oc,od,kV,doc,pm,an,cdv,ct,osl,rfl,l,c⟩,k⟩
end
def kB (H H':Hp):Prop:=∀b o,H b=some o->H' b=some o
def kB.refl (H:Hp):kB H H:=λ_ _ h=>h
def kB.trans {H H1 H2:Hp}(a:kB H H1)(b:kB H1 H2):kB H H2:=λc o h=>b c o (a c o h)
def kB.free {H H':Hp}(e:kB H H'){l:Addr}(h:H' l=Option.none):H l=Option.none:=by
 cases q:H l with
 |none=>rfl
 |some o=>
  rw[e l o q]at h;cases h
def kB.seq {K:zFr}{H H':Hp}{a:Addr}{xs:List V}(e:kB H H')(h:SqL K H a xs):SqL K H' a xs:=by
 rcases h with (h | ⟨o,h⟩) | h
 ·exact .inl (.inl (e _ _ h))
 ·exact .inl (.inr ⟨o,e _ _ h⟩)
 ·exact .inr h
end L2
namespace P
open PySem (Str)
inductive D where
 |non | bl (b:Bool) | int (i:Int) | str (x:Str) | tup (xs:List D) | lst (xs:List D) | lsf (xs:List D) | dic (ks vs:List D) | dil (ks:List Int) (vs:List D)
 deriving Inhabited
inductive Rs (α:Type) where
 |ok (a:α) | exc (c:Nat) | stuck
def Rs.bind {α β:Type}:Rs α->(α->Rs β)->Rs β
 |.ok a,f=>f a
 |.exc c,_=>.exc c
 |.stuck,_=>.stuck
instance:Monad Rs where
 pure:=.ok
 bind:=Rs.bind
@[simp] def V4 {α β:Type}(a:α)(f:α->Rs β):(Rs.ok a>>=f)=f a:=rfl
@[simp] def kjy {α β:Type}(c:Nat)(f:α->Rs β):((Rs.exc c:Rs α)>>=f) = .exc c:=rfl
@[simp] def kip {α β:Type}(f:α->Rs β):((Rs.stuck:Rs α)>>=f) = .stuck:=rfl
@[simp] def kj0 {α:Type}(a:α):(pure a:Rs α) = .ok a:=rfl
def vB {α β:Type}{x:Rs α}{f:α->Rs β}{b:β}(h:(x>>=f) = .ok b):∃a,x = .ok a/\f a = .ok b:=by
 cases x with
 |ok a=>exact⟨a,rfl,h⟩
 |exc c=>cases h
 |stuck=>cases h
def Rs.nx {α:Type}:Rs α->Rs α
 |.exc _=>.stuck
 |r=>r
def Rs.Jd {α:Type}{r:Rs α}{a:α}(h:r.nx = .ok a):r = .ok a:=by
 cases r with
 |ok b=>exact h
 |exc c=>cases h
 |stuck=>cases h
@[simp] def Jd {α:Type}(a:α):(Rs.ok a).nx = .ok a:=rfl
def kP:Nat:=16777216
mutual
/-- == -/
def D.eq:D->D->Bool
 |.non,.non=>true
 |.bl a,.bl b=>a==b
 |.bl a,.int b=>(if a then 1 else 0)==b
 |.int a,.bl b=>a==(if b then 1 else 0)
 |.int a,.int b=>a==b
 |.str a,.str b=>a==b
 |.tup xs,.tup ys=>D.eqs xs ys
 |.lst xs,.lst ys=>D.eqs xs ys
 |.lst xs,.lsf ys=>D.eqs xs ys
 |.lsf xs,.lst ys=>D.eqs xs ys
 |.lsf xs,.lsf ys=>D.eqs xs ys
 |_,_=>false
def D.eqs:List D->List D->Bool
 | [],[]=>true
 |x::xs,y::ys=>D.eq x y&&D.eqs xs ys
 |_,_=>false
end
mutual
/-- no dict within,not deeper than n -/
def D.pl:Nat->D->Bool
 |n+1,.tup xs=>D.pls n xs
 |n+1,.lst xs=>D.pls n xs
 |n+1,.lsf xs=>D.pls n xs
 |0,.tup _=>false
 |0,.lst _=>false
 |0,.lsf _=>false
 |_,.dic _ _=>false
 |_,.dil _ _=>false
 |_,.non=>true
 |_,.bl _=>true
 |_,.int _=>true
 |_,.str x=>PySem.PyData.strOk x
def D.pls:Nat->List D->Bool
 |_,[]=>true
 |n,x::xs=>D.pl n x&&D.pls n xs
end
def D.plain (d:D):Bool:=D.pl 40 d
def D.Kr (ds:List D):Bool:=D.pls 40 ds
def D.tru:D->Bool
 |.non=>false
 |.bl b=>b
 |.int i=>i != 0
 |.str x=>(x.length:Int) != 0
 |.tup xs=>!xs.isEmpty
 |.lst xs=>!xs.isEmpty
 |.lsf xs=>!xs.isEmpty
 |.dic ks _=>!ks.isEmpty
 |.dil ks _=>!ks.isEmpty
mutual
def D.nk:D->Bool
 |.int _=>true
 |.tup xs=>D.nks xs
 |_=>false
def D.nks:List D->Bool
 | []=>true
 |x::xs=>D.nk x&&D.nks xs
end
mutual
def D.kl:D->D->Bool
 |.int a,.int b=>decide (a < b)
 |.int _,.tup _=>true
 |.tup xs,.tup ys=>D.kls xs ys
 |_,_=>false
def D.kls:List D->List D->Bool
 | [],[]=>false
 | [],_::_=>true
 |_::_,[]=>false
 |x::xs,y::ys=>if D.eq x y=true then D.kls xs ys else D.kl x y
end
mutual
/-- < is told of these two -/
def D.cmp:D->D->Bool
 |.int _,.int _=>true
 |.tup xs,.tup ys=>D.QM xs ys
 |_,_=>false
def D.QM:List D->List D->Bool
 |x::xs,y::ys=>if D.eq x y=true then D.QM xs ys else D.cmp x y
 |_,_=>true
end
abbrev Env:=List (Option D)
abbrev FE:=Env->Rs D
abbrev FT:=Env->Rs Bool
def kj (i:Nat):FE:=λenv=>match env[i]? with
 |some (some d)=>.ok d
 |_=>.stuck
def cC (d:D):FE:=λ_=>.ok d
abbrev O1:=D->Rs D
abbrev O2:=D->D->Rs D
def cUn (f:O1)(a:FE):FE:=λenv=>a env>>=λx=>f x
def kJ (f:O2)(a b:FE):FE:=λenv=>a env>>=λx=>b env>>=λy=>f x y
def cIf (t:FT)(a b:FE):FE:=λenv=>t env>>=λc=>if c=true then a env else b env
def ZN (a b:FE):FE:=λenv=>a env>>=λx=>match x with
 |.bl c=>if c=true then b env else .ok (.bl false)
 |_=>.stuck
def cOr (a b:FE):FE:=λenv=>a env>>=λx=>match x with
 |.bl c=>if c=true then .ok (.bl true) else b env
 |_=>.stuck
def yv (f g:O2)(a b c:FE):FE:=λenv=>a env>>=λx=>b env>>=λy=>f x y>>=λz=>match z with
 |.bl k=>if k=true then c env>>=λw=>g y w else .ok (.bl false)
 |_=>.stuck
def D.W2:D->Rs Bool
 |.str x=>if x.length<=kP then .ok ((x.length:Int) != 0) else .stuck
 |.dic _ _=>.stuck
 |.dil _ _=>.stuck
 |d=>.ok d.tru
def vF (a:FE):FT:=λenv=>a env>>=λx=>x.W2
def qD (a:FE):FT:=λenv=>a env>>=λx=>match x with
 |.bl b=>.ok b
 |_=>.stuck
def kjP:O1
 |.bl b=>.ok (.bl (!b))
 |_=>.stuck
def VT:O1
 |.int i=>.ok (.int (-i))
 |_=>.stuck
def Ws (a b:FT):FT:=λenv=>a env>>=λc=>if c=true then b env else .ok false
def zA (a b:FT):FT:=λenv=>a env>>=λc=>if c=true then .ok true else b env
def qQ (a:FT):FT:=λenv=>a env>>=λc=>.ok (!c)
abbrev FA:=Env->Rs (List D)
def kD:FA:=λ_=>.ok []
def kh (a:FE)(r:FA):FA:=λenv=>a env>>=λx=>r env>>=λxs=>.ok (x::xs)
def wV (a:FA):FE:=λenv=>a env>>=λxs=>if xs.length<=kP then .ok (.tup xs) else .stuck
def qO (a:FA):FE:=λenv=>a env>>=λxs=>if xs.length<=kP then .ok (.lst xs) else .stuck
abbrev Fn:=List D->Rs D
def kF (f:Fn)(a:FA):FE:=λenv=>a env>>=λxs=>f xs
def vZ:O2
 |.int i,.int j=>.ok (.int (i+j))
 |.str i,.str j=>if i.length+j.length<=kP then .ok (.str (i++j)) else .stuck
 |.tup xs,.tup ys=>if xs.length+ys.length<=kP then .ok (.tup (xs++ys)) else .stuck
 |.lst xs,.lst ys=>if xs.length+ys.length<=kP then .ok (.lst (xs++ys)) else .stuck
 |_,_=>.stuck
def zT:O2
 |.int i,.int j=>.ok (.int (i - j))
 |_,_=>.stuck
def K7:O2
 |.int i,.int j=>if (-(2 ^ 64) < i/\i < 2 ^ 64)∨(-(2 ^ 64) < j/\j < 2 ^ 64) then .ok (.int (i * j)) else .stuck
 |.tup xs,.int k=>if xs≠[]/\1<=k/\xs.length * k.toNat<=kP then .ok (.tup (List.replicate k.toNat xs).flatten) else .stuck
 |_,_=>.stuck
def oDiv:O2
 |.int i,.int j=>if 0 < j/\j < 1073741824 then .ok (.int (i / j)) else .stuck
 |_,_=>.stuck
def oMod:O2
 |.int i,.int j=>if 0 < j then .ok (.int (i % j)) else .stuck
 |_,_=>.stuck
def JX:O2
 |.int i,.int j=>if 0<=j/\j<=1000000/\i.natAbs < 2 ^ 64 then .ok (.int (i ^ j.toNat)) else .stuck
 |_,_=>.stuck
def oLt:O2
 |.int i,.int j=>.ok (.bl (decide (i < j)))
 |.tup xs,.tup ys=>if D.nks xs&&D.nks ys&&(D.pls 40 xs&&D.pls 40 ys)&&D.QM xs ys then .ok (.bl (D.kls xs ys)) else .stuck
 |_,_=>.stuck
def oLe:O2
 |.int i,.int j=>.ok (.bl (decide (i<=j)))
 |_,_=>.stuck
def oGt:O2
 |.int i,.int j=>.ok (.bl (decide (j < i)))
 |_,_=>.stuck
def oGe:O2
 |.int i,.int j=>.ok (.bl (decide (j<=i)))
 |_,_=>.stuck
def oEq:O2:=λx y=>if x.plain&&y.plain then .ok (.bl (D.eq x y)) else .stuck
def oNe:O2:=λx y=>if x.plain&&y.plain then .ok (.bl (!D.eq x y)) else .stuck
def D.isN:D->Bool
 |.non=>true
 |_=>false
def X5:O1:=λx=>.ok (.bl x.isN)
def VN:O1:=λx=>.ok (.bl (!x.isN))
def D.mem (x:D):List D->Bool
 | []=>false
 |y::ys=>D.eq y x||D.mem x ys
def oIn:O2
 |x,.tup ys=>if x.plain&&D.Kr ys then .ok (.bl (D.mem x ys)) else .stuck
 |x,.lst ys=>if x.plain&&D.Kr ys then .ok (.bl (D.mem x ys)) else .stuck
 |_,_=>.stuck
def YQ:O2
 |x,.tup ys=>if x.plain&&D.Kr ys then .ok (.bl (!D.mem x ys)) else .stuck
 |x,.lst ys=>if x.plain&&D.Kr ys then .ok (.bl (!D.mem x ys)) else .stuck
 |_,_=>.stuck
def D.tk:D->Bool
 |.tup xs=>D.nks xs&&D.pls 6 xs
 |_=>false
def kiZ (x:D)(ks:List D):Rs D:=if x.tk then .ok (.bl (D.mem x ks)) else .stuck
def WQ (x:D)(ks:List D):Rs D:=if x.tk then .ok (.bl (!D.mem x ks)) else .stuck
def ixN (n:Nat)(i:Int):Option Nat:=if 0<=i then (if i < n then some i.toNat else none) else if -(n:Int)<=i then some (i+n).toNat else none
def atI (xs:List D)(i:Int):Option D:=(ixN xs.length i).bind λj=>xs[j]?
def oIx:O2
 |.tup xs,.int i=>match atI xs i with | some d=>.ok d | none=>.stuck
 |.lst xs,.int i=>match atI xs i with | some d=>.ok d | none=>.stuck
 |.lsf xs,.int i=>match atI xs i with | some d=>.ok d | none=>.stuck
 |_,_=>.stuck
def sIx (n d:Nat):Option Int->Nat
 |none=>d
 |some v=>if v < 0 then (v+(n:Int)).toNat else min v.toNat n
def cut (xs:List D)(lo hi:Option Int):List D:=(xs.drop (sIx xs.length 0 lo)).take (sIx xs.length xs.length hi - sIx xs.length 0 lo)
def khI (a:FE)(lo hi:Env->Rs (Option Int)):FE:=λenv=>a env>>=λx=>lo env>>=λl=>hi env>>=λh=>match x with
 |.tup xs=>if sIx xs.length 0 l=0/\sIx xs.length xs.length h=xs.length then .stuck else .ok (.tup (cut xs l h))
 |.lst xs=>.ok (.lst (cut xs l h))
 |_=>.stuck
def Wg:Env->Rs (Option Int):=λ_=>.ok none
def VI (a:FE):Env->Rs (Option Int):=λenv=>a env>>=λx=>match x with
 |.int i=>.ok (some i)
 |_=>.stuck
def vD:Fn
 | [.tup xs]=>.ok (.int xs.length)
 | [.lst xs]=>.ok (.int xs.length)
 | [.lsf xs]=>.ok (.int xs.length)
 | [.str x]=>if x.length<=kP then .ok (.int x.length) else .stuck
 |_=>.stuck
def kjl:Fn
 | [.int i]=>.ok (.int (if i < 0 then -i else i))
 |_=>.stuck
def wR:Fn
 | [.tup xs]=>.ok (.tup xs)
 | [.lst xs]=>.ok (.tup xs)
 |_=>.stuck
def Wv:Fn
 | [.tup xs]=>.ok (.lst xs)
 | [.lst xs]=>.ok (.lst xs)
 |_=>.stuck
def isBool:D->Bool | .bl _=>true | _=>false
def QI:Fn
 | [.lst xs]=>if xs.all isBool then .ok (.bl (xs.all D.tru)) else .stuck
 |_=>.stuck
def JS:Fn
 | [.lst xs]=>if xs.all isBool then .ok (.bl (xs.any D.tru)) else .stuck
 |_=>.stuck
def isInt:D->Bool | .bl _=>true | .int _=>true | _=>false
def isTup:D->Bool | .tup _=>true | _=>false
def KQ:D->Bool | .lst _=>true | .lsf _=>true | _=>false
def tyN:D->String
 |.non=> "NoneType"
 |.bl _=> "bool"
 |.int _=> "int"
 |.str _=> "str"
 |.tup _=> "tuple"
 |.lst _=> "list"
 |.lsf _=> "list"
 |.dic _ _=> "dict"
 |.dil _ _=> "dict"
def bIs (p:D->Bool):O1:=λx=>.ok (.bl (p x))
abbrev FI:=Env->Rs (List D)
def zx (a:FE):FI:=λenv=>a env>>=λx=>match x with
 |.tup xs=>.ok xs
 |.lst xs=>.ok xs
 |.lsf xs=>.ok xs
 |_=>.stuck
def upTo (lo:Int):Nat->List D
 |0=>[]
 |n+1=>.int lo::upTo (lo+1) n
def yw (a:FE):FI:=λenv=>a env>>=λx=>match x with
 |.int j=>if -(2 ^ 62)<=j/\j < 2 ^ 62 then .ok (upTo 0 j.toNat) else .stuck
 |_=>.stuck
def U0 (a b:FE):FI:=λenv=>a env>>=λx=>b env>>=λy=>match x,y with
 |.int i,.int j=>if (-(2 ^ 62)<=i/\i < 2 ^ 62) /\ -(2 ^ 62)<=j/\j < 2 ^ 62 then .ok (upTo i (j - i).toNat) else .stuck
 |_,_=>.stuck
def qG (lo:Int):List D->List D
 | []=>[]
 |x::xs=>.tup [.int lo,x]::qG (lo+1) xs
def Y4 (a:FE):FI:=λenv=>a env>>=λx=>match x with
 |.tup xs=>.ok (qG 0 xs)
 |.lst xs=>.ok (qG 0 xs)
 |_=>.stuck
def QJ:List D->List D->List D
 |x::xs,y::ys=>.tup [x,y]::QJ xs ys
 |_,_=>[]
def kaZ (a b:FE):FI:=λenv=>a env>>=λx=>b env>>=λy=>match x,y with
 |.tup xs,.tup ys=>.ok (QJ xs ys)
 |_,_=>.stuck
abbrev FG:=D->Env->Rs Env
def vA (i:Nat):FG:=λd env=>.ok (env.set i (some d))
def VE:List Nat->List D->Env->Rs Env
 | [],[],env=>.ok env
 |i::is,d::ds,env=>VE is ds (env.set i (some d))
 |_,_,_=>.stuck
def QO (is:List Nat):FG:=λd env=>match d with
 |.tup ds=>VE is ds env
 |_=>.stuck
def qN (k:Nat)(pick:List Nat)(env:Env):Env:=List.replicate k none++pick.map λi=>(env[i]?).getD none
def qT (g:FG)(t:FT)(e:FE)(env:Env):List D->Rs (List D)
 | []=>.ok []
 |x::xs=>(g x env).nx>>=λenv'=>(t env').nx>>=λc=>if c=true then (e env').nx>>=λv=>qT g t e env xs>>=λvs=>.ok (v::vs) else qT g t e env xs
def wU (k:Nat)(pick:List Nat)(it:FI)(g:FG)(t:FT)(e:FE):FE:=λenv=>it env>>=λxs=>qT g t e (qN k pick env) xs>>=λvs=>
 if vs.length<=kP then .ok (.lst vs) else .stuck
def wu:FT:=λ_=>.ok true
inductive Out where
 |next (env:Env) | ret (d:D) | brk (env:Env) | cont (env:Env)
abbrev FS:=Env->Rs Out
def qI:FS:=λenv=>.ok (.next env)
def kM (a b:FS):FS:=λenv=>a env>>=λo=>match o with
 |.next env'=>b env'
 |o=>.ok o
def qR (i:Nat)(a:FE):FS:=λenv=>a env>>=λd=>.ok (.next (env.set i (some d)))
def vR (a:FE):FS:=λenv=>a env>>=λ_=>.ok (.next env)
def kZ (a:FE):FS:=λenv=>a env>>=λd=>.ok (.ret d)
def kh4:FS:=λ_=>.ok (.ret .non)
def sIf (t:FT)(a b:FS):FS:=λenv=>t env>>=λc=>if c=true then a env else b env
def kjj:FS:=λenv=>.ok (.brk env)
def khS:FS:=λenv=>.ok (.cont env)
def ya (c:Nat):FS:=λ_=>.exc c
def K2 (i:Nat)(a:FE):FS:=λenv=>match env[i]? with
 |some (some (.lst xs))=>a env>>=λd=>if xs.length < kP then .ok (.next (env.set i (some (.lst (xs++[d]))))) else .stuck
 |_=>.stuck
def Yw (i:Nat)(a:FE):FS:=λenv=>match env[i]? with
 |some (some (.lst xs))=>a env>>=λd=>match d with
  |.lst ys=>if xs.length+ys.length<=kP then .ok (.next (env.set i (some (.lst (xs++ys))))) else .stuck
  |_=>.stuck
 |_=>.stuck
def xy (ks:List D)(k:D):List D:=if D.mem k ks then ks else ks++[k]
def xu:List D->List D->D->D->List D
 |k'::ks,v'::vs,k,v=>if D.eq k' k then v::vs else v'::xu ks vs k v
 |_,_,_,v=>[v]
def jd (i:Nat)(a b:FE):FS:=λenv=>match env[i]? with
 |some (some (.dic ks vs))=>b env>>=λv=>a env>>=λk=>if k.tk&&decide (ks.length < kP) then .ok (.next (env.set i (some (.dic (xy ks k) (xu ks vs k v))))) else .stuck
 |_=>.stuck
def kiC:FE:=λ_=>.ok (.dic [] [])
def kc7 (x i:Nat):FS:=λenv=>match env[i]? with
 |some (some (.lst xs))=>match xs.getLast? with
  |some d=>.ok (.next ((env.set i (some (.lst xs.dropLast))).set x (some d)))
  |none=>.stuck
 |_=>.stuck
def forL (g:FG)(b:FS):List D->Env->Rs Out
 | [],env=>.ok (.next env)
 |x::xs,env=>(g x env).nx>>=λenv1=>b env1>>=λo=>match o with
  |.next env2=>forL g b xs env2
  |.cont env2=>forL g b xs env2
  |.brk env2=>.ok (.next env2)
  |.ret d=>.ok (.ret d)
def z0 (it:FI)(g:FG)(b:FS):FS:=λenv=>it env>>=λxs=>forL g b xs env
def xM (t:FT)(b:FS):Nat->Env->Rs Out
 |0,_=>.stuck
 |n+1,env=>t env>>=λc=>if c=true then b env>>=λo=>(match o with
  |.next env2=>xM t b n env2
  |.cont env2=>xM t b n env2
  |.brk env2=>.ok (.next env2)
  |.ret d=>.ok (.ret d)) else .ok (.next env)
def uA (n:Nat)(t:FT)(b:FS):FS:=xM t b n
def fnOf (n:Nat)(b:FS):Fn:=λds=>b (ds.map some++List.replicate (n - ds.length) none)>>=λo=>match o with
 |.ret d=>.ok d
 |.next _=>.ok .non
 |_=>.stuck
def fnX (n:Nat)(b:FS):Fn:=λds=>(fnOf n b ds).nx
def xG {n:Nat}{b:FS}{ds:List D}{d:D}(h:fnOf n b ds = .ok d):fnX n b ds = .ok d:=by
 unfold fnX;rw[h];rfl
def khK (n:Nat)(b:FS)(ds:List D):fnOf n (λenv=>(b env).nx) ds=fnX n b ds:=by
 unfold fnX fnOf;dsimp only
 cases b (ds.map some++List.replicate (n - ds.length) none) with
 |ok o=>cases o <;> rfl
 |exc c=>rfl
 |stuck=>rfl
def jb (x:D):List D->List D
 | []=>[x]
 |y::ys=>if D.kl y x=true then y::jb x ys else x::y::ys
def xx:List D->List D
 | []=>[]
 |x::xs=>jb x (xx xs)
def D.isI:D->Bool | .int _=>true | _=>false
def D.ti:D->Bool | .tup (.int _::_)=>true | _=>false
def D.tt:D->Bool | .tup (.tup _::_)=>true | _=>false
def sortable (xs:List D):Bool:=xs.all D.isI||((xs.all D.ti||xs.all D.tt)&&(xs.all D.nk&&(D.pls 40 xs&&xs.all λx=>xs.all λy=>D.cmp x y)))
def Zw:Fn
 | [.lst xs]=>if sortable xs then .ok (.lst (xx xs)) else .stuck
 | [.tup xs]=>if sortable xs then .ok (.lst (xx xs)) else .stuck
 | [.dic ks _]=>if sortable ks then .ok (.lst (xx ks)) else .stuck
 |_=>.stuck
def vr:Option (Option D)->Rs D
 |some (some d)=>.ok d
 |_=>.stuck
def un (f:O1):Rs D->Rs D
 |.ok x=>f x
 |r=>r
def bi (f:O2):Rs D->Rs D->Rs D
 |.ok x,.ok y=>f x y
 |.ok _,r=>r
 |r,_=>r
def br {α:Type}(t:Rs Bool)(a b:Env->Rs α)(env:Env):Rs α:=match t with
 |.ok true=>a env
 |.ok false=>b env
 |.exc c=>.exc c
 |.stuck=>.stuck
def lz (k:Bool)(r:Rs D):Rs D:=if k=true then r else .ok (.bl false)
def lo (k:Bool)(r:Rs D):Rs D:=if k=true then .ok (.bl true) else r
def an:Rs D->Rs D->Rs D
 |.ok (.bl k),r=>lz k r
 |.ok _,_=>.stuck
 |r,_=>r
def orr:Rs D->Rs D->Rs D
 |.ok (.bl k),r=>lo k r
 |.ok _,_=>.stuck
 |r,_=>r
def ch (f g:O2):Rs D->Rs D->Rs D->Rs D
 |.ok x,.ok y,z=>an (f x y) (bi g (.ok y) z)
 |.ok _,r,_=>r
 |r,_,_=>r
def tv:Rs D->Rs Bool
 |.ok x=>x.W2
 |.exc c=>.exc c
 |.stuck=>.stuck
def tc:Rs D->Rs Bool
 |.ok (.bl b)=>.ok b
 |.ok _=>.stuck
 |.exc c=>.exc c
 |.stuck=>.stuck
def tz (k:Bool)(r:Rs Bool):Rs Bool:=if k=true then r else .ok false
def to (k:Bool)(r:Rs Bool):Rs Bool:=if k=true then .ok true else r
def ta:Rs Bool->Rs Bool->Rs Bool
 |.ok k,r=>tz k r
 |r,_=>r
def tr:Rs Bool->Rs Bool->Rs Bool
 |.ok k,r=>to k r
 |r,_=>r
def tn:Rs Bool->Rs Bool
 |.ok k=>.ok (!k)
 |r=>r
def co:Rs D->Rs (List D)->Rs (List D)
 |.ok x,.ok xs=>.ok (x::xs)
 |.ok _,r=>r
 |.exc c,_=>.exc c
 |.stuck,_=>.stuck
def tp:Rs (List D)->Rs D
 |.ok xs=>if xs.length<=kP then .ok (.tup xs) else .stuck
 |.exc c=>.exc c
 |.stuck=>.stuck
def ls:Rs (List D)->Rs D
 |.ok xs=>if xs.length<=kP then .ok (.lst xs) else .stuck
 |.exc c=>.exc c
 |.stuck=>.stuck
def cl (f:Fn):Rs (List D)->Rs D
 |.ok xs=>f xs
 |.exc c=>.exc c
 |.stuck=>.stuck
def ct:Rs D->Rs (Option Int)->Rs (Option Int)->Rs D
 |.ok x,.ok l,.ok h=>(match x with
  |.tup xs=>if sIx xs.length 0 l=0/\sIx xs.length xs.length h=xs.length then .stuck else .ok (.tup (cut xs l h))
  |.lst xs=>.ok (.lst (cut xs l h))
  |_=>.stuck)
 |.ok _,.ok _,.exc c=>.exc c
 |.ok _,.ok _,.stuck=>.stuck
 |.ok _,.exc c,_=>.exc c
 |.ok _,.stuck,_=>.stuck
 |.exc c,_,_=>.exc c
 |.stuck,_,_=>.stuck
def ps:Rs D->Rs (Option Int)
 |.ok (.int i)=>.ok (some i)
 |.ok _=>.stuck
 |.exc c=>.exc c
 |.stuck=>.stuck
def sq (r:Rs Out)(b:FS):Rs Out:=match r with
 |.ok (.next e)=>b e
 |r=>r
def st (i:Nat)(r:Rs D)(env:Env):Rs Out:=match r with
 |.ok d=>.ok (.next (env.set i (some d)))
 |.exc c=>.exc c
 |.stuck=>.stuck
def dr (r:Rs D)(env:Env):Rs Out:=match r with
 |.ok _=>.ok (.next env)
 |.exc c=>.exc c
 |.stuck=>.stuck
def rt (r:Rs D):Rs Out:=match r with
 |.ok d=>.ok (.ret d)
 |.exc c=>.exc c
 |.stuck=>.stuck
def apd (x:Option (Option D))(i:Nat)(r:Rs D)(env:Env):Rs Out:=match x with
 |some (some (.lst xs))=>(match r with
  |.ok d=>if xs.length < kP then .ok (.next (env.set i (some (.lst (xs++[d]))))) else .stuck
  |.exc c=>.exc c
  |.stuck=>.stuck)
 |_=>.stuck
def exd (x:Option (Option D))(i:Nat)(r:Rs D)(env:Env):Rs Out:=match x with
 |some (some (.lst xs))=>(match r with
  |.ok (.lst ys)=>if xs.length+ys.length<=kP then .ok (.next (env.set i (some (.lst (xs++ys))))) else .stuck
  |.ok _=>.stuck
  |.exc c=>.exc c
  |.stuck=>.stuck)
 |_=>.stuck
def ptd (x:Option (Option D))(i:Nat)(a b:Rs D)(env:Env):Rs Out:=match x with
 |some (some (.dic ks vs))=>(match b,a with
  |.ok v,.ok k=>if k.tk&&decide (ks.length < kP) then .ok (.next (env.set i (some (.dic (xy ks k) (xu ks vs k v))))) else .stuck
  |.ok _,.exc c=>.exc c
  |.ok _,.stuck=>.stuck
  |.exc c,_=>.exc c
  |.stuck,_=>.stuck)
 |_=>.stuck
def fo:Rs Out->Rs D
 |.ok (.ret d)=>.ok d
 |.ok (.next _)=>.ok .non
 |.ok _=>.stuck
 |.exc c=>.exc c
 |.stuck=>.stuck
def sqc:Rs D->Rs (List D)
 |.ok (.tup xs)=>.ok xs
 |.ok (.lst xs)=>.ok xs
 |.ok (.lsf xs)=>.ok xs
 |.ok _=>.stuck
 |.exc c=>.exc c
 |.stuck=>.stuck
def rg1:Rs D->Rs (List D)
 |.ok (.int j)=>if -(2 ^ 62)<=j/\j < 2 ^ 62 then .ok (upTo 0 j.toNat) else .stuck
 |.ok _=>.stuck
 |.exc c=>.exc c
 |.stuck=>.stuck
def rg2:Rs D->Rs D->Rs (List D)
 |.ok x,.ok y=>(match x,y with
  |.int i,.int j=>if (-(2 ^ 62)<=i/\i < 2 ^ 62) /\ -(2 ^ 62)<=j/\j < 2 ^ 62 then .ok (upTo i (j - i).toNat) else .stuck
  |_,_=>.stuck)
 |.ok _,.exc c=>.exc c
 |.ok _,.stuck=>.stuck
 |.exc c,_=>.exc c
 |.stuck,_=>.stuck
def en:Rs D->Rs (List D)
 |.ok (.tup xs)=>.ok (qG 0 xs)
 |.ok (.lst xs)=>.ok (qG 0 xs)
 |.ok _=>.stuck
 |.exc c=>.exc c
 |.stuck=>.stuck
def zp:Rs D->Rs D->Rs (List D)
 |.ok x,.ok y=>(match x,y with
  |.tup xs,.tup ys=>.ok (QJ xs ys)
  |_,_=>.stuck)
 |.ok _,.exc c=>.exc c
 |.ok _,.stuck=>.stuck
 |.exc c,_=>.exc c
 |.stuck,_=>.stuck
def fr (r:Rs (List D))(g:FG)(b:FS)(env:Env):Rs Out:=match r with
 |.ok xs=>forL g b xs env
 |.exc c=>.exc c
 |.stuck=>.stuck
def cmz:Rs (List D)->Rs D
 |.ok vs=>if vs.length<=kP then .ok (.lst vs) else .stuck
 |.exc c=>.exc c
 |.stuck=>.stuck
def cm (r:Rs (List D))(g:FG)(t:FT)(e:FE)(env:Env):Rs D:=match r with
 |.ok xs=>cmz (qT g t e env xs)
 |.exc c=>.exc c
 |.stuck=>.stuck
section
variable {α:Type}(env:Env)(a b c:FE)(f g:O2)(h:O1)(t u:FT)(s s':FS)(i:Nat)
@[simp] def khe:kj i env=vr env[i]?:=by unfold kj vr;rfl
@[simp] def kjc (d:D):cC d env = .ok d:=rfl
@[simp] def keP:cUn h a env=un h (a env):=by unfold cUn;cases a env <;> rfl
@[simp] def YS:kJ f a b env=bi f (a env) (b env):=by
 unfold kJ;cases a env with
 |ok x=>cases b env <;> rfl
 |_=>rfl
@[simp] def kkX:cIf t a b env=br (t env) a b env:=by
 unfold cIf;cases t env with
 |ok x=>cases x <;> rfl
 |_=>rfl
@[simp] def khg:ZN a b env=an (a env) (b env):=by
 unfold ZN;cases a env with
 |ok x=>cases x <;> rfl
 |_=>rfl
@[simp] def kla:cOr a b env=orr (a env) (b env):=by
 unfold cOr;cases a env with
 |ok x=>cases x <;> rfl
 |_=>rfl
@[simp] def kdq:yv f g a b c env=ch f g (a env) (b env) (c env):=by
 unfold yv
 cases a env with
 |ok x=>
  cases b env with
  |ok y=>
   show (f x y>>=_)=an (f x y) _
   cases f x y with
   |ok z=>
    cases z with
    |bl k=>
     cases k with
     |true=>show (c env>>=_)=bi g (.ok y) (c env);cases c env <;> rfl
     |false=>rfl
    |_=>rfl
   |_=>rfl
  |_=>rfl
 |_=>rfl
@[simp] def XA:vF a env=tv (a env):=by unfold vF;cases a env <;> rfl
@[simp] def UR:qD a env=tc (a env):=by
 unfold qD;cases a env with
 |ok x=>cases x <;> rfl
 |_=>rfl
@[simp] def UT:Ws t u env=ta (t env) (u env):=by unfold Ws;cases t env <;> rfl
@[simp] def Jk:zA t u env=tr (t env) (u env):=by unfold zA;cases t env <;> rfl
@[simp] def Q9:qQ t env=tn (t env):=by unfold qQ;cases t env <;> rfl
@[simp] def kkF:wu env = .ok true:=rfl
@[simp] def Kl:kD env = .ok []:=rfl
@[simp] def qa (r:FA):kh a r env=co (a env) (r env):=by
 unfold kh;cases a env with
 |ok x=>cases r env <;> rfl
 |_=>rfl
@[simp] def kj8 (r:FA):wV r env=tp (r env):=by unfold wV;cases r env <;> rfl
@[simp] def Y8 (r:FA):qO r env=ls (r env):=by unfold qO;cases r env <;> rfl
@[simp] def yd (m:Fn)(r:FA):kF m r env=cl m (r env):=by unfold kF;cases r env <;> rfl
@[simp] def kkj (l k:Env->Rs (Option Int)):khI a l k env=ct (a env) (l env) (k env):=by
 unfold khI;cases a env with
 |ok x=>
  cases l env with
  |ok y=>cases k env <;> rfl
  |_=>rfl
 |_=>rfl
@[simp] def klw:Wg env = .ok none:=rfl
@[simp] def kkP:VI a env=ps (a env):=by
 unfold VI;cases a env with
 |ok x=>cases x <;> rfl
 |_=>rfl
@[simp] def kb5:qI env = .ok (.next env):=rfl
@[simp] def Qp:kM s s' env=sq (s env) s':=by
 unfold kM;cases s env with
 |ok o=>cases o <;> rfl
 |_=>rfl
@[simp] def kcd:qR i a env=st i (a env) env:=by unfold qR;cases a env <;> rfl
@[simp] def kae:vR a env=dr (a env) env:=by unfold vR;cases a env <;> rfl
@[simp] def JF:kZ a env=rt (a env):=by unfold kZ;cases a env <;> rfl
@[simp] def kjZ:kh4 env = .ok (.ret .non):=rfl
@[simp] def KA:sIf t s s' env=br (t env) s s' env:=by
 unfold sIf;cases t env with
 |ok x=>cases x <;> rfl
 |_=>rfl
@[simp] def kks:kjj env = .ok (.brk env):=rfl
@[simp] def kj1:khS env = .ok (.cont env):=rfl
@[simp] def ked (k:Nat):ya k env = .exc k:=rfl
@[simp] def khi:K2 i a env=apd env[i]? i (a env) env:=by
 unfold K2;generalize env[i]?=z
 cases z with
 |none=>rfl
 |some z=>cases z with
  |none=>rfl
  |some d=>cases d with
   |lst xs=>show (a env>>=_)=apd _ i (a env) env;cases a env <;> rfl
   |_=>rfl
@[simp] def kgT:Yw i a env=exd env[i]? i (a env) env:=by
 unfold Yw;generalize env[i]?=z
 cases z with
 |none=>rfl
 |some z=>cases z with
  |none=>rfl
  |some d=>cases d with
   |lst xs=>
    show (a env>>=_)=exd _ i (a env) env
    cases a env with
    |ok d=>cases d <;> rfl
    |_=>rfl
   |_=>rfl
@[simp] def khy:jd i a b env=ptd env[i]? i (a env) (b env) env:=by
 unfold jd;generalize env[i]?=z
 cases z with
 |none=>rfl
 |some z=>cases z with
  |none=>rfl
  |some d=>cases d with
   |dic ks vs=>
    show (b env>>=_)=ptd _ i (a env) (b env) env
    cases b env with
    |ok v=>show (a env>>=_)=ptd _ i (a env) _ env;cases a env <;> rfl
    |_=>rfl
   |_=>rfl
@[simp] def kj4:kiC env = .ok (.dic [] []):=rfl
@[simp] def Zi (n:Nat)(ds:List D):fnOf n s ds=fo (s (ds.map some++List.replicate (n - ds.length) none)):=by
 unfold fnOf;cases s _ with
 |ok o=>cases o <;> rfl
 |_=>rfl
@[simp] def kgm:zx a env=sqc (a env):=by
 unfold zx;cases a env with
 |ok o=>cases o <;> rfl
 |_=>rfl
@[simp] def khh:yw a env=rg1 (a env):=by
 unfold yw;cases a env with
 |ok o=>cases o <;> rfl
 |_=>rfl
@[simp] def kkf:U0 a b env=rg2 (a env) (b env):=by
 unfold U0;cases a env with
 |ok x=>cases b env <;> rfl
 |_=>rfl
@[simp] def kiH:Y4 a env=en (a env):=by
 unfold Y4;cases a env with
 |ok o=>cases o <;> rfl
 |_=>rfl
@[simp] def kh0:kaZ a b env=zp (a env) (b env):=by
 unfold kaZ;cases a env with
 |ok x=>cases b env <;> rfl
 |_=>rfl
@[simp] def kb3 (it:FI)(gg:FG):z0 it gg s env=fr (it env) gg s env:=by unfold z0;cases it env <;> rfl
@[simp] def U8 (k:Nat)(pick:List Nat)(it:FI)(gg:FG):wU k pick it gg t a env=cm (it env) gg t a (qN k pick env):=by
 unfold wU;cases it env with
 |ok xs=>show (qT gg t a (qN k pick env) xs>>=_)=cmz _;cases qT gg t a (qN k pick env) xs <;> rfl
 |_=>rfl
@[simp] def ki3 (n:Nat):uA n t s env=xM t s n env:=rfl
end
section
variable {α:Type}(env:Env)(x y:D)(f g:O2)(h:O1)(k k2:Bool)(a b:Env->Rs α)(s:FS)(e:Env)(i:Nat)(r:Rs D)
@[simp] def klO:vr (some (some x)) = .ok x:=rfl
@[simp] def keN:un h (.ok x)=h x:=rfl
@[simp] def kax:bi f (.ok x) (.ok y)=f x y:=rfl
@[simp] def kcZ:br (.ok true) a b env=a env:=rfl
@[simp] def kd2:br (.ok false) a b env=b env:=rfl
@[simp] def ki1 (c:Nat):br (.exc c) a b env = .exc c:=rfl
@[simp] def kjx:lz true r=r:=rfl
@[simp] def klU:lz false r = .ok (.bl false):=rfl
@[simp] def kh5:lz k (.ok (.bl k2)) = .ok (.bl (k&&k2)):=by cases k <;> rfl
@[simp] def klG:lo true r = .ok (.bl true):=rfl
@[simp] def klT:lo false r=r:=rfl
@[simp] def kln:lo k (.ok (.bl k2)) = .ok (.bl (k||k2)):=by cases k <;> rfl
@[simp] def keR:an (.ok (.bl k)) r=lz k r:=rfl
@[simp] def klB:orr (.ok (.bl k)) r=lo k r:=rfl
@[simp] def khU:ch f g (.ok x) (.ok y) r=an (f x y) (bi g (.ok y) r):=rfl
@[simp] def kkW:tv (.ok x)=x.W2:=rfl
@[simp] def kh6:tc (.ok (.bl k)) = .ok k:=rfl
@[simp] def kjJ (q:Rs Bool):tz true q=q:=rfl
@[simp] def klQ (q:Rs Bool):tz false q = .ok false:=rfl
@[simp] def khX:tz k (.ok k2) = .ok (k&&k2):=by cases k <;> rfl
@[simp] def kiT (q:Rs Bool):to true q = .ok true:=rfl
@[simp] def kiM (q:Rs Bool):to false q=q:=rfl
@[simp] def kk4:to k (.ok k2) = .ok (k||k2):=by cases k <;> rfl
@[simp] def keG (q:Rs Bool):ta (.ok k) q=tz k q:=rfl
@[simp] def kez (q:Rs Bool):tr (.ok k) q=to k q:=rfl
@[simp] def kkw:tn (.ok k) = .ok (!k):=rfl
@[simp] def yH (xs:List D):co (.ok x) (.ok xs) = .ok (x::xs):=rfl
@[simp] def kkD (xs:List D):tp (.ok xs)=if xs.length<=kP then .ok (.tup xs) else .stuck:=rfl
@[simp] def kkO (xs:List D):ls (.ok xs)=if xs.length<=kP then .ok (.lst xs) else .stuck:=rfl
@[simp] def VP (m:Fn)(xs:List D):cl m (.ok xs)=m xs:=rfl
@[simp] def klI (xs:List D)(l q:Option Int):ct (.ok (.tup xs)) (.ok l) (.ok q)=if sIx xs.length 0 l=0/\sIx xs.length xs.length q=xs.length then .stuck else .ok (.tup (cut xs l q)):=rfl
@[simp] def klL (xs:List D)(l q:Option Int):ct (.ok (.lst xs)) (.ok l) (.ok q) = .ok (.lst (cut xs l q)):=rfl
@[simp] def kkN (n:Int):ps (.ok (.int n)) = .ok (some n):=rfl
@[simp] def kbf:sq (.ok (.next e)) s=s e:=rfl
@[simp] def kje:sq (.ok (.ret x)) s = .ok (.ret x):=rfl
@[simp] def klV:sq (.ok (.brk e)) s = .ok (.brk e):=rfl
@[simp] def klE:sq (.ok (.cont e)) s = .ok (.cont e):=rfl
@[simp] def kjt (c:Nat):sq (.exc c) s = .exc c:=rfl
@[simp] def khW:st i (.ok x) env = .ok (.next (env.set i (some x))):=rfl
@[simp] def kir:dr (.ok x) env = .ok (.next env):=rfl
@[simp] def kjT (c:Nat):dr (.exc c) env = .exc c:=rfl
@[simp] def kic:rt (.ok x) = .ok (.ret x):=rfl
@[simp] def kjm (c:Nat):rt (.exc c) = .exc c:=rfl
@[simp] def kiw (xs:List D):apd (some (some (.lst xs))) i (.ok x) env=if xs.length < kP then .ok (.next (env.set i (some (.lst (xs++[x]))))) else .stuck:=rfl
@[simp] def kiD (xs ys:List D):exd (some (some (.lst xs))) i (.ok (.lst ys)) env=if xs.length+ys.length<=kP then .ok (.next (env.set i (some (.lst (xs++ys))))) else .stuck:=rfl
@[simp] def kh2 (ks vs:List D)(k v:D):ptd (some (some (.dic ks vs))) i (.ok k) (.ok v) env=if k.tk&&decide (ks.length < kP) then .ok (.next (env.set i (some (.dic (xy ks k) (xu ks vs k v))))) else .stuck:=rfl
@[simp] def kgz:fo (.ok (.ret x)) = .ok x:=rfl
@[simp] def klN:fo (.ok (.next e)) = .ok .non:=rfl
@[simp] def kjD (c:Nat):fo (.exc c) = .exc c:=rfl
@[simp] def klg (xs:List D):sqc (.ok (.tup xs)) = .ok xs:=rfl
@[simp] def kll (xs:List D):sqc (.ok (.lst xs)) = .ok xs:=rfl
@[simp] def kk9 (xs:List D):sqc (.ok (.lsf xs)) = .ok xs:=rfl
@[simp] def Ud (j:Int):rg1 (.ok (.int j))=if -(2 ^ 62)<=j/\j < 2 ^ 62 then .ok (upTo 0 j.toNat) else .stuck:=rfl
@[simp] def kkr (i j:Int):rg2 (.ok (.int i)) (.ok (.int j))=if (-(2 ^ 62)<=i/\i < 2 ^ 62) /\ -(2 ^ 62)<=j/\j < 2 ^ 62 then .ok (upTo i (j - i).toNat) else .stuck:=rfl
@[simp] def klJ (xs:List D):en (.ok (.tup xs)) = .ok (qG 0 xs):=rfl
@[simp] def klR (xs:List D):en (.ok (.lst xs)) = .ok (qG 0 xs):=rfl
@[simp] def kjN (xs ys:List D):zp (.ok (.tup xs)) (.ok (.tup ys)) = .ok (QJ xs ys):=rfl
@[simp] def kh9 (xs:List D)(gg:FG):fr (.ok xs) gg s env=forL gg s xs env:=rfl
@[simp] def u7 (vs:List D):cmz (.ok vs)=if vs.length<=kP then .ok (.lst vs) else .stuck:=rfl
@[simp] def keD (xs:List D)(gg:FG)(t:FT)(c:FE):cm (.ok xs) gg t c env=cmz (qT gg t c env xs):=rfl
@[simp] def kj2:vA i x env = .ok (env.set i (some x)):=rfl
@[simp] def kkp (i j:Nat):QO [i,j] (.tup [x,y]) env = .ok ((env.set i (some x)).set j (some y)):=rfl
@[simp] def kkL (i j:Int):vZ (.int i) (.int j) = .ok (.int (i+j)):=rfl
@[simp] def kkC (xs ys:List D):vZ (.tup xs) (.tup ys)=if xs.length+ys.length<=kP then .ok (.tup (xs++ys)) else .stuck:=rfl
@[simp] def add_l (xs ys:List D):vZ (.lst xs) (.lst ys)=if xs.length+ys.length<=kP then .ok (.lst (xs++ys)) else .stuck:=rfl
@[simp] def kkA (x y:Str):vZ (.str x) (.str y)=if x.length+y.length<=kP then .ok (.str (x++y)) else .stuck:=rfl
@[simp] def kkZ (i j:Int):zT (.int i) (.int j) = .ok (.int (i - j)):=rfl
@[simp] def kkH (i j:Int):K7 (.int i) (.int j)=if (-(2 ^ 64) < i/\i < 2 ^ 64)∨(-(2 ^ 64) < j/\j < 2 ^ 64) then .ok (.int (i * j)) else .stuck:=rfl
@[simp] def klD (xs:List D)(k:Int):K7 (.tup xs) (.int k)=if xs≠[]/\1<=k/\xs.length * k.toNat<=kP then .ok (.tup (List.replicate k.toNat xs).flatten) else .stuck:=rfl
@[simp] def kkS (i j:Int):oDiv (.int i) (.int j)=if 0 < j/\j < 1073741824 then .ok (.int (i / j)) else .stuck:=rfl
@[simp] def klk (i j:Int):oMod (.int i) (.int j)=if 0 < j then .ok (.int (i % j)) else .stuck:=rfl
@[simp] def klv (i j:Int):JX (.int i) (.int j)=if 0<=j/\j<=1000000/\i.natAbs < 2 ^ 64 then .ok (.int (i ^ j.toNat)) else .stuck:=rfl
@[simp] def Jt (i j:Int):oLt (.int i) (.int j) = .ok (.bl (decide (i < j))):=rfl
@[simp] def kjS (i j:Int):oLe (.int i) (.int j) = .ok (.bl (decide (i<=j))):=rfl
@[simp] def kiW (i j:Int):oGt (.int i) (.int j) = .ok (.bl (decide (j < i))):=rfl
@[simp] def klM (i j:Int):oGe (.int i) (.int j) = .ok (.bl (decide (j<=i))):=rfl
@[simp] def kdr:oEq x y=if x.plain&&y.plain then .ok (.bl (D.eq x y)) else .stuck:=rfl
@[simp] def klF:oNe x y=if x.plain&&y.plain then .ok (.bl (!D.eq x y)) else .stuck:=rfl
@[simp] def kkz:X5 x = .ok (.bl x.isN):=rfl
@[simp] def kke:VN x = .ok (.bl (!x.isN)):=rfl
@[simp] def kkg:kjP (.bl k) = .ok (.bl (!k)):=rfl
@[simp] def klz (i:Int):VT (.int i) = .ok (.int (-i)):=rfl
@[simp] def kjR (ys:List D):oIn x (.tup ys)=if x.plain&&D.Kr ys then .ok (.bl (D.mem x ys)) else .stuck:=rfl
@[simp] def klS (ys:List D):oIn x (.lst ys)=if x.plain&&D.Kr ys then .ok (.bl (D.mem x ys)) else .stuck:=rfl
@[simp] def kk1 (ys:List D):YQ x (.tup ys)=if x.plain&&D.Kr ys then .ok (.bl (!D.mem x ys)) else .stuck:=rfl
@[simp] def kkT (ys:List D):YQ x (.lst ys)=if x.plain&&D.Kr ys then .ok (.bl (!D.mem x ys)) else .stuck:=rfl
def oat:Option D->Rs D
 |some d=>.ok d
 |none=>.stuck
@[simp] def kkK:oat (some x) = .ok x:=rfl
@[simp] def kjM (xs:List D)(i:Int):oIx (.tup xs) (.int i)=oat (atI xs i):=rfl
@[simp] def kjL (xs:List D)(i:Int):oIx (.lst xs) (.int i)=oat (atI xs i):=rfl
@[simp] def klH (xs:List D)(i:Int):oIx (.lsf xs) (.int i)=oat (atI xs i):=rfl
@[simp] def keB (xs:List D):vD [.tup xs] = .ok (.int xs.length):=rfl
@[simp] def kkU (xs:List D):vD [.lst xs] = .ok (.int xs.length):=rfl
@[simp] def kkM (xs:List D):vD [.lsf xs] = .ok (.int xs.length):=rfl
@[simp] def klq (i:Int):kjl [.int i] = .ok (.int (if i < 0 then -i else i)):=rfl
@[simp] def kj5 (xs:List D):wR [.tup xs] = .ok (.tup xs):=rfl
@[simp] def kjY (xs:List D):wR [.lst xs] = .ok (.tup xs):=rfl
@[simp] def kka (xs:List D):Wv [.tup xs] = .ok (.lst xs):=rfl
@[simp] def kkh (xs:List D):Wv [.lst xs] = .ok (.lst xs):=rfl
@[simp] def Jc (xs:List D):QI [.lst xs]=if xs.all isBool then .ok (.bl (xs.all D.tru)) else .stuck:=rfl
@[simp] def klb (xs:List D):JS [.lst xs]=if xs.all isBool then .ok (.bl (xs.any D.tru)) else .stuck:=rfl
@[simp] def kjd (xs:List D):Zw [.lst xs]=if sortable xs then .ok (.lst (xx xs)) else .stuck:=rfl
@[simp] def kjI (xs:List D):Zw [.tup xs]=if sortable xs then .ok (.lst (xx xs)) else .stuck:=rfl
@[simp] def kiV (xs vs:List D):Zw [.dic xs vs]=if sortable xs then .ok (.lst (xx xs)) else .stuck:=rfl
@[simp] def klK (xs ys:List D):oLt (.tup xs) (.tup ys)=if D.nks xs&&D.nks ys&&(D.pls 40 xs&&D.pls 40 ys)&&D.QM xs ys then .ok (.bl (D.kls xs ys)) else .stuck:=rfl
@[simp] def kjV (p:D->Bool):bIs p x = .ok (.bl (p x)):=rfl
@[simp] def kkn:(D.bl k).W2 = .ok k:=rfl
@[simp] def kku (xs:List D):(D.tup xs).W2 = .ok (!xs.isEmpty):=rfl
@[simp] def kkd:isBool (D.bl k)=true:=rfl
@[simp] def kkB (n:Int):isBool (D.int n)=false:=rfl
@[simp] def kli:isBool D.non=false:=rfl
@[simp] def klc (xs:List D):isBool (D.tup xs)=false:=rfl
@[simp] def kld (xs:List D):isBool (D.lst xs)=false:=rfl
@[simp] def kkJ (z:Str):isBool (D.str z)=false:=rfl
@[simp] def kki:isInt (D.bl k)=true:=rfl
@[simp] def kk2 (n:Int):isInt (D.int n)=true:=rfl
@[simp] def kkx:isInt D.non=false:=rfl
@[simp] def klx (xs:List D):isInt (D.tup xs)=false:=rfl
@[simp] def kkR (xs:List D):isInt (D.lst xs)=false:=rfl
@[simp] def kk7 (z:Str):isInt (D.str z)=false:=rfl
@[simp] def kkk:isTup (D.bl k)=false:=rfl
@[simp] def klm (n:Int):isTup (D.int n)=false:=rfl
@[simp] def klh:isTup D.non=false:=rfl
@[simp] def kk0 (xs:List D):isTup (D.tup xs)=true:=rfl
@[simp] def klr (xs:List D):isTup (D.lst xs)=false:=rfl
@[simp] def kkV (z:Str):isTup (D.str z)=false:=rfl
@[simp] def kko:KQ (D.bl k)=false:=rfl
@[simp] def kkQ (n:Int):KQ (D.int n)=false:=rfl
@[simp] def kky:KQ D.non=false:=rfl
@[simp] def kkY (xs:List D):KQ (D.tup xs)=false:=rfl
@[simp] def kkv (xs:List D):KQ (D.lst xs)=true:=rfl
@[simp] def kk5 (z:Str):KQ (D.str z)=false:=rfl
@[simp] def kj3:(D.bl k).tru=k:=rfl
@[simp] def klp (n:Int):(D.int n).isN=false:=rfl
@[simp] def klj:D.non.isN=true:=rfl
@[simp] def klo (xs:List D):(D.tup xs).isN=false:=rfl
@[simp] def klC (xs:List D):(D.lst xs).isN=false:=rfl
end
def wG {xs:List D}{k:Int}(h0:0<=k)(h1:k < xs.length):atI xs k=xs[k.toNat]?:=by
 unfold atI ixN;rw[if_pos h0,if_pos h1];rfl
@[simp] def kk8 (x:D)(xs:List D):atI (x::xs) 0=some x:=by rw[wG (by decide) (by rw[zam];omega)];rfl
@[simp] def klf (x y:D)(xs:List D):atI (x::y::xs) 1=some y:=by rw[wG (by decide) (by rw[zam,zam];omega)];rfl
@[simp] def kj7 (n:Nat):D.pl n .non=true:=by cases n <;> rfl
@[simp] def kly (n:Nat)(b:Bool):D.pl n (.bl b)=true:=by cases n <;> rfl
@[simp] def kj9 (n:Nat)(i:Int):D.pl n (.int i)=true:=by cases n <;> rfl
@[simp] def kgt (n:Nat)(x:Str):D.pl n (.str x)=PySem.PyData.strOk x:=by cases n <;> rfl
@[simp] def kkb (n:Nat)(xs:List D):D.pl (n+1) (.tup xs)=D.pls n xs:=rfl
@[simp] def kkm (n:Nat)(xs:List D):D.pl (n+1) (.lst xs)=D.pls n xs:=rfl
@[simp] def kkl (n:Nat)(xs:List D):D.pl (n+1) (.lsf xs)=D.pls n xs:=rfl
@[simp] def kj6 (n:Nat):D.pls n []=true:=rfl
@[simp] def kdD (n:Nat)(x:D)(xs:List D):D.pls n (x::xs)=(D.pl n x&&D.pls n xs):=rfl
def zj (n:Nat):∀xs:List D,D.pls n xs=xs.all (D.pl n)
 | []=>rfl
 |x::xs=>by rw[kdD,List.all_cons,zj n xs]
def ke0 {α:Type}{n:Nat}{f:α->D}{l:List α}(h:∀a,a∈l->D.pl n (f a)=true):D.pls n (l.map f)=true:=by
 rw[zj,List.all_map,List.all_eq_true];exact h
@[simp] def Z5 (x:D):x.plain=D.pl 40 x:=rfl
@[simp] def kdw (x:List D):D.Kr x=D.pls 40 x:=rfl
@[simp] def kaz (a b:Int):D.eq (.int a) (.int b)=decide (a=b):=by
 have e:D.eq (.int a) (.int b)=(a==b):=rfl;rw[e];rfl
@[simp] def kiA (xs ys:List D):D.eq (.tup xs) (.tup ys)=D.eqs xs ys:=rfl
@[simp] def kk6 (xs ys:List D):D.eq (.lst xs) (.lst ys)=D.eqs xs ys:=rfl
@[simp] def kkI (xs ys:List D):D.eq (.lst xs) (.lsf ys)=D.eqs xs ys:=rfl
@[simp] def klu (xs ys:List D):D.eq (.lsf xs) (.lst ys)=D.eqs xs ys:=rfl
@[simp] def kk3 (a b:Bool):D.eq (.bl a) (.bl b)=(a==b):=rfl
@[simp] def klA:D.eq .non .non=true:=rfl
@[simp] def kkt (a:Int):D.eq (.int a) .non=false:=rfl
@[simp] def kkE (a:Int):D.eq .non (.int a)=false:=rfl
def khY (a:Int)(ys:List D):D.eq (.int a) (.tup ys)=false:=rfl
def kiz (a:Int)(ys:List D):D.eq (.tup ys) (.int a)=false:=rfl
@[simp] def kkq:D.eqs [] []=true:=rfl
@[simp] def kb6 (x y:D)(xs ys:List D):D.eqs (x::xs) (y::ys)=(D.eq x y&&D.eqs xs ys):=rfl
@[simp] def khO (x:D)(xs:List D):D.eqs (x::xs) []=false:=rfl
@[simp] def kkc (x:D)(xs:List D):D.eqs [] (x::xs)=false:=rfl
def Yq {α:Type} {g:FG} {t:FT} {e:FE} {env:Env} (enc:α -> D) (p:α -> Bool) (v:α -> D):∀ {l:List α},(∀ a,a ∈ l -> ∃ env',g (enc a) env = .ok env' /\ t env' = .ok (p a) /\ (p a = true -> e env' = .ok (v a))) →
 qT g t e env (l.map enc) = .ok ((l.filter p).map v)
 | [],_=>rfl
 |a::l,h=>by
  obtain⟨env',h1,h2,h3⟩:=h a zaj;have ih:=Yq (l:=l) enc p v λb hb=>h b (zah _ hb)
  rw[zat];show ((g (enc a) env).nx>>=λenv'=>(t env').nx>>=λc=>if c=true then (e env').nx>>=λw=>qT g t e env (l.map enc)>>=λvs=>.ok (w::vs) else qT g t e env (l.map enc))=_;rw[h1,ih];show ((t env').nx>>=_)=_;rw[h2]
  cases hp:p a with
  |true=>
   show ((e env').nx>>=_)=_;rw[h3 hp,List.filter_cons_of_pos (by simpa using hp)];rfl
  |false=>
   rw[List.filter_cons_of_neg (by simpa using hp)];rfl
def yh {α:Type}{g:FG}{e:FE}{env:Env}(enc:α->D)(v:α->D){l:List α}(h:∀a,a∈l->∃env',g (enc a) env = .ok env'/\e env' = .ok (v a)):qT g wu e env (l.map enc) = .ok (l.map v):=by
 rw[Yq enc (λ_=>true) v λa ha=>?_]
 ·rw[List.filter_eq_self.mpr λ_ _=>rfl]
 ·obtain⟨env',h1,h2⟩:=h a ha;exact⟨env',h1,rfl,λ_=>h2⟩
def Wy {g:FG} {b:FS} (I:Nat -> Env -> Prop) {xs:List D}:∀ {n:Nat} {env:Env},I n env -> (∀ i x env,xs[i]? = some x -> I (n + i) env -> ∃ env1 env2,g x env = .ok env1 /\ (b env1 = .ok (.next env2) ∨ b env1 = .ok (.cont env2)) /\ I (n + i + 1) env2) →
 ∃env',forL g b xs env = .ok (.next env')/\I (n+xs.length) env':=by
 induction xs with
 |nil=>exact λh _=>⟨_,rfl,h⟩
 |cons x xs ih=>
  intro n env h hs;obtain⟨env1,env2,h1,h2,h3⟩:=hs 0 x env rfl h
  obtain⟨env',e,h4⟩:=ih (n:=n+1) (env:=env2) h3 λi y env hy hI=>by
   have:=hs (i+1) y env hy (by rw[show n+(i+1)=n+1+i by omega];exact hI);rw[show n+(i+1)+1=n+1+i+1 by omega]at this;exact this
  refine⟨env',?_,by rw[zam,show n+(xs.length+1)=n+1+xs.length by omega];exact h4⟩;rw[<- e];show ((g x env).nx>>=λenv1=>b env1>>=_)=_;rw[h1];show (b env1>>=_)=_
  rcases h2 with h2 | h2 <;> rw[h2] <;> rfl
def zb {g:FG}{b:FS}{x:D}{xs:List D}{env env' env2:Env}(h1:g x env = .ok env')(h2:b env' = .ok (.next env2)):forL g b (x::xs) env=forL g b xs env2:=by
 show ((g x env).nx>>=λenv1=>b env1>>=_)=_;rw[h1];show (b env'>>=_)=_;rw[h2];rfl
@[simp] def kjH {g:FG}{b:FS}{env:Env}:forL g b [] env = .ok (.next env):=rfl
def kbi {t:FT}{b:FS}{n:Nat}{env env2:Env}(h1:t env = .ok true)(h2:b env = .ok (.next env2)):xM t b (n+1) env=xM t b n env2:=by
 show (t env>>=λc=>if c=true then b env>>=_ else _)=_;rw[h1];show (b env>>=_)=_;rw[h2];rfl
def kbA {t:FT}{b:FS}{n:Nat}{env:Env}(h1:t env = .ok false):xM t b (n+1) env = .ok (.next env):=by
 show (t env>>=λc=>if c=true then b env>>=_ else _)=_;rw[h1];rfl
@[simp] def wo:∀ (n:Nat) (lo:Int),(upTo lo n).length=n
 |0,_=>rfl
 |n+1,lo=>by
  show (upTo (lo+1) n).length+1=n+1;rw[wo n]
def zU {n:Nat}{lo:Int}{i:Nat}{x:D}(h:(upTo lo n)[i]?=some x):i < n/\x = .int (lo+i):=by
 have hl:i < n:=by
  have:=(List.getElem?_eq_some_iff.mp h).1
  rwa [wo]at this
 refine⟨hl,?_⟩
 induction n generalizing lo i with
 |zero=>omega
 |succ n ih=>
  cases i with
  |zero=>
   have h:some (D.int lo)=some x:=h;cases h;simp
  |succ i=>
   have:=ih (lo:=lo+1) (i:=i) h (by omega);rw[this]
   congr 1
   omega
def Jv:∀ (n:Nat) (lo:Int),upTo lo n=(List.range n).map λk=>D.int (lo+(k:Nat))
 |0,_=>rfl
 |n+1,lo=>by
  rw[List.range_succ_eq_map,zat,List.map_map];show D.int lo::upTo (lo+1) n=_;rw[Jv n (lo+1)]
  congr 1
  ·simp
  ·refine List.map_congr_left λk _=>?_
   show D.int _=D.int _
   congr 1
   simp only[Nat.succ_eq_add_one];omega
end P
open P (vB kP kj kJ ZN yv vF qD VT Ws zA qQ kD kh wV qO kF vZ zT K7 JX X5 VN WQ Wg VI vD wR Wv QI JS KQ zx yw qG Y4 QJ vA VE QO qN qT wU wu qI kM qR vR kZ ya K2 Yw xy xu jd kc7 z0 xM xG xx Qp KA Jt wG zj yh Wy zb wo zU)
namespace P
mutual
def eq_iff:∀ {x y:D},x.nk=true->y.nk=true->(D.eq x y=true↔x=y)
 |.int a,.int b,_,_=>by simp
 |.int a,.tup ys,_,_=>by simp[khY]
 |.tup xs,.int b,_,_=>by simp[kiz]
 |.tup xs,.tup ys,hx,hy=>by
  rw[kiA,U9 (by simpa [D.nk] using hx) (by simpa [D.nk] using hy)];simp
 |.non,_,hx,_=>by simp[D.nk]at hx
 |.bl _,_,hx,_=>by simp[D.nk]at hx
 |.str _,_,hx,_=>by simp[D.nk]at hx
 |.lst _,_,hx,_=>by simp[D.nk]at hx
 |.lsf _,_,hx,_=>by simp[D.nk]at hx
 |.dic _ _,_,hx,_=>by simp[D.nk]at hx
 |.dil _ _,_,hx,_=>by simp[D.nk]at hx
 |.int _,.non,_,hy=>by simp[D.nk]at hy
 |.int _,.bl _,_,hy=>by simp[D.nk]at hy
 |.int _,.str _,_,hy=>by simp[D.nk]at hy
 |.int _,.lst _,_,hy=>by simp[D.nk]at hy
 |.int _,.lsf _,_,hy=>by simp[D.nk]at hy
 |.int _,.dic _ _,_,hy=>by simp[D.nk]at hy
 |.int _,.dil _ _,_,hy=>by simp[D.nk]at hy
 |.tup _,.non,_,hy=>by simp[D.nk]at hy
 |.tup _,.bl _,_,hy=>by simp[D.nk]at hy
 |.tup _,.str _,_,hy=>by simp[D.nk]at hy
 |.tup _,.lst _,_,hy=>by simp[D.nk]at hy
 |.tup _,.lsf _,_,hy=>by simp[D.nk]at hy
 |.tup _,.dic _ _,_,hy=>by simp[D.nk]at hy
 |.tup _,.dil _ _,_,hy=>by simp[D.nk]at hy
def U9:∀ {xs ys:List D},D.nks xs=true->D.nks ys=true->(D.eqs xs ys=true↔xs=ys)
 | [],[],_,_=>by simp
 | [],_::_,_,_=>by simp
 |_::_,[],_,_=>by simp
 |x::xs,y::ys,hx,hy=>by
  simp only[D.nks,Bool.and_eq_true]at hx hy;rw[kb6,Bool.and_eq_true,eq_iff hx.1 hy.1,U9 hx.2 hy.2];simp
end
def eq_self {x:D}(h:x.nk=true):D.eq x x=true:=(eq_iff h h).mpr rfl
def keI {x y:D}(h:x.nk=true)(h':y.nk=true)(n:x≠y):D.eq x y=false:=by
 rw[Bool.eq_false_iff];exact λe=>n ((eq_iff h h').mp e)
def Vj (x y:D)(xs ys:List D):D.kls (x::xs) (y::ys)=if D.eq x y=true then D.kls xs ys else D.kl x y:=by rw[D.kls]
def V9 {xs:List D}(h:(D.tup xs).nk=true):D.nks xs=true:=by simpa [D.nk] using h
def yr {x:D}{xs:List D}(h:D.nks (x::xs)=true):x.nk=true/\D.nks xs=true:=by simpa [D.nks] using h
def kfS:∀ {xs:List D},D.nks xs=xs.all D.nk
 | []=>rfl
 |x::xs=>by rw[D.nks,List.all_cons,kfS]
mutual
def Qs:∀ {x:D},x.nk=true->D.kl x x=false
 |.int a,_=>by simp[D.kl]
 |.tup xs,h=>by rw[D.kl];exact U6 (V9 h)
 |.non,h=>by simp[D.nk]at h
 |.bl _,h=>by simp[D.nk]at h
 |.str _,h=>by simp[D.nk]at h
 |.lst _,h=>by simp[D.nk]at h
 |.lsf _,h=>by simp[D.nk]at h
 |.dic _ _,h=>by simp[D.nk]at h
 |.dil _ _,h=>by simp[D.nk]at h
def U6:∀ {xs:List D},D.nks xs=true->D.kls xs xs=false
 | [],_=>by rw[D.kls]
 |x::xs,h=>by
  rw[Vj,if_pos (eq_self (yr h).1)];exact U6 (yr h).2
end
def Qc {x:D}(h:x.nk=true):(∃a,x = .int a)∨∃xs,x = .tup xs/\D.nks xs=true:=by
 cases x with
 |int a=>exact .inl ⟨a,rfl⟩
 |tup xs=>exact .inr ⟨xs,rfl,V9 h⟩
 |_=>simp[D.nk]at h
mutual
def Wx:∀ {x y z:D},x.nk=true->y.nk=true->z.nk=true->D.kl x y=true->D.kl y z=true->D.kl x z=true
 |.int a,y,z,_,hy,hz,h1,h2=>by
  rcases Qc hy with ⟨b,rfl⟩ | ⟨ys,rfl,_⟩ <;> rcases Qc hz with ⟨c,rfl⟩ | ⟨zs,rfl,_⟩
  ·simp[D.kl]at h1 h2 ⊢;omega
  ·simp[D.kl]
  ·simp[D.kl]at h2
  ·simp[D.kl]
 |.tup xs,y,z,hx,hy,hz,h1,h2=>by
  rcases Qc hy with ⟨b,rfl⟩ | ⟨ys,rfl,hys⟩
  ·simp[D.kl]at h1
  rcases Qc hz with ⟨c,rfl⟩ | ⟨zs,rfl,hzs⟩
  ·simp[D.kl]at h2
  rw[D.kl]at h1 h2 ⊢;exact kce (V9 hx) hys hzs h1 h2
 |.non,_,_,h,_,_,_,_=>by simp[D.nk]at h
 |.bl _,_,_,h,_,_,_,_=>by simp[D.nk]at h
 |.str _,_,_,h,_,_,_,_=>by simp[D.nk]at h
 |.lst _,_,_,h,_,_,_,_=>by simp[D.nk]at h
 |.lsf _,_,_,h,_,_,_,_=>by simp[D.nk]at h
 |.dic _ _,_,_,h,_,_,_,_=>by simp[D.nk]at h
 |.dil _ _,_,_,h,_,_,_,_=>by simp[D.nk]at h
def kce:∀ {xs ys zs:List D},D.nks xs=true->D.nks ys=true->D.nks zs=true->D.kls xs ys=true->D.kls ys zs=true->D.kls xs zs=true
 | [],[],_,_,_,_,h1,_=>by simp[D.kls]at h1
 | [],y::ys,[],_,_,_,_,h2=>by simp[D.kls]at h2
 | [],y::ys,z::zs,_,_,_,_,_=>by simp[D.kls]
 |x::xs,[],_,_,_,_,h1,_=>by simp[D.kls]at h1
 |x::xs,y::ys,[],_,_,_,_,h2=>by simp[D.kls]at h2
 |x::xs,y::ys,z::zs,hx,hy,hz,h1,h2=>by
  rw[Vj]at h1 h2 ⊢;obtain⟨x1,x2⟩:=yr hx;obtain⟨y1,y2⟩:=yr hy;obtain⟨z1,z2⟩:=yr hz
  by_cases e1:D.eq x y=true
  ·rw[if_pos e1]at h1
   have e1':=(eq_iff x1 y1).mp e1
   by_cases e2:D.eq y z=true
   ·rw[if_pos e2]at h2
    have e2':=(eq_iff y1 z1).mp e2;rw[if_pos (by rw[e1'];exact e2)];exact kce x2 y2 z2 h1 h2
   ·rw[if_neg e2]at h2
    rw[if_neg (by rw[e1'];exact e2),e1'];exact h2
  ·rw[if_neg e1]at h1
   by_cases e2:D.eq y z=true
   ·have e2':=(eq_iff y1 z1).mp e2
    rw[<- e2',if_neg e1];exact h1
   ·rw[if_neg e2]at h2
    have h3:=Wx x1 y1 z1 h1 h2;rw[if_neg]
    ·exact h3
    ·intro e3
     rw[(eq_iff x1 z1).mp e3,Qs z1]at h3;cases h3
end
mutual
def Zo:∀ {x y:D},x.nk=true->y.nk=true->D.kl x y=false->D.kl y x=false->x=y
 |.int a,y,_,hy,h1,h2=>by
  rcases Qc hy with ⟨b,rfl⟩ | ⟨ys,rfl,_⟩
  ·simp[D.kl]at h1 h2
   congr 1
   omega
  ·simp[D.kl]at h1
 |.tup xs,y,hx,hy,h1,h2=>by
  rcases Qc hy with ⟨b,rfl⟩ | ⟨ys,rfl,hys⟩
  ·simp[D.kl]at h2
  ·rw[D.kl]at h1 h2
   rw[U7 (V9 hx) hys h1 h2]
 |.non,_,h,_,_,_=>by simp[D.nk]at h
 |.bl _,_,h,_,_,_=>by simp[D.nk]at h
 |.str _,_,h,_,_,_=>by simp[D.nk]at h
 |.lst _,_,h,_,_,_=>by simp[D.nk]at h
 |.lsf _,_,h,_,_,_=>by simp[D.nk]at h
 |.dic _ _,_,h,_,_,_=>by simp[D.nk]at h
 |.dil _ _,_,h,_,_,_=>by simp[D.nk]at h
def U7:∀ {xs ys:List D},D.nks xs=true->D.nks ys=true->D.kls xs ys=false->D.kls ys xs=false->xs=ys
 | [],[],_,_,_,_=>rfl
 | [],_::_,_,_,h1,_=>by simp[D.kls]at h1
 |_::_,[],_,_,_,h2=>by simp[D.kls]at h2
 |x::xs,y::ys,hx,hy,h1,h2=>by
  rw[Vj]at h1 h2;obtain⟨x1,x2⟩:=yr hx;obtain⟨y1,y2⟩:=yr hy
  by_cases e:D.eq x y=true
  ·have e':=(eq_iff x1 y1).mp e
   subst e';rw[if_pos e]at h1 h2;rw[U7 x2 y2 h1 h2]
  ·rw[if_neg e]at h1
   rw[if_neg (λq=>e ((eq_iff x1 y1).mpr ((eq_iff y1 x1).mp q).symm))]at h2;exact absurd (Zo x1 y1 h1 h2) λq=>e ((eq_iff x1 y1).mpr q)
end
def uK {x y z:D}(hx:x.nk=true)(hy:y.nk=true)(hz:z.nk=true)(h:D.kl x z=true):D.kl x y=true∨D.kl y z=true:=by
 cases h1:D.kl x y with
 |true=>exact .inl rfl
 |false=>
  cases h2:D.kl y z with
  |true=>exact .inr rfl
  |false=>
   cases h3:D.kl y x with
   |false=>
    have e:=Zo hx hy h1 h3;subst e;rw[h2]at h;cases h
   |true=>
    cases h4:D.kl z y with
    |false=>
     have e:=Zo hy hz h2 h4;subst e;rw[h1]at h;cases h
    |true=>
     have:=Wx hz hy hx h4 h3;have:=Wx hx hz hx h this;rw[Qs hx]at this;cases this
def WG (l:List D):Prop:=l.Pairwise λx y=>D.kl y x=false
def W8 (x:D):∀l:List D,(jb x l).Perm (x::l)
 | []=>.refl _
 |y::l=>by
  rw[jb];split
  ·exact ((W8 x l).cons y).trans (.swap x y l)
  ·exact .refl _
def yk:∀l:List D,(xx l).Perm l
 | []=>.refl _
 |x::l=>(W8 x _).trans ((yk l).cons x)
def Jr {x:D}(hx:x.nk=true):∀ {l:List D},(∀y∈l,y.nk=true)->WG l->WG (jb x l)
 | [],_,_=>List.pairwise_singleton _ _
 |y::l,hl,hs=>by
  have hy:=hl y zaj;rw[jb];have hs':=List.pairwise_cons.mp hs
  by_cases h:D.kl y x=true
  ·rw[if_pos h]
   refine List.pairwise_cons.mpr ⟨λz hz=>?_,Jr hx (λz hz=>hl z (zah _ hz)) hs'.2⟩
   rcases List.mem_cons.mp ((W8 x l).mem_iff.mp hz) with rfl | hz
   ·cases q:D.kl z y with
    |false=>rfl
    |true=>
     have:=Wx hy hx hy h q;rw[Qs hy]at this;cases this
   ·exact hs'.1 z hz
  ·rw[if_neg h]
   have h:D.kl y x=false:=by simpa using h
   refine List.pairwise_cons.mpr ⟨λz hz=>?_,hs⟩
   rcases List.mem_cons.mp hz with rfl | hz
   ·exact h
   ·have hzk:=hl z (zah _ hz)
    cases q:D.kl z x with
    |false=>rfl
    |true=>
     rcases uK hzk hy hx q with r | r
     ·rw[hs'.1 z hz]at r;cases r
     ·rw[h]at r;cases r
def jy:∀ {l:List D},(∀y∈l,y.nk=true)->WG (xx l)
 | [],_=>.nil
 |x::l,h=>Jr (h x zaj) (λy hy=>h y (zah _ ((yk l).mem_iff.mp hy))) (jy λy hy=>h y (zah _ hy))
def kcg:∀ {l m:List D},(∀y∈l,y.nk=true)->l.Perm m->WG l->WG m->l=m
 | [],m,_,hp,_,_=>by rw[List.nil_perm.mp hp]
 |x::l,[],_,hp,_,_=>by simpa using hp.length_eq
 |x::l,y::m,hk,hp,h1,h2=>by
  have a1:=List.pairwise_cons.mp h1;have a2:=List.pairwise_cons.mp h2
  have e:x=y:=by
   have hx:=hk x zaj;have hy:y.nk=true:=hk y (hp.mem_iff.mpr zaj)
   rcases List.mem_cons.mp (hp.mem_iff.mp zaj) with e | q
   ·exact e
   ·rcases List.mem_cons.mp (hp.mem_iff.mpr zaj) with e | r
    ·exact e.symm
    ·exact Zo hx hy (a2.1 x q) (a1.1 y r)
  subst e;rw[kcg (λy hy=>hk y (zah _ hy)) (List.Perm.cons_inv hp) a1.2 a2.2]
def kde {l m:List D}(hk:∀y∈l,y.nk=true)(hp:m.Perm l)(hs:WG m):xx l=m :=
 kcg (λy hy=>hk y ((yk l).mem_iff.mp hy)) ((yk l).trans hp.symm) (jy hk) hs
def kg7 {x:D}(h:x.isI=true):x.nk=true:=by cases x <;> simp[D.isI,D.nk]at h ⊢
def Qi {xs:List D}(h:sortable xs=true):∀y∈xs,y.nk=true:=by
 intro y hy;unfold sortable at h
 rcases (Bool.or_eq_true _ _).mp h with h | h
 ·exact kg7 (List.all_eq_true.mp h y hy)
 ·simp only[Bool.and_eq_true,List.all_eq_true]at h;exact h.2.1 y hy
def D.sm:D->Bool
 |.int v=>decide (0<=v)&&decide (v<=1000000000)
 |_=>false
def D.num:D->Int
 |.int v=>v
 |_=>0
def D.flat:D->Bool
 |.non=>true
 |.bl _=>true
 |.int _=>true
 |_=>false
end P
open P (Vj yr Qi)
namespace L3
open PySem PySem.Spec PyProof.Rows L2
def KW:∀ (names:List (Str × NameKind)) (n:Nat) (acc:List (Str × Addr)) (x:Str) (c:Addr),(cellsFrom n names acc).lookup x = some c →
 acc.lookup x=some c∨(n<=c/\(x,NameKind.cell)∈names)
 | [],_,_,_,_,h=>.inl h
 |(name,kind)::r,n,acc,x,c,h=>by
  unfold cellsFrom at h;split at h
  ·rename_i hk
   have hk':kind = .cell:=by simpa using hk
   subst hk'
   rcases KW r (n+1) ((name,n)::acc) x c h with q | ⟨q1,q2⟩
   ·rw[List.lookup_cons]at q
    cases hb:x==name with
    |true=>
     rw[hb]at q;have e:x=name:=by simpa using hb
     subst e;cases q;exact .inr ⟨zak _,zaj⟩
    |false=>rw[hb]at q;exact .inl q
   ·exact .inr ⟨Nat.le_of_succ_le q1,zah _ q2⟩
  ·rcases KW r n acc x c h with q | ⟨q1,q2⟩
   ·exact .inl q
   ·exact .inr ⟨q1,zah _ q2⟩
def QH:∀ (names:List (Str × NameKind)) (n:Nat) (acc:List (Str × Addr)),(∀ x c,acc.lookup x = some c -> c < n) -> (∀ x y c,acc.lookup x = some c -> acc.lookup y = some c -> x = y) →
 ∀x y c,(cellsFrom n names acc).lookup x=some c->(cellsFrom n names acc).lookup y=some c->x=y
 | [],_,_,_,hi,x,y,c,h1,h2=>hi x y c h1 h2
 |(name,kind)::r,n,acc,hl,hi,x,y,c,h1,h2=>by
  unfold cellsFrom at h1 h2;split at h1
  ·rename_i hk
   rw[if_pos hk]at h2;refine QH r (n+1) ((name,n)::acc) ?_ ?_ x y c h1 h2
   ·intro z d q
    rw[List.lookup_cons]at q
    cases hb:z==name with
    |true=>rw[hb]at q;cases q;exact Nat.lt_succ_self _
    |false=>rw[hb]at q;exact Nat.lt_succ_of_lt (hl z d q)
   ·intro z z' d q q'
    rw[List.lookup_cons]at q q'
    cases hb:z==name with
    |true=>
     rw[hb]at q;have e:z=name:=by simpa using hb
     cases hb':z'==name with
     | true => have e':z' = name:=by simpa using hb'
               rw[e,e']
     |false=>
      rw[hb']at q';cases q;exact absurd (hl z' _ q') (Nat.lt_irrefl _)
    |false=>
     rw[hb]at q
     cases hb':z'==name with
     |true=>
      rw[hb']at q';cases q';exact absurd (hl z _ q) (Nat.lt_irrefl _)
     |false=>
      rw[hb']at q';exact hi z z' d q q'
  ·rename_i hk
   rw[if_neg hk]at h2;exact QH r n acc hl hi x y c h1 h2
def QC:∀ (names:List (Str×NameKind)) (n:Nat) (acc:List (Str×Addr)) (x:Str),(x,NameKind.cell)∉names->(cellsFrom n names acc).lookup x=acc.lookup x
 | [],_,_,_,_=>rfl
 |(name,kind)::r,n,acc,x,h=>by
  have hr:(x,NameKind.cell)∉r:=λq=>h (zah _ q)
  unfold cellsFrom;split
  ·rename_i hk
   have hk':kind = .cell:=by simpa using hk
   subst hk';rw[QC r (n+1) _ x hr,List.lookup_cons]
   cases hb:x==name with
   |true=>
    have e:x=name:=by simpa using hb
    subst e;exact absurd zaj h
   |false=>rfl
  ·exact QC r n acc x hr
def QD:∀ (names:List (Str×NameKind)) (n:Nat) (acc:List (Str×Addr)) (x:Str),((x,NameKind.cell)∈names∨∃c,acc.lookup x=some c)->∃c,(cellsFrom n names acc).lookup x=some c
 | [],_,_,_,.inr h=>h
 | [],_,_,_,.inl h=>nomatch h
 |(name,kind)::r,n,acc,x,h=>by
  unfold cellsFrom;split
  ·rename_i hk
   have hk':kind = .cell:=by simpa using hk
   subst hk';refine QD r (n+1) _ x ?_
   rcases h with h | ⟨c,h⟩
   ·rcases List.mem_cons.mp h with e | h
    ·cases e
     refine .inr ⟨n,?_⟩;rw[List.lookup_cons,beq_self_eq_true]
    ·exact .inl h
   ·right
    rw[List.lookup_cons]
    cases hb:x==name with
    |true=>exact⟨n,rfl⟩
    |false=>exact⟨c,h⟩
  ·rename_i hk
   refine QD r n acc x ?_
   rcases h with h | h
   ·rcases List.mem_cons.mp h with e | h
    ·cases e
     exact absurd (show (NameKind.cell==NameKind.cell)=true from rfl) hk
    ·exact .inl h
   ·exact .inr h
def QA:∀ (names:List (Str × NameKind)) (h:Heap) (acc:List (Str × Addr)) (x:Str) (c:Addr),(cellsFrom h.objs.size names acc).lookup x = some c →
 acc.lookup x=some c∨(h.objs.size<=c/\(pushCells h names).IsCell c none)
 | [],_,_,_,_,q=>.inl q
 |(name,kind)::r,h,acc,x,c,q=>by
  unfold cellsFrom at q;unfold pushCells;split at q
  ·rename_i hk
   rw[if_pos hk];have es:(h.push { cls:=.type "cell",data:=.cell none }).objs.size=h.objs.size+1:=Heap.size_push ..;rw[<- es]at q
   rcases QA r _ _ x c q with z | ⟨z1,z2⟩
   ·rw[List.lookup_cons]at z
    cases hb:x==name with
    |true=>
     rw[hb]at z;cases z;exact .inr ⟨zak _,_,pushCells_keeps r _ _ _ (zag _ rfl),rfl⟩
    |false=>rw[hb]at z;exact .inl z
   ·rw[es]at z1
    exact .inr ⟨Nat.le_of_succ_le z1,z2⟩
  ·rename_i hk
   rw[if_neg hk];exact QA r h acc x c q
section
variable {M:Model}{A:Around}{E:zEx}{s:Shared}
def YB (scope:Scope)(cl:List (Str×Addr))(C:Addr)(env:Env):Env :=
 { scope:=scope,locals:=C,globals:=env.globals,cells:=cellsFrom (C+1) scope.names cl,qual:=env.qual,func:=none,code:=env.code,frame:=env.frame,builtins:=env.builtins }
def UC {scope:Scope}{cl:List (Str×Addr)}{env:Env}{Q:Env->Shared->Prop}
 (h:Q (YB scope cl s.heap.objs.size env) { s with heap:=pushCells (s.heap.push { cls:=.type "dict",data:=.dict #[] }) scope.names }) :
 wpAny M A (newFunctionEnv scope env.globals cl [] env.qual none .none (some env)) Q E s:=by
 have sz:∀o:Obj,({ s with heap:=s.heap.push o }:Shared).heap.objs.size=s.heap.objs.size+1:=λo=>Heap.size_push ..
 wp_delta
 refine zaa (wpAny_alloc (zaa (wpAny_layCells _ (λx k c=>?_) _ _ _ _ ?_)))
 ·cases k <;> rfl
 ·rw[sz];simp only[List.forIn_nil]
  wp_walk
  exact h
end
def Tst (M:Model)(A:Around)(env:Env)(ifs:List Expr)(Q:Bool->Shared->Prop)(E:zEx)(s:Shared):Prop:=match ifs with
 | []=>Q true s
 | [c]=>wpAny M A (isTrue c env (eval c env)) Q E s
 |_=>False
abbrev Nev:Value->Shared->Prop:=λ_ _=>False
def kfO (M:Model)(A:Around)(env:Env)(elt target:Expr)(ifs:List Expr)(it acc v:Value)(J:Shared->Prop)(s:Shared):Prop :=
 wpAny M A (letOwnedTupleGo target it v) (λ_ s=>wpAny M A (assign target env v) (λ_ s=>Tst M A env ifs (λok s=>
  if ok=true then wpAny M A (eval elt env) (λx s=>wpAny M A (call (.builtin "list.append") [acc,x]) (λ_ s=>J s) Nev s) Nev s else J s) Nev s) Nev s) Nev s
def nev {α:Type}{M:Model}{A:Around}{m:Sem α}{Q Q':α->Shared->Prop}{E:zEx}{s:Shared}(h:wpAny M A m Q Nev s)(k:∀a s,Q a s->Q' a s):wpAny M A m Q' E s:=wpAny_mono h k λ_ _ z=>z.elim
def JB {prog:Program} {w:World} {A:Around} {R:Result -> Shared -> Prop} {s:Shared} {elt target iter:Expr} {ifs:List Expr} {scope:Scope} {pos:Pos} {it acc:Value} {env:Env} (I:Nat -> Shared -> Prop)
 (turn:∀n s,I n s->wpAny (model prog w) A (pyNext it) (λr s=>match r with
  |none=>R (.ok .next) s
  |some v=>kfO (model prog w) A env elt target ifs it acc v (λs=>∃m,m < n/\I m s) s) Nev s) (n:Nat) (h:I n s) :
 codeAny (model prog w) A (.compLoop (.ListComp elt [⟨target,iter,ifs,0⟩] scope pos) 0 it acc env) R s:=by
 refine codeAny_loop rfl I (λk u hI=>wpAny_noted ?_) n h;rw[compTurn_list];refine zaa (wpAny_standAt (zaa (nev (turn k u hI) λr u1 z=>?_)))
 cases r with
 |none=>exact zab z
 |some v=>
  refine zaa (nev z λ_ u2 z=>zaa (nev z λ_ u3 z=>?_))
  rcases ifs with _ | ⟨c,_ | ⟨c',r⟩⟩
  ·refine zaa (wpAny_tests_nil ?_)
   wp_walk
   refine nev z λx u4 z=>zaa (nev z λ_ u5 z=>?_)
   wp_walk
   exact⟨rfl,z⟩
  ·refine zaa (wpAny_tests_one (nev z λb u4 z=>?_))
   cases b
   ·wp_walk
    exact⟨rfl,z⟩
   ·wp_walk
    refine nev z λx u5 z=>zaa (nev z λ_ u6 z=>?_)
    wp_walk
    exact⟨rfl,z⟩
  ·exact z.elim
def Qd (X:Cx)(scope:Scope)(cl:List (Str×Addr))(C:Addr):Env:={ YB scope cl C X.env with scope:=relabel scope X.env }
def KR (X:Cx)(scope:Scope)(cl:List (Str×Addr))(N:List Str)(C:Addr)(s:Shared)(H:Hp)(fp:List Addr)(pn:List (Addr×Obj)):Cx where
 prog:=X.prog
 w:=X.w
 K:=X.K
 mg:=X.mg
 base:=X.base
 A:=X.A
 N:=N
 s₀:=s
 H₀:=H
 env:=Qd X scope cl C
 outer:=X.stack
 stack:=X.stack
 ex:=fp
 fn:=λx=>decide ((x,NameKind.cell)∈scope.names)
 calm:=X.calm
 pn:=pn
 xe:=λ_ _=>False
def yt (X:Cx)(scope:Scope)(cl:List (Str×Addr))(N:List Str)(X':Cx):Prop:=∃C s H fp pn,X'=KR X scope cl N C s H fp pn
structure vK (X:Cx)(scope:Scope)(cl:List (Str×Addr))(own free:List Str)(pick:List Nat):Prop where
 kind:scope.kind = .function
 names:∀x∈scope.names,x.2 = .local->scope.names.lookup x.1=some .local
 cells:∀x∈scope.names,x.2 = .cell->scope.names.lookup x.1=some .cell
 frees:∀x∈scope.names,x.2 = .free->scope.names.lookup x.1=some .free
 clos:closureFor scope X.env=pure cl
 sub:∀x c,cl.lookup x=some c->X.env.cells.lookup x=some c/\scope.names.lookup x=some .free
 has:∀x,scope.names.lookup x=some .free->∃c,cl.lookup x=some c
 look:∀x,scope.names.lookup x=some .free->X.env.kindOf x=some .cell∨X.env.kindOf x=some .free
 fnd:Paired (λy i=>X.N[i]?=some y/\scope.names.lookup y=some .free) free pick
 nd:(own++free).Nodup
def zf {env:Env}:∀ {names:List (Str × NameKind)} {x:Str} {k:NameKind},
 (names.map λ(n,k)=>if (k==NameKind.free&&env.scope.kind == .function&&env.kindOf n==some .cell) then (n,NameKind.cell) else (n,k)).lookup x=some k →
 names.lookup x=some k∨(names.lookup x=some .free/\k = .cell)
 | [],_,_,h=>by simp at h
 |(n,k)::r,x,k',h=>by
  have ih:=@zf env r x k'
  change List.lookup x ((if (k==NameKind.free&&env.scope.kind == .function&&env.kindOf n==some .cell)=true then (n,NameKind.cell) else (n,k))::_)=_ at h
  by_cases hc:(k==NameKind.free&&env.scope.kind == .function&&env.kindOf n==some .cell)=true
  ·rw[if_pos hc]at h
   rw[List.lookup_cons]at h ⊢
   cases hx:x==n with
   |true=>
    rw[hx]at h
    have hk:k = .free:=by
     have:=(Bool.and_eq_true _ _ ▸ hc:_/\_).1;have:=(Bool.and_eq_true _ _ ▸ this:_/\_).1;simpa using this
    cases h;exact .inr ⟨by rw[hk],rfl⟩
   |false=>rw[hx]at h;exact ih h
  ·rw[if_neg hc]at h
   rw[List.lookup_cons]at h ⊢
   cases hx:x==n with
   |true=>rw[hx]at h;exact .inl h
   |false=>rw[hx]at h;exact ih h
section
variable {X:Cx}{scope:Scope}{cl:List (Str×Addr)}{own free:List Str}{pick:List Nat}
def jx (S:vK X scope cl own free pick){C:Addr}{x:Str}{c:Addr}(h:(Qd X scope cl C).cells.lookup x=some c) :
 (X.env.cells.lookup x=some c/\scope.names.lookup x=some .free)∨(C < c/\(x,NameKind.cell)∈scope.names):=by
 rcases KW scope.names (C+1) cl x c h with q | ⟨q1,q2⟩
 ·exact .inl (S.sub x c q)
 ·exact .inr ⟨q1,q2⟩
def kfc {pins:List (Addr×Obj)}{σ:L2.St}{H:Hp}{s:Shared}{fp:List Addr}{pn:List (Addr×Obj)}(S:vK X scope cl own free pick)(I:Inv X pins σ H s)(hf:∀b∈fp,wN X pins H b)(hfs:∀b∈fp,b < s.heap.objs.size) :
 (KR X scope cl (own++free) s.heap.objs.size s H fp pn).Ok where
 mod:=I.ok.mod
 kind:=S.kind
 glob:=I.ok.glob
 blt:=I.ok.blt
 above:=zak _
 inj:=by
  refine QH scope.names _ cl ?_ ?_
  ·intro x c q;obtain⟨v,o,ho,_⟩:=I.cell x c (S.sub x c q).1;exact Nat.lt_succ_of_lt (zaf ho)
  ·intro x y c q q';exact I.ok.inj x y c (S.sub x c q).1 (S.sub y c q').1
 has:=by
  intro x hk;refine QD scope.names _ cl x ?_
  have:scope.names.lookup x=some .cell∨scope.names.lookup x=some .free:=by
   rcases hk with hk | hk
   ·rcases zf hk with q | q
    ·exact .inl q
    ·exact .inr q.1
   ·rcases zf hk with q | q
    ·exact .inr q
    ·exact .inr q.1
  rcases this with q | q
  ·exact .inl (mem_of_lookup q)
  ·exact .inr (S.has x q)
 cab:=by
  intro x c hx hc;have hm:(x,NameKind.cell)∈scope.names:=of_decide_eq_true hx
  rcases jx S hc with ⟨_,q⟩ | ⟨q,_⟩
  ·rw[S.cells _ hm rfl]at q;cases q
  ·exact Nat.le_of_lt q
 hd:=I.ok.hd
 frames:=I.ok.frames
 stk:=.inl rfl
 exf:=by
  intro b hb;refine⟨zas (hfs b hb),λx c hc=>?_⟩
  rcases jx S hc with ⟨q,_⟩ | ⟨q,_⟩
  ·exact (hf b hb).2.2.2.2.1 x c q
  ·exact Nat.ne_of_gt (Nat.lt_trans (hfs b hb) q)
 bs:=I.bs
 bsz:=Nat.le_trans I.ok.bsz I.sz
 noex:=by
  intro b o e hb
  rcases (hf b hb).2.2.2.1 with q | q
  ·exact I.ok.noex b o e q
  ·exact absurd (Nat.lt_of_lt_of_le (zaf e) (Nat.le_trans I.ok.bsz q)) (Nat.lt_irrefl _)
 exfs:=by
  intro b hb hm
  rcases List.mem_cons.mp (I.YM b hm) with e | hm
  ·exact (hf b hb).2.1 e
  ·exact (hf b hb).2.2.1 hm
 zZ:=I.stack
 frf:=I.jg
def YT {α β:Type}{F:α->β->Prop}:∀ {l:List α} {m:List β} {i:Nat} {a:α},Paired F l m->l[i]?=some a->∃b,m[i]?=some b/\F a b
 |_,_,_,_,.nil,e=>by simp at e
 |_,_,0,_,.cons r _,e=>by simp at e;subst e;exact⟨_,rfl,r⟩
 |_,_,i+1,a,.cons _ t,e=>by
  obtain⟨b,h1,h2⟩:=YT (i:=i) (a:=a) t (by simpa using e);exact⟨b,by simpa using h1,h2⟩
def inner (own:List Str)(pick:List Nat)(σ:L2.St):L2.St:=List.replicate own.length none++pick.map λi=>(σ[i]?).getD none
def kdu {pins:List (Addr×Obj)}{σ:L2.St}{H:Hp}{s:Shared}{fp:List Addr}{t:Nat}(S:vK X scope cl own free pick)(I:Inv X pins σ H s)(hf:∀b∈fp,wN X pins H b)(hfs:∀b∈fp,b < s.heap.objs.size) :
 Inv (KR X scope cl (own++free) s.heap.objs.size s H fp (X.pn++pins)) [] (inner own pick σ) H
  { s with heap:=pushCells (s.heap.push { cls:=.type "dict",data:=.dict #[] }) scope.names,toks:=t }:=by
 have kp:∀b o,s.heap.get? b=some o->(pushCells (s.heap.push { cls:=.type "dict",data:=.dict #[] }) scope.names).get? b=some o:=λb o e=>
  pushCells_keeps _ _ _ _ (zac _ e)
 have es:(s.heap.push { cls:=.type "dict",data:=.dict #[] }).objs.size=s.heap.objs.size+1:=Heap.size_push ..
 have newc:∀x c,(Qd X scope cl s.heap.objs.size).cells.lookup x=some c->cl.lookup x=some c∨(s.heap.objs.size+1<=c/\(pushCells (s.heap.push { cls:=.type "dict",data:=.dict #[] }) scope.names).IsCell c none):=λx c q=>by
  have q':(cellsFrom (s.heap.push { cls:=.type "dict",data:=.dict #[] }).objs.size scope.names cl).lookup x=some c:=by rw[es];exact q
  rcases QA scope.names _ cl x c q' with z | ⟨z1,z2⟩
  ·exact .inl z
  ·rw[es]at z1;exact .inr ⟨z1,z2⟩
 refine⟨kfc S I hf hfs,rfl,I.bare,Un.kept kp,⟨λ_=>none,⟨_,#[],0,pushCells_keeps _ _ _ _ (zag _ rfl),rfl,λe he=>by simp at he,λ_=>rfl⟩,?_⟩,?_,?_,?_,?_,?_,?_⟩
 ·intro i x v e1 e2 hv
  have hi:¬ i < own.length:=λhlt=>by
   have:(inner own pick σ)[i]?=some none:=by
    unfold inner;rw[List.getElem?_append_left (by simpa using hlt)];simp[hlt]
   rw[this]at e2;cases e2
  have e1':free[i - own.length]?=some x:=by
   have e1:(own++free)[i]?=some x:=e1
   rwa [List.getElem?_append_right (by omega)]at e1
  obtain⟨j,hj,hN,hfr⟩:=YT S.fnd e1'
  have e2':((σ[j]?).getD none)=some v:=by
   unfold inner at e2;rw[List.getElem?_append_right (by simp;omega)]at e2;simp only[List.length_replicate,zar,hj,Option.map_some]at e2;exact Option.some.inj e2
  have e3:σ[j]?=some (some v):=by
   cases q:σ[j]? with
   |none=>rw[q]at e2';cases e2'
   |some z=>rw[q]at e2';rw[show z=some v from e2']
  obtain⟨m,hn,hl⟩:=I.loc;have hk:=S.look x hfr;obtain⟨u,ru,lk⟩:=hl j x v hN e3 (by rcases hk with hk | hk;exact .inr (.inl hk);exact .inr (.inr hk));refine⟨u,ru,.inr ⟨?_,?_⟩⟩
  ·rcases hv with hv | hv | hv
   ·rcases zf hv with q | q
    ·rw[hfr]at q;cases q
    ·cases q.2
   ·exact .inl hv
   ·exact .inr hv
  ·obtain⟨c,hc⟩:=S.has x hfr
   have hcell:(x,NameKind.cell)∉scope.names:=λhm=>by
    have:=S.cells _ hm rfl;rw[hfr]at this;cases this
   refine⟨c,(QC scope.names _ cl x hcell).trans hc,?_⟩
   rcases lk with ⟨k1,_⟩ | ⟨_,c',hc',z⟩
   ·rcases hk with hk | hk <;> (rw[hk]at k1;cases k1)
   ·rw[(S.sub x c hc).1]at hc';cases hc';exact z.keeps kp
 ·intro x c hc
  rcases newc x c hc with q | ⟨_,q⟩
  ·obtain⟨v,z⟩:=I.cell x c (S.sub x c q).1;exact⟨v,z.keeps kp⟩
  ·exact⟨none,q⟩
 ·exact I.hok.fresh (zak _)
 ·intro x c hc
  rcases newc x c hc with q | ⟨q,_⟩
  ·exact I.freeC x c (S.sub x c q).1
  ·exact I.hok.fresh (Nat.le_of_succ_le q)
 ·intro p hp;have hp':p∈X.pn++pins:=by simpa [KR] using hp
  obtain⟨a1,a2,a3,a4,a5⟩:=I.pin p hp';refine⟨kp _ _ a1,a2,zas (zaf a1),λhm=>?_,a5⟩
  rcases List.mem_cons.mp (I.YM p.1 hm) with e | hm
  ·exact a3 e
  ·exact a4 hm
 ·exact I.hok.kept kp
 ·show (inner own pick σ).length=(own++free).length;unfold inner;have:free.length=pick.length:=Paired.length S.fnd;simp[this]
def Inv.kgK {pins pins':List (Addr×Obj)}{σ σ':L2.St}{H H':Hp}{s s':Shared}{fp:List Addr}{N:List Str}{pn:List (Addr×Obj)}{h'':Heap}(I:Inv X pins σ H s)(hf:∀b∈fp,wN X pins H b)
 (J:Inv (KR X scope cl N s.heap.objs.size s H fp pn) pins' σ' H' s') (hs:Heap.SameBut s.heap.objs.size s'.heap h''):Inv X pins σ H' { s' with heap:=h'' }:=by
 have nC:∀b o,s.heap.get? b=some o->b≠s.heap.objs.size:=λb o e=>zas (zaf e)
 have u:Un (frs X.stack) fp H H' s.heap h'':=by
  refine⟨λb o e n hb hx=>?_,λb o e n hb hx=>?_,J.base.free,λb o e hx=>?_,J.base.tups,J.base.frzs,J.base.tbls⟩
  ·exact (hs.2 b (nC b o e)).trans (J.base.keep b o e n hb hx)
  ·obtain⟨sl,q⟩:=J.base.slot b o e n hb hx;exact⟨sl,(hs.2 b (nC b o e)).trans q⟩
  ·obtain⟨o',q⟩:=J.base.there b o e hx;exact⟨o',(hs.2 b (nC b o e)).trans q⟩
 have hok:HOk X.prog X.w H' h'':=λb o e=>by
  refine (J.hok b o e).stay (λc v hc q=>(hs.2 c ?_).trans q) (λ_ q=>q) λ_ _ q=>q
  intro z;have hz:H' c=none:=by rw[z];exact J.free
  rcases hc with rfl | hc
  ·rw[hz]at e;cases e
  ·rw[hz]at hc;cases hc
 exact I.keM (s':={ s' with heap:=h'' }) J.os u hok J.bare λb hb=>⟨(hf b hb).2.2.2.1,(hf b hb).2.1,(hf b hb).2.2.2.2.1,(hf b hb).2.2.2.2.2⟩
end
def JD (X:Cx)(ifs:List Expr)(t:TT):Prop :=
 ∀ (pins:List (Addr×Obj)) (s:Shared) (σ:L2.St) (H:Hp) (Q:Bool->Hp->Prop),Inv X pins σ H s->t σ H Q →
  Tst (model X.prog X.w) X.A X.env ifs (TP X pins σ Q) X.xe s
def kef {X:Cx}:JD X [] (λ_ H Q=>Q true H):=λ_ _ _ H _ I h=>⟨H,I,h⟩
def keg {X:Cx}{c:Expr}{t:TT}(h:PT X c t):JD X [c] t:=λpins s σ H Q I q=>h pins s σ H Q I q
def Tst.imp {M:Model}{A:Around}{env:Env}{ifs:List Expr}{Q Q':Bool->Shared->Prop}{E:zEx}{s:Shared}(h:Tst M A env ifs Q E s)(k:∀b s,Q b s->Q' b s):Tst M A env ifs Q' E s:=by
 rcases ifs with _ | ⟨c,_ | ⟨c',r⟩⟩
 ·exact k _ _ h
 ·exact thn h k
 ·exact h
def kiq (a b:L2.St):Prop:=a.length=b.length/\∀ (i:Nat) v,a[i]?=some (some v)->b[i]?=some (some v)
def kas (own:List Str)(pick:List Nat)(wi:TI)(g:TG)(tc:TT)(te:TE):TE:=λσ H Q=>wi σ H λJ H1=>∀p,H1 p=none →
 ∃W:Nat->Nat->List V->Hp->Prop,(∃m,W 0 m [] (upd H1 p (.lst [])))/\∀i m vs H,W i m vs H->H p=some (.lst vs) ∧
  ((J.stop i H/\Q (.ref p) H)∨(J.go i H/\∀x H',J.yld i H x H'->g x (inner own pick σ) H' λσ2 H2=>kiq (inner own pick σ) σ2/\tc σ2 H2 λb H3=>
   if b=true then te σ2 H3 λv H4=>H4 p=some (.lst vs)/\vs.length < sizeLine/\∃m',m' < m/\W (i+1) m' (vs++[v]) (upd H4 p (.lst (vs++[v]))) else ∃m',m' < m/\W (i+1) m' vs H3))
def kdO {X:Cx} {scope:Scope} {cl:List (Str × Addr)} {own free:List Str} {pick:List Nat} {elt tg iter:Expr} {ifs:List Expr} {pos:Pos} {wi:TI} {g:TG} {tc:TT} {te:TE} {pins:List (Addr × Obj)} {s:Shared} {σ:L2.St} {H:Hp} {Q:VK} {Q':Value -> Shared -> Prop}
 (use:Option (Value->Sem Unit)) (S:vK X scope cl own free pick) (hc:X.calm=true) (hi:PI X tg iter wi) (hg:∀X',yt X scope cl (own++free) X'->PG X' tg g) (ht:∀X',yt X scope cl (own++free) X'->JD X' ifs tc)
 (he:∀X',yt X scope cl (own++free) X'->PE X' elt te) (hs:∀x,foldedSetIterable iter X.env x=pure x)
 (last:∀ (C D:Addr) (H':Hp) (s':Shared) (m:Str->Option Value),Q (.ref D) H'->s'.heap.Ns C m->wN X pins H' C->(∀h'',Heap.SameBut C s'.heap h''->Inv X pins σ H' { s' with heap:=h'' })->compPost (model X.prog X.w) X.A X.xe use Q' (.ref D) C (.ok .next) s')
 (I:Inv X pins σ H s) (h:kas own pick wi g tc te σ H Q) (pp:Pos) :
 wpAny (model X.prog X.w) X.A (comprehension (.ListComp elt [⟨tg,iter,ifs,0⟩] scope pos) scope X.env pp (newList []) false (eval iter X.env) use) Q' X.xe s:=by
 refine wpAny_comprehension_free (use:=use) rfl hs S.clos S.kind S.names (thn (hi pins s σ H _ I h) λv s1 h1=>thn h1 λitv s2 h2=>?_);obtain⟨it,fp,tn,J,H2,e,I2,T,st2,f2,h2⟩:=h2;subst e;refine wpAny_newObj_type ?_;obtain⟨W,⟨m0,w0⟩,turn⟩:=h2 s2.heap.objs.size (I2.hok.fresh (zak _))
 have I3:Inv X pins σ (upd H2 s2.heap.objs.size (.lst [])) { s2 with heap:=s2.heap.push { cls:=.type "list",dict:=none,data:=.seq ([]:List Value).toArray } } :=
  I2.kdA (ys:=[]) (its:=[]) (t':=s2.toks) .nil (Nat.zero_le _)
 generalize hD:s2.heap.objs.size=D at *;generalize hs3:({ s2 with heap:=s2.heap.push { cls:=.type "list",dict:=none,data:=.seq ([]:List Value).toArray } }:Shared)=s3 at *
 have lt2:∀b∈fp,b < s2.heap.objs.size:=λb hb=>by
  obtain⟨o,q,_⟩:=T.obj _ _ st2 b hb;exact zaf q
 have keep23:∀b o,s2.heap.get? b=some o->s3.heap.get? b=some o:=λb o q=>by
  rw[<- hs3];exact zac _ q
 have st3:tn 0 s3.heap:=T.keep _ _ _ st2 λb hb o q=>keep23 b o q
 have sz3:s3.heap.objs.size=D+1:=by rw[<- hs3,<- hD];exact Heap.size_push ..
 have neD:∀b∈fp,b≠D:=λb hb=>zas (by rw[<- hD];exact lt2 b hb)
 have lt3:∀b∈fp,b < s3.heap.objs.size:=λb hb=>by
  rw[sz3];exact Nat.lt_succ_of_lt (by rw[<- hD];exact lt2 b hb)
 have f3:∀b∈fp,wN X pins (upd H2 D (.lst [])) b:=λb hb=>⟨by rw[qm (neD b hb)];exact (f2 b hb).1,(f2 b hb).2⟩
 refine UC ?_;have J4:=kdu (t:=s3.toks) S I3 f3 lt3;generalize hX:KR X scope cl (own++free) s3.heap.objs.size s3 (upd H2 D (.lst [])) fp (X.pn++pins)=X' at *;have hX':yt X scope cl (own++free) X':=⟨_,_,_,_,_,hX.symm⟩;have pX:X'.prog=X.prog:=by rw[<- hX];rfl
 have wX:X'.w=X.w:=by rw[<- hX];rfl
 have kX:X'.K=X.K:=by rw[<- hX];rfl
 have aX:X'.A=X.A:=by rw[<- hX];rfl
 have cX:X'.calm=true:=by rw[<- hX];exact hc
 have xX:X'.xe=λ_ _=>False:=by rw[<- hX];rfl
 have eX:X'.env=Qd X scope cl s3.heap.objs.size:=by rw[<- hX];rfl
 have nX:X'.pn=X.pn++pins:=by rw[<- hX];rfl
 have exX:X'.ex=fp:=by rw[<- hX];rfl
 have stat:∀ {H':Hp},(∀b∈fp,H' b=none)->∀b∈fp,wN X' [] H' b:=λhn b hb=>by
  have ok:=J4.ok;refine⟨hn b hb,(ok.exf b (by rw[exX];exact hb)).1,ok.exfs b (by rw[exX];exact hb),.inl (by rw[exX];exact hb),λx c q=>(ok.exf b (by rw[exX];exact hb)).2 x c q,λp hp=>?_⟩;rw[nX,List.append_nil]at hp;exact (f3 b hb).2.2.2.2.2 p hp
 have fin:∀ {pins':List (Addr×Obj)} {σ':L2.St} {H':Hp} {s':Shared},Inv X' pins' σ' H' s'->∀h'',Heap.SameBut s3.heap.objs.size s'.heap h''->Inv X pins σ H' { s' with heap:=h'' }:=λ{pins' σ' H' s'} Jx h'' hs''=>by
  subst hX;exact Inv.kgK I3 f3 Jx hs''
 have main:codeAny (model X.prog X.w) X.A (.compLoop (.ListComp elt [⟨tg,iter,ifs,0⟩] scope pos) 0 (.ref it) (.ref D) (Qd X scope cl s3.heap.objs.size))
     (compPost (model X.prog X.w) X.A X.xe use Q' (.ref D) s3.heap.objs.size)
     { s3 with heap:=pushCells (s3.heap.push { cls:=.type "dict",data:=.dict #[] }) scope.names }:=by
  refine JB (λn s'=>∃i vs H',Inv X' [] (inner own pick σ) H' s'/\tn i s'.heap/\(∀b∈fp,H' b=none)/\W i n vs H') ?_ m0
   ⟨0,[],_,J4,T.keep _ _ _ st3 λb hb o q=>pushCells_keeps _ _ _ _ (zac _ q),λb hb=>(f3 b hb).1,w0⟩
  rintro n s4 ⟨i,vs,H4,I4,st4,fr4,w4⟩;obtain⟨hp,w4⟩:=turn i n vs H4 w4
  rcases w4 with ⟨stop,qn⟩ | ⟨go,step⟩
  ·have z:=T.done X' pX wX kX cX i [] s4 _ H4 (λ_ _=>False) I4 (stat fr4) st4 stop
   rw[aX]at z;refine thn z λr s5 ⟨hr,I5⟩=>?_
   subst hr;obtain⟨m,hn,_⟩:=I5.loc;rw[show X'.env.locals=s3.heap.objs.size by rw[eX];rfl]at hn;have fC:=(I3.K8 (zak _) (I3.hok.fresh (zak _))).2;refine last _ D H4 s5 m qn hn ⟨?_,fC⟩ λh'' hs''=>fin I5 h'' hs''
   have:=I5.free;rw[eX]at this;exact this
  ·have z:=T.item X' pX wX kX cX i [] s4 _ H4 (λ_ _=>False) I4 (stat fr4) st4 go
   rw[aX]at z;refine thn z λr s5 ⟨u,hr,h5⟩=>?_
   subst hr;refine thn h5 λ_ s6 ⟨x,H6,I6,r6,y6,st6,fr6⟩=>?_
   have I6':=I6.pinned (stat fr6) (T.obj _ _ st6);have g6:=hg X' hX' _ s6 _ H6 x u _ I6' r6 (step x H6 y6);rw[pX,wX,aX,xX,eX]at g6;refine thn g6 λ_ s7 ⟨σ7,H7,I7,sub7,q7⟩=>?_
   have t7:=ht X' hX' _ s7 σ7 H7 _ I7 q7;rw[pX,wX,aX,xX,eX]at t7;refine t7.imp λb s8 ⟨H8,I8,q8⟩=>?_
   have hpin:∀ {H9:Hp} {s9:Shared},Inv X' ([]++Xg fp s6.heap) σ7 H9 s9->Inv X' [] (inner own pick σ) H9 s9/\tn (i+1) s9.heap/\∀b∈fp,H9 b=none:=λ{H9 s9} I9=>by
    refine⟨?_,T.keep _ _ _ st6 λb hb o e=>(I9.pin (b,o) (List.mem_append_right _ (List.mem_append_right _ (zl hb e)))).1,λb hb=>?_⟩
    ·exact I9.Vq.weak sub7.1 sub7.2
    ·obtain⟨o,e,d⟩:=T.obj _ _ st6 b hb
     exact (I9.pin (b,o) (List.mem_append_right _ (List.mem_append_right _ (zl hb e)))).2.1
   cases b with
   |false=>
    rw[if_neg Bool.false_ne_true]at q8;obtain⟨m',hm',w8⟩:=q8;rw[if_neg Bool.false_ne_true];obtain⟨a1,a2,a3⟩:=hpin I8;exact⟨m',hm',i+1,vs,H8,a1,a2,a3,w8⟩
   |true=>
    rw[if_pos rfl]at q8;rw[if_pos rfl];have e8:=he X' hX' _ s8 σ7 H8 _ I8 q8;rw[pX,wX,aX,xX,eX]at e8;refine thn e8 λy s9 ⟨v9,H9,I9,r9,hp9,hl9,m',hm',w9⟩=>?_
    have a9:=jK (X:=X') _ s9 σ7 H9 (.ref D) [v9] (.ref D) [y] (λ_ H'=>H'=upd H9 D (.lst (vs++[v9]))) I9 rfl (.cons r9 .nil) ⟨D,vs,v9,rfl,rfl,hp9,hl9,rfl⟩;rw[pX,wX,aX,xX]at a9;refine thn a9 λ_ s10 ⟨_,H10,I10,_,e10⟩=>?_
    subst e10;obtain⟨a1,a2,a3⟩:=hpin I10;exact⟨m',hm',i+1,vs++[v9],_,a1,a2,a3,w9⟩
 have hcx:({ YB scope cl s3.heap.objs.size X.env with scope:=relabel scope X.env }:Env)=Qd X scope cl s3.heap.objs.size:=rfl;refine codeAny_compStart_list main ?_;exact T.self _ 0 _ _ _ (T.keep _ _ _ st3 λb hb o q=>pushCells_keeps _ _ _ _ (zac _ q)) main
def kfK {X:Cx}{scope:Scope}{cl:List (Str×Addr)}{own free:List Str}{pick:List Nat}{elt tg iter:Expr}{ifs:List Expr}{pos:Pos}{wi:TI}{g:TG}{tc:TT}{te:TE}
 (S:vK X scope cl own free pick) (hc:X.calm=true) (hi:PI X tg iter wi) (hg:∀X',yt X scope cl (own++free) X'->PG X' tg g) (ht:∀X',yt X scope cl (own++free) X'->JD X' ifs tc)
 (he:∀X',yt X scope cl (own++free) X'->PE X' elt te) (hs:∀x,foldedSetIterable iter X.env x=pure x:=by intro _;rfl) :
 PE X (.ListComp elt [⟨tg,iter,ifs,0⟩] scope pos) (kas own pick wi g tc te):=by
 intro pins s σ H Q I h;rw[eval_ListComp];exact kdO none S hc hi hg ht he hs (λC D H' s' m q hn _ fin=>⟨m,hn,λh'' hs''=>⟨.ref D,H',fin h'' hs'',rfl,q⟩⟩) I h _
end L3
namespace L3
open PySem PySem.Spec PyProof.Rows L2
open P (D Rs)
def kjs (K:zFr)(a:Addr)(xs:List V):Prop :=
 ∃ (o:Obj) (its:Array Value) (n:Nat),K.lookup a=some o/\o.cls = .type "list" /\ o.dict=none/\o.data = .seq its n/\its.size<=sizeLine/\Vals xs its.toList
def SqF (K:zFr)(H:Hp)(a:Addr)(xs:List V):Prop:=(∃o,H a=some (.frz o (.lst xs)))∨kjs K a xs
def SqF.sq {K:zFr}{H:Hp}{a:Addr}{xs:List V}(h:SqF K H a xs):SqL K H a xs:=h.elim (λq=>.inl (.inr q)) .inr
mutual
def Zu:D->Int
 |.int i=>hashInt i
 |.tup xs=>reduceHash (Builtin.Tuple.tupleHashOf (Vt xs))
 |_=>0
def Vt:List D->List Int
 | []=>[]
 |x::xs=>Zu x::Vt xs
end
def ki5 (x:D×Value×Value):DictEntry:=⟨Zu x.1,x.2.1,x.2.2⟩
def vc (a:Addr)(xs:List (D×Value×Value))(h:Heap):Prop:=∃o es ep,h.get? a=some o/\o.ExactDict/\o.data = .dict es ep/\es.toList=xs.map ki5
structure DOk (a:Addr)(xs:List (D×Value×Value))(ks:List D):Prop where
 sys:(a==sysModules)=false
 len:xs.length<=sizeLine
 keys:xs.map (·.1)=ks
 nd:ks.Nodup
 ok:∀k∈ks,k.tk=true
mutual
def Rep (K:zFr)(B:List Addr)(H:Hp):D->V->Prop
 |.non,v=>v = .non
 |.bl b,v=>v = .bl b
 |.int i,v=>v = .int i
 |.str x,v=>v = .str x
 |.tup ds,v=>∃a vs,v = .ref a/\SqT K H a vs/\kE K B H ds vs
 |.lst ds,v=>∃a vs,v = .ref a/\a∉B/\H a=some (.lst vs)/\kE K B H ds vs
 |.lsf ds,v=>∃a vs,v = .ref a/\SqF K H a vs/\kE K B H ds vs
 |.dic ks vs,v=>∃a xs kv ws,v = .ref a/\a∉B/\H a=some (.ext (vc a xs))/\DOk a xs ks/\Vals kv (xs.map (·.2.1))/\Vals ws (xs.map (·.2.2))/\kE K B H ks kv/\kE K B H vs ws
 |.dil ks vs,v=>∃a kvs,v = .ref a/\a∉B/\H a=some (.dK kvs)/\kvs.map (·.1)=ks.map Sum.inl/\kE K B H vs (kvs.map (·.2))
def kE (K:zFr)(B:List Addr)(H:Hp):List D->List V->Prop
 | [],vs=>vs=[]
 |d::ds,vs=>∃v r,vs=v::r/\Rep K B H d v/\kE K B H ds r
end
def wK (K:zFr)(B:List Addr)(H:Hp):D->V->Prop
 |.lst ds,v=>∃a vs,v = .ref a/\H a=some (.lst vs)/\kE K B H ds vs
 |.dic ks vs,v=>∃a xs kv ws,v = .ref a/\H a=some (.ext (vc a xs))/\DOk a xs ks/\Vals kv (xs.map (·.2.1))/\Vals ws (xs.map (·.2.2))/\kE K B H ks kv/\kE K B H vs ws
 |d,v=>Rep K B H d v
def QF (w:Bool)(K:zFr)(B:List Addr)(H:Hp)(d:D)(v:V):Prop:=match w with
 |false=>Rep K B H d v
 |true=>wK K B H d v
def Kp (B:List Addr)(H H':Hp):Prop:=∀a o,H a=some o->(a∉B∨(∃xs,o = .tup xs)∨∃ob u,o = .frz ob u)->H' a=some o
def Kp.of_same {B:List Addr}{H H':Hp}(h:kB H H'):Kp B H H':=λa o e _=>h a o e
def Kp.refl {B:List Addr}{H:Hp}:Kp B H H:=λ_ _ e _=>e
def kB.upd {H:Hp}{p:Addr}{o:HO}(h:H p=none):kB H (upd H p o):=λb u e=>by rw[qm (qW e h)];exact e
section
variable {K:zFr}{B B':List Addr}{H H':Hp}
def SqT.kp {a:Addr}{xs:List V}(k:Kp B H H')(h:SqT K H a xs):SqT K H' a xs:=by
 rcases h with (h | ⟨o,h⟩) | h
 ·exact .inl (.inl (k _ _ h (.inr (.inl ⟨_,rfl⟩))))
 ·exact .inl (.inr ⟨o,k _ _ h (.inr (.inr ⟨_,_,rfl⟩))⟩)
 ·exact .inr h
def SqF.kp {a:Addr}{xs:List V}(k:Kp B H H')(h:SqF K H a xs):SqF K H' a xs:=by
 rcases h with ⟨o,h⟩ | h
 ·exact .inl ⟨o,k _ _ h (.inr (.inr ⟨_,_,rfl⟩))⟩
 ·exact .inr h
mutual
def Rep.kp (k:Kp B H H'):∀ {d:D} {v:V},Rep K B H d v->Rep K B H' d v
 |.non,_,h=>h
 |.bl _,_,h=>h
 |.int _,_,h=>h
 |.str _,_,h=>h
 |.tup _,_,h=>by
  obtain⟨a,vs,e,q,r⟩:=h;exact⟨a,vs,e,SqT.kp k q,kE.kp k r⟩
 |.lst _,_,h=>by
  obtain⟨a,vs,e,n,q,r⟩:=h;exact⟨a,vs,e,n,k _ _ q (.inl n),kE.kp k r⟩
 |.lsf _,_,h=>by
  obtain⟨a,vs,e,q,r⟩:=h;exact⟨a,vs,e,SqF.kp k q,kE.kp k r⟩
 |.dic _ _,_,h=>by
  obtain⟨a,xs,kv,ws,e,n,q,o,r1,r2,r3,r4⟩:=h;exact⟨a,xs,kv,ws,e,n,k _ _ q (.inl n),o,r1,r2,kE.kp k r3,kE.kp k r4⟩
 |.dil _ _,_,h=>by
  obtain⟨a,kvs,e,n,q,o,r⟩:=h;exact⟨a,kvs,e,n,k _ _ q (.inl n),o,kE.kp k r⟩
def kE.kp (k:Kp B H H'):∀ {ds:List D} {vs:List V},kE K B H ds vs->kE K B H' ds vs
 | [],_,h=>h
 |d::ds,_,h=>by
  obtain⟨v,r,e,q,t⟩:=h;exact⟨v,r,e,Rep.kp k q,kE.kp k t⟩
end
mutual
/-- fewer things are changed -/
def Rep.sub (hs:∀a∈B',a∈B):∀ {d:D} {v:V},Rep K B H d v->Rep K B' H d v
 |.non,_,h=>h
 |.bl _,_,h=>h
 |.int _,_,h=>h
 |.str _,_,h=>h
 |.tup _,_,h=>by
  obtain⟨a,vs,e,q,r⟩:=h;exact⟨a,vs,e,q,kE.sub hs r⟩
 |.lst _,_,h=>by
  obtain⟨a,vs,e,n,q,r⟩:=h;exact⟨a,vs,e,λm=>n (hs a m),q,kE.sub hs r⟩
 |.lsf _,_,h=>by
  obtain⟨a,vs,e,q,r⟩:=h;exact⟨a,vs,e,q,kE.sub hs r⟩
 |.dic _ _,_,h=>by
  obtain⟨a,xs,kv,ws,e,n,q,o,r1,r2,r3,r4⟩:=h;exact⟨a,xs,kv,ws,e,λm=>n (hs a m),q,o,r1,r2,kE.sub hs r3,kE.sub hs r4⟩
 |.dil _ _,_,h=>by
  obtain⟨a,kvs,e,n,q,o,r⟩:=h;exact⟨a,kvs,e,λm=>n (hs a m),q,o,kE.sub hs r⟩
def kE.sub (hs:∀a∈B',a∈B):∀ {ds:List D} {vs:List V},kE K B H ds vs->kE K B' H ds vs
 | [],_,h=>h
 |d::ds,_,h=>by
  obtain⟨v,r,e,q,t⟩:=h;exact⟨v,r,e,Rep.sub hs q,kE.sub hs t⟩
end
mutual
/-- one more is changed: a new one -/
def Rep.more {p:Addr}(hp:H p=none):∀ {d:D} {v:V},Rep K B H d v->Rep K (p::B) H d v
 |.non,_,h=>h
 |.bl _,_,h=>h
 |.int _,_,h=>h
 |.str _,_,h=>h
 |.tup _,_,h=>by
  obtain⟨a,vs,e,q,r⟩:=h;exact⟨a,vs,e,q,kE.more hp r⟩
 |.lst _,_,h=>by
  obtain⟨a,vs,e,n,q,r⟩:=h;refine⟨a,vs,e,λm=>?_,q,kE.more hp r⟩
  rcases List.mem_cons.mp m with e | m
  ·exact qW q hp e
  ·exact n m
 |.lsf _,_,h=>by
  obtain⟨a,vs,e,q,r⟩:=h;exact⟨a,vs,e,q,kE.more hp r⟩
 |.dic _ _,_,h=>by
  obtain⟨a,xs,kv,ws,e,n,q,o,r1,r2,r3,r4⟩:=h;refine⟨a,xs,kv,ws,e,λm=>?_,q,o,r1,r2,kE.more hp r3,kE.more hp r4⟩
  rcases List.mem_cons.mp m with e | m
  ·exact qW q hp e
  ·exact n m
 |.dil _ _,_,h=>by
  obtain⟨a,kvs,e,n,q,o,r⟩:=h;refine⟨a,kvs,e,λm=>?_,q,o,kE.more hp r⟩
  rcases List.mem_cons.mp m with e | m
  ·exact qW q hp e
  ·exact n m
def kE.more {p:Addr}(hp:H p=none):∀ {ds:List D} {vs:List V},kE K B H ds vs->kE K (p::B) H ds vs
 | [],_,h=>h
 |d::ds,_,h=>by
  obtain⟨v,r,e,q,t⟩:=h;exact⟨v,r,e,Rep.more hp q,kE.more hp t⟩
end
def kE.length:∀ {ds:List D} {vs:List V},kE K B H ds vs->vs.length=ds.length
 | [],_,h=>by rw[show _=[] from h];rfl
 |d::ds,_,h=>by
  obtain⟨v,r,e,_,t⟩:=h;rw[e,zam,zam,kE.length t]
def kE.get:∀ {ds:List D} {vs:List V} {i:Nat} {d:D},kE K B H ds vs->ds[i]?=some d->∃v,vs[i]?=some v/\Rep K B H d v
 | [],_,_,_,_,e=>by simp at e
 |d::ds,_,0,_,h,e=>by
  obtain⟨v,r,e',q,t⟩:=h;simp at e;subst e
  exact⟨v,by rw[e'];rfl,q⟩
 |d::ds,_,i+1,d',h,e=>by
  obtain⟨v,r,e',q,t⟩:=h;obtain⟨u,h1,h2⟩:=kE.get (i:=i) t (by simpa using e);exact⟨u,by rw[e'];simpa using h1,h2⟩
def kE.append:∀ {ds es:List D} {vs us:List V},kE K B H ds vs->kE K B H es us->kE K B H (ds++es) (vs++us)
 | [],_,_,_,h,t=>by rw[show _=[] from h];exact t
 |d::ds,_,_,_,h,t=>by
  obtain⟨v,r,e',q,t'⟩:=h;exact⟨v,r++_,by rw[e'];rfl,q,kE.append t' t⟩
def kE.take:∀ {ds:List D} {vs:List V} (n:Nat),kE K B H ds vs->kE K B H (ds.take n) (vs.take n)
 |_,_,0,_=>by simp[kE]
 | [],_,n+1,h=>by rw[show _=[] from h];simp[kE]
 |d::ds,_,n+1,h=>by
  obtain⟨v,r,e',q,t'⟩:=h;rw[e'];exact⟨v,r.take n,rfl,q,kE.take n t'⟩
def kE.drop:∀ {ds:List D} {vs:List V} (n:Nat),kE K B H ds vs->kE K B H (ds.drop n) (vs.drop n)
 |_,_,0,h=>h
 | [],_,n+1,h=>by rw[show _=[] from h];simp[kE]
 |d::ds,_,n+1,h=>by
  obtain⟨v,r,e',q,t'⟩:=h;rw[e'];exact kE.drop n t'
def Rep.top:∀ {d:D} {v:V},Rep K B H d v->wK K B H d v
 |.lst _,_,h=>by
  obtain⟨a,vs,e,n,q,r⟩:=h;exact⟨a,vs,e,q,r⟩
 |.non,_,h=>h
 |.bl _,_,h=>h
 |.int _,_,h=>h
 |.str _,_,h=>h
 |.tup _,_,h=>h
 |.lsf _,_,h=>h
 |.dic _ _,_,h=>by
  obtain⟨a,xs,kv,ws,e,n,q,o,r1,r2,r3,r4⟩:=h;exact⟨a,xs,kv,ws,e,q,o,r1,r2,r3,r4⟩
 |.dil _ _,_,h=>h
def wK.same (k:kB H H'):∀ {d:D} {v:V},wK K B H d v->wK K B H' d v
 |.lst _,_,h=>by
  obtain⟨a,vs,e,q,r⟩:=h;exact⟨a,vs,e,k _ _ q,kE.kp (Kp.of_same k) r⟩
 |.non,_,h=>h
 |.bl _,_,h=>h
 |.int _,_,h=>h
 |.str _,_,h=>h
 |.tup _,_,h=>Rep.kp (d:=.tup _) (Kp.of_same k) h
 |.lsf _,_,h=>Rep.kp (d:=.lsf _) (Kp.of_same k) h
 |.dic _ _,_,h=>by
  obtain⟨a,xs,kv,ws,e,q,o,r1,r2,r3,r4⟩:=h;exact⟨a,xs,kv,ws,e,k _ _ q,o,r1,r2,kE.kp (Kp.of_same k) r3,kE.kp (Kp.of_same k) r4⟩
 |.dil _ _,_,h=>Rep.kp (d:=.dil _ _) (Kp.of_same k) h
def QF.same {w:Bool}(k:kB H H'){d:D}{v:V}(h:QF w K B H d v):QF w K B H' d v:=by
 cases w with
 |false=>exact Rep.kp (Kp.of_same k) h
 |true=>exact wK.same k h
def QF.top {w:Bool}{d:D}{v:V}(h:QF w K B H d v):wK K B H d v:=by
 cases w with
 |false=>exact Rep.top h
 |true=>exact h
end
def yP (K:zFr)(B:List Addr)(H:Hp)(p:Addr):D->Prop
 |.lst ds=>∃vs,H p=some (.lst vs)/\kE K B H ds vs
 |.dic ks vs=>∃xs kv ws,H p=some (.ext (vc p xs))/\DOk p xs ks/\Vals kv (xs.map (·.2.1))/\Vals ws (xs.map (·.2.2))/\kE K B H ks kv/\kE K B H vs ws
 |_=>False
structure kY (K:zFr)(own:List Bool)(A B:List Addr)(env:P.Env)(σ:L2.St)(H:Hp):Prop where
 len:env.length=σ.length
 val:∀ (i:Nat) d,env[i]?=some (some d)->own[i]?≠some true->∃v,σ[i]?=some (some v)/\Rep K B H d v
 owd:∀ (i:Nat) d,env[i]?=some (some d)->own[i]?=some true->∃p,σ[i]?=some (some (.ref p))/\p∈B/\p∉A/\yP K B H p d
 ap:∀ (i j:Nat) d e p,i≠j->own[i]?=some true->own[j]?=some true->env[i]?=some (some d)->env[j]?=some (some e)->σ[i]?=some (some (.ref p))->σ[j]?≠some (some (.ref p))
 bt:∀b∈B,∃o,H b=some o/\Mut (some o)
section
variable {K:zFr}{own:List Bool}{A B:List Addr}{env:P.Env}{σ:L2.St}{H H':Hp}
def yP.same {p:Addr}(k:kB H H'):∀ {d:D},yP K B H p d->yP K B H' p d
 |.lst _,h=>by
  obtain⟨vs,e,r⟩:=h;exact⟨vs,k _ _ e,kE.kp (Kp.of_same k) r⟩
 |.non,h=>h
 |.bl _,h=>h
 |.int _,h=>h
 |.str _,h=>h
 |.tup _,h=>h
 |.lsf _,h=>h
 |.dic _ _,h=>by
  obtain⟨xs,kv,ws,q,o,r1,r2,r3,r4⟩:=h;exact⟨xs,kv,ws,k _ _ q,o,r1,r2,kE.kp (Kp.of_same k) r3,kE.kp (Kp.of_same k) r4⟩
def kY.same (e:kY K own A B env σ H)(k:kB H H'):kY K own A B env σ H' where
 len:=e.len
 val:=λi d h1 h2=>by
  obtain⟨v,a,b⟩:=e.val i d h1 h2;exact⟨v,a,Rep.kp (Kp.of_same k) b⟩
 owd:=λi d h1 h2=>by
  obtain⟨p,a,b,n,c⟩:=e.owd i d h1 h2;exact⟨p,a,b,n,yP.same k c⟩
 ap:=e.ap
 bt:=λb hb=>by
  obtain⟨xs,q,m⟩:=e.bt b hb;exact⟨xs,k _ _ q,m⟩
def kY.new (e:kY K own A B env σ H){p:Addr}(h:H p=none):p∉B:=λhb=>by
 obtain⟨xs,q,_⟩:=e.bt p hb;rw[h]at q;cases q
end
def Pst (w:Bool)(K:zFr)(B:List Addr)(E:Nat->Hp->Prop)(H:Hp)(r:Rs D)(Q:VK):Prop:=match r with
 |.ok d=>∀v H',kB H H'->QF w K B H' d v->Q v H'
 |.exc c=>∀H',kB H H'->E c H'
 |.stuck=>False
def ER (w:Bool)(K:zFr)(own:List Bool)(A:List Addr)(E:Nat->Hp->Prop)(f:P.FE):TE:=λσ H Q=>∃B env,kY K own A B env σ H/\Pst w K B E H (f env) Q
def TR (K:zFr)(own:List Bool)(A:List Addr)(E:Nat->Hp->Prop)(f:P.FT):TT:=λσ H Q=>∃B env,kY K own A B env σ H/\match f env with
 |.ok b=>∀H',kB H H'->Q b H'
 |.exc c=>∀H',kB H H'->E c H'
 |.stuck=>False
def KN (w:Bool)(K:zFr)(B:List Addr)(H:Hp)(ds:List D)(vs:List V):Prop:=Paired (λd v=>QF w K B H d v) ds vs
def KN.reps {K:zFr}{B:List Addr}{H:Hp}:∀ {ds:List D} {vs:List V},KN false K B H ds vs->kE K B H ds vs
 |_,_,.nil=>rfl
 |_,_,.cons h t=>⟨_,_,rfl,h,KN.reps t⟩
def AR (w:Bool)(K:zFr)(own:List Bool)(A:List Addr)(E:Nat->Hp->Prop)(f:P.FA):TA:=λσ H Q=>∃B env,kY K own A B env σ H/\match f env with
 |.ok ds=>∀vs H',kB H H'->KN w K B H' ds vs->Q vs H'
 |.exc c=>∀H',kB H H'->E c H'
 |.stuck=>False
def Snd (X:Cx)(own:List Bool)(A:List Addr)(E:Nat->Hp->Prop)(w:Bool)(e:Expr)(f:P.FE):Prop:=PE X e (ER w X.K own A E f)
def zB (X:Cx)(own:List Bool)(A:List Addr)(E:Nat->Hp->Prop)(e:Expr)(f:P.FT):Prop:=PT X e (TR X.K own A E f)
def Qf (X:Cx)(own:List Bool)(A:List Addr)(E:Nat->Hp->Prop)(w:Bool)(es:List Expr)(f:P.FA):Prop:=PA X es (AR w X.K own A E f)/\∀env ds,f env = .ok ds->ds.length=es.length
def PE.imp {X:Cx}{e:Expr}{t t':TE}(h:PE X e t)(i:∀σ H Q,t' σ H Q->t σ H Q):PE X e t':=λpins s σ H Q I q=>h pins s σ H Q I (i σ H Q q)
def PT.imp {X:Cx}{e:Expr}{t t':TT}(h:PT X e t)(i:∀σ H Q,t' σ H Q->t σ H Q):PT X e t':=λpins s σ H Q I q=>h pins s σ H Q I (i σ H Q q)
def PA.imp {X:Cx}{e:List Expr}{t t':TA}(h:PA X e t)(i:∀σ H Q,t' σ H Q->t σ H Q):PA X e t':=λpos pins s σ H Q I q=>h pos pins s σ H Q I (i σ H Q q)
section
variable {K:zFr}{own:List Bool}{A B:List Addr}{E:Nat->Hp->Prop}{env:P.Env}{σ:L2.St}{H H':Hp}{w w':Bool}{Q Q':VK}
def Pst.same {r:Rs D}(k:kB H H')(h:Pst w K B E H r Q):Pst w K B E H' r Q:=by
 cases r with
 |ok d=>exact λv H2 s q=>h v H2 (k.trans s) q
 |exc c=>exact λH2 s=>h H2 (k.trans s)
 |stuck=>exact h
def Pst.top {r:Rs D}(h:Pst true K B E H r Q):Pst w K B E H r Q:=by
 cases r with
 |ok d=>exact λv H2 s q=>h v H2 s q.top
 |exc c=>exact h
 |stuck=>exact h
def Q7 {fa:P.FE} {α:Type} {k:D -> Rs α} (ok:kY K own A B env σ H) {R:Hp -> Rs α -> Prop} (hk:∀ {r:Rs α} {H1},kB H H1 -> R H r -> R H1 r) (hx:∀ c,R H (.exc c) -> ∀ H',kB H H' -> E c H') (hs:¬ R H .stuck)
 (h:R H (fa env>>=k)) (hq:∀x v H1,fa env = .ok x->kB H H1->kY K own A B env σ H1->QF w K B H1 x v->R H1 (k x)->Q' v H1):ER w K own A E fa σ H Q':=by
 refine⟨B,env,ok,?_⟩
 cases e:fa env with
 |ok x=>
  rw[e]at h;exact λv H1 s q=>hq x v H1 e s (ok.same s) q (hk s h)
 |exc c=>
  rw[e]at h;exact hx c h
 |stuck=>
  rw[e]at h;exact hs h
def vG {fa:P.FE}{k:D->Rs D}(ok:kY K own A B env σ H)(h:Pst w' K B E H (fa env>>=k) Q)
 (hq:∀x v H1,fa env = .ok x->kB H H1->kY K own A B env σ H1->QF w K B H1 x v->Pst w' K B E H1 (k x) Q->Q' v H1):ER w K own A E fa σ H Q' :=
 Q7 (R:=λH r=>Pst w' K B E H r Q) ok (λs h=>h.same s) (λc h=>h) (λh=>h) h hq
end
def szL:sizeLine=kP:=by decide
section
variable {X:Cx}{own:List Bool}{A:List Addr}{E:Nat->Hp->Prop}{w:Bool}{a b c e:Expr}{fa fb fc f:P.FE}{pos:Pos}
def Snd.weak (h:Snd X own A E false e f):Snd X own A E true e f:=PE.imp h λσ H Q ⟨B,env,ok,q⟩=>⟨B,env,ok,q.top⟩
def Snd.any (h:Snd X own A E false e f):Snd X own A E w e f:=by
 cases w with
 |false=>exact h
 |true=>exact h.weak
def kr {i:Nat} {x:Str} (hN:X.N[i]? = some x:=by rfl) (ho:own[i]? ≠ some true:=by decide)
 (hv:Vis X.env.scope x:=by first | exact Or.inl rfl | exact Or.inr (Or.inl rfl) | exact Or.inr (Or.inr rfl)) (hd:(x==("__debug__":Str))=false:=by decide)
 (hcd:(x==("__classdict__":Str))=false:=by decide):Snd X own A E false (.Name x pos) (kj i):=by
 refine PE.imp (xN hN hv hd hcd) λσ H Q ⟨B,env,ok,h⟩=>?_
 unfold kj at h
 cases q:env[i]? with
 |none=>rw[q]at h;exact h.elim
 |some z=>cases z with
  |none=>rw[q]at h;exact h.elim
  |some d=>
   rw[q]at h;obtain⟨v,hv,r⟩:=ok.val i d q ho;exact⟨v,hv,h v H (kB.refl H) r⟩
def ko {i:Nat} {x:Str} (hN:X.N[i]? = some x:=by rfl)
 (hv:Vis X.env.scope x:=by first | exact Or.inl rfl | exact Or.inr (Or.inl rfl) | exact Or.inr (Or.inr rfl)) (hd:(x==("__debug__":Str))=false:=by decide)
 (hcd:(x==("__classdict__":Str))=false:=by decide):Snd X own A E true (.Name x pos) (kj i):=by
 refine PE.imp (xN hN hv hd hcd) λσ H Q ⟨B,env,ok,h⟩=>?_
 unfold kj at h
 cases q:env[i]? with
 |none=>rw[q]at h;exact h.elim
 |some z=>cases z with
  |none=>rw[q]at h;exact h.elim
  |some d=>
   rw[q]at h
   by_cases ho:own[i]?=some true
   ·obtain⟨p,hp,_,_,r⟩:=ok.owd i d q ho
    refine⟨_,hp,h _ H (kB.refl H) ?_⟩
    cases d with
    |lst ds=>
     obtain⟨vs,e,r⟩:=r;exact⟨p,vs,rfl,e,r⟩
    |dic ks vs=>
     obtain⟨xs,kv,ws,q,r⟩:=r;exact⟨p,xs,kv,ws,rfl,q,r⟩
    |_=>exact r.elim
   ·obtain⟨v,hv,r⟩:=ok.val i d q ho
    exact⟨v,hv,h v H (kB.refl H) r.top⟩
def ku {i j}:Snd X own A E w (.Constant (.int i) j pos) (P.cC (.int i)):=Snd.any (PE.imp kcH λ_ H _ ⟨_,_,_,h⟩=>h _ H (kB.refl H) rfl)
def vN {x j}:Snd X own A E w (.Constant (.bool x) j pos) (P.cC (.bl x)):=Snd.any (PE.imp kaA λ_ H _ ⟨_,_,_,h⟩=>h _ H (kB.refl H) rfl)
def vt {j}:Snd X own A E w (.Constant .none j pos) (P.cC .non):=Snd.any (PE.imp khu λ_ H _ ⟨_,_,_,h⟩=>h _ H (kB.refl H) rfl)
def Xx {x j}:Snd X own A E w (.Constant (.str x) j pos) (P.cC (.str x)):=Snd.any (PE.imp kbp λ_ H _ ⟨_,_,_,h⟩=>h _ H (kB.refl H) rfl)
def yo {x:Str}{i:Int}{t:Tok}(hm:X.mg x=some (.int i t))(hg:Gl X x:=by rfl)(hd:(x==("__debug__":Str))=false:=by decide):Snd X own A E w (.Name x pos) (P.cC (.int i)) :=
 Snd.any (PE.imp (Z2 hg hm (v:=.int i) ⟨t,rfl⟩ hd) λ_ H _ ⟨_,_,_,h⟩=>h _ H (kB.refl H) rfl)
def OpS (X:Cx)(f:Value->Value->Sem Value)(g:P.O2):Prop:=(∀x y c,g x y ≠ .exc c) ∧
 OpR X f (λx y H Q=>∃B dx dy d,wK X.K B H dx x/\wK X.K B H dy y/\(∀b∈B,∃o,H b=some o/\Mut (some o))/\g dx dy = .ok d/\∀v H',kB H H'->Rep X.K B H' d v->Q v H')
def Ze {g:P.O2} {r:R2} {σ:L2.St} {H:Hp} {Q:VK} (hne:∀ x y c,g x y ≠ .exc c) (h:ER false X.K own A E (kJ g fa fb) σ H Q)
 (hr:∀B dx dy d x y H2,wK X.K B H2 dx x->wK X.K B H2 dy y->(∀b∈B,∃o,H2 b=some o/\Mut (some o))->g dx dy = .ok d->(∀v H',kB H2 H'->Rep X.K B H' d v->Q v H')->r x y H2 Q) :
 tOp r (ER true X.K own A E fa) (ER true X.K own A E fb) σ H Q:=by
 obtain⟨B,env,ok,h⟩:=h;refine vG ok (show Pst false X.K B E H (fa env>>=λx=>fb env>>=λy=>g x y) Q from h) λx v H1 e1 s1 ok1 r1 h1=>?_
 refine vG ok1 h1 λy u H2 e2 s2 ok2 r2 h2=>?_
 cases q:g x y with
 |ok d=>
  rw[q]at h2;exact hr B x y d v u H2 (r1.same s2) r2 ok2.bt q h2
 |exc c=>exact absurd q (hne x y c)
 |stuck=>rw[q]at h2;exact h2.elim
def kO {op:Operator}{g:P.O2}(ho:OpS X (binaryOp op) g)(ha:Snd X own A E true a fa)(hb:Snd X own A E true b fb):Snd X own A E false (.BinOp a op b pos) (kJ g fa fb) :=
 PE.imp (kio ho.2 ha hb) λ_ _ _ h=>Ze ho.1 h λB dx dy d _ _ _ a1 a2 a3 a4 a5=>⟨B,dx,dy,d,a1,a2,a3,a4,a5⟩
def Ko {op:CmpOp}{g:P.O2}(ho:OpS X (compareOp op) g)(ha:Snd X own A E true a fa)(hb:Snd X own A E true b fb)(hm:behindInMarks op b=false:=by first | exact YY _ | (with_unfolding_all rfl)) :
 Snd X own A E false (.Compare a [op] [b] pos) (kJ g fa fb) :=
 PE.imp (Z4 ho.2 ha hb hm) λ_ _ _ h=>Ze ho.1 h λB dx dy d _ _ _ a1 a2 a3 a4 a5=>⟨B,dx,dy,d,a1,a2,a3,a4,a5⟩
def Boo (g:P.O2):Prop:=∀x y d,g x y = .ok d->∃b,d = .bl b
def qo {op:CmpOp} {g:P.O2} (ho:OpS X (compareOp op) g) (hg:Boo g) (ha:Snd X own A E true a fa) (hb:Snd X own A E true b fb) (hm:behindInMarks op b = false:=by first | exact YY _ | (with_unfolding_all rfl)) :
 zB X own A E (.Compare a [op] [b] pos) (qD (kJ g fa fb)):=by
 refine PT.imp (kfQ ho.2 ha hb hm) λσ H Q ⟨B,env,ok,h⟩=>?_
 refine Ze (E:=E) ho.1 (Q:=λx H'=>∃k,x = .bl k/\Q k H') ⟨B,env,ok,?_⟩ λB dx dy d _ _ _ a1 a2 a3 a4 a5=>⟨B,dx,dy,d,a1,a2,a3,a4,a5⟩
 unfold qD at h
 cases q:kJ g fa fb env with
 |ok d=>
  rw[q]at h
  have hb:∃k,d = .bl k:=by
   obtain⟨x,_,q⟩:=vB (show (fa env>>=λx=>fb env>>=λy=>g x y) = .ok d from q);obtain⟨y,_,q⟩:=vB q;exact hg x y d q
  obtain⟨k,rfl⟩:=hb;intro v H' s r;exact⟨k,r,h H' s⟩
 |exc c=>rw[q]at h;exact h
 |stuck=>rw[q]at h;exact h
def J5 {g g':P.O2} {r r':R2} {σ:L2.St} {H:Hp} {Q:VK} (hne:∀ x y c,g x y ≠ .exc c) (hne':∀ x y c,g' x y ≠ .exc c) (hg:Boo g) (h:ER false X.K own A E (yv g g' fa fb fc) σ H Q)
 (hr:∀B dx dy d x y H2 Q,wK X.K B H2 dx x->wK X.K B H2 dy y->(∀b∈B,∃o,H2 b=some o/\Mut (some o))->g dx dy = .ok d->(∀v H',kB H2 H'->Rep X.K B H' d v->Q v H')->r x y H2 Q)
 (hr':∀B dx dy d x y H2 Q,wK X.K B H2 dx x->wK X.K B H2 dy y->(∀b∈B,∃o,H2 b=some o/\Mut (some o))->g' dx dy = .ok d->(∀v H',kB H2 H'->Rep X.K B H' d v->Q v H')->r' x y H2 Q) :
 JH r r' (ER true X.K own A E fa) (ER true X.K own A E fb) (ER true X.K own A E fc) σ H Q:=by
 obtain⟨B,env,ok,h⟩:=h;refine vG ok (show Pst false X.K B E H (fa env>>=λx=>fb env>>=λy=>g x y>>=λz=>match z with | .bl k=>if k=true then fc env>>=λw=>g' y w else .ok (.bl false) | _=>.stuck) Q from h) λx v H1 e1 s1 ok1 r1 h1=>?_
 refine vG ok1 h1 λy u H2 e2 s2 ok2 r2 h2=>?_
 cases q:g x y with
 |ok d=>
  rw[q]at h2;obtain⟨k,rfl⟩:=hg x y d q;refine hr B x y _ v u H2 _ (r1.same s2) r2 ok2.bt q λz H3 s3 r3=>⟨k,r3,?_⟩
  have h3:Pst false X.K B E H3 (if k=true then fc env>>=λw=>g' y w else .ok (.bl false)) Q:=Pst.same s3 h2
  cases k with
  |true=>
   rw[if_pos rfl]at h3 ⊢;refine vG (ok2.same s3) h3 λz' u' H4 e4 s4 ok4 r4 h4=>?_
   cases q':g' y z' with
   |ok d'=>
    rw[q']at h4;exact hr' B y z' d' u u' H4 Q (r2.same (s3.trans s4)) r4 ok4.bt q' h4
   |exc c=>exact absurd q' (hne' _ _ c)
   |stuck=>rw[q']at h4;exact h4.elim
  |false=>
   rw[if_neg Bool.false_ne_true]at h3 ⊢;exact h3 _ H3 (kB.refl _) rfl
 |exc c=>exact absurd q (hne x y c)
 |stuck=>rw[q]at h2;exact h2.elim
def kbF {op op':CmpOp}{g g':P.O2}(ho:OpS X (compareOp op) g)(ho':OpS X (compareOp op') g')(hg:Boo g)(ha:Snd X own A E true a fa)(hb:Snd X own A E true b fb)(hc:Snd X own A E true c fc)
 (hm:lastMarks [op,op'] [b,c]=false:=by with_unfolding_all rfl):Snd X own A E false (.Compare a [op,op'] [b,c] pos) (yv g g' fa fb fc) :=
 PE.imp (kc2 ho.2 ho'.2 ha hb hc hm) λ_ _ _ h=>J5 ho.1 ho'.1 hg h (λB dx dy d _ _ _ _ a1 a2 a3 a4 a5=>⟨B,dx,dy,d,a1,a2,a3,a4,a5⟩) λB dx dy d _ _ _ _ a1 a2 a3 a4 a5=>⟨B,dx,dy,d,a1,a2,a3,a4,a5⟩
def kbP {g g':P.O2}(hg':Boo g'){env:P.Env}{d:D}(h:yv g g' fa fb fc env = .ok d):∃b,d = .bl b:=by
 obtain⟨x,_,q⟩:=vB (show (fa env>>=λx=>fb env>>=λy=>g x y>>=λz=>match z with | .bl k=>if k=true then fc env>>=λw=>g' y w else .ok (.bl false) | _=>.stuck) = .ok d from h);obtain⟨y,_,q⟩:=vB q;obtain⟨z,_,q⟩:=vB q
 cases z with
 |bl k=>
  cases k with
  |true=>
   obtain⟨w,_,q⟩:=vB (show (fc env>>=λw=>g' y w) = .ok d from q);exact hg' _ _ _ q
  |false=>
   cases q;exact⟨_,rfl⟩
 |_=>cases q
def Wm {op op':CmpOp} {g g':P.O2} (ho:OpS X (compareOp op) g) (ho':OpS X (compareOp op') g') (hg:Boo g) (hg':Boo g') (ha:Snd X own A E true a fa) (hb:Snd X own A E true b fb) (hc:Snd X own A E true c fc)
 (hm:lastMarks [op,op'] [b,c]=false:=by with_unfolding_all rfl):zB X own A E (.Compare a [op,op'] [b,c] pos) (qD (yv g g' fa fb fc)):=by
 refine PT.imp (keb ho.2 ho'.2 ha hb hc hm) λσ H Q ⟨B,env,ok,h⟩=>?_
 refine J5 (E:=E) ho.1 ho'.1 hg (Q:=λx H'=>∃k,x = .bl k/\Q k H') ⟨B,env,ok,?_⟩ (λB dx dy d _ _ _ _ a1 a2 a3 a4 a5=>⟨B,dx,dy,d,a1,a2,a3,a4,a5⟩) λB dx dy d _ _ _ _ a1 a2 a3 a4 a5=>⟨B,dx,dy,d,a1,a2,a3,a4,a5⟩
 unfold qD at h
 cases q:yv g g' fa fb fc env with
 |ok d=>
  rw[q]at h;obtain⟨k,rfl⟩:=kbP hg' q;intro v H' s r;exact⟨k,r,h H' s⟩
 |exc c=>rw[q]at h;exact h
 |stuck=>rw[q]at h;exact h
def UnS (X:Cx)(f:Value->Sem Value)(g:P.O1):Prop:=(∀x c,g x ≠ .exc c) ∧
 UnR X f (λx H Q=>∃B dx d,wK X.K B H dx x/\(∀b∈B,∃o,H b=some o/\Mut (some o))/\g dx = .ok d/\∀v H',kB H H'->Rep X.K B H' d v->Q v H')
def Xk {op:UnaryOp}{g:P.O1}(ho:UnS X (unaryOp op) g)(ha:Snd X own A E true a fa):Snd X own A E false (.UnaryOp op a pos) (P.cUn g fa):=by
 refine PE.imp (kia ho.2 ha) λσ H Q ⟨B,env,ok,h⟩=>?_
 refine vG ok (show Pst false X.K B E H (fa env>>=λx=>g x) Q from h) λx v H1 e1 s1 ok1 r1 h1=>?_
 cases q:g x with
 |ok d=>rw[q]at h1;exact⟨B,x,d,r1,ok1.bt,q,h1⟩
 |exc c=>exact absurd q (ho.1 x c)
 |stuck=>rw[q]at h1;exact h1.elim
def XD {K:zFr}{B:List Addr}{H:Hp}{d:D}{v:V}(r:wK K B H d v):decide (v=V.non)=d.isN:=by
 cases d with
 |non=>rw[show v = .non from r];rfl
 |bl k=>rw[show v = .bl k from r];rfl
 |int k=>rw[show v = .int k from r];rfl
 |str k=>rw[show v = .str k from r];rfl
 |tup k=>obtain⟨p,vs,e,_⟩:=r;rw[e];rfl
 |lst k=>obtain⟨p,vs,e,_⟩:=r;rw[e];rfl
 |lsf k=>obtain⟨p,vs,e,_⟩:=r;rw[e];rfl
 |dic k l=>obtain⟨p,xs,kv,ws,e,_⟩:=r;rw[e];rfl
 |dil k l=>obtain⟨p,kvs,e,_⟩:=r;rw[e];rfl
def kfW {j pos'}(ha:Snd X own A E true a fa):Snd X own A E false (.Compare a [.Is] [.Constant .none j pos'] pos) (P.cUn X5 fa):=by
 refine PE.imp (kbG (kcw ha)) λσ H Q ⟨B,env,ok,h⟩=>?_
 refine vG ok (show Pst false X.K B E H (fa env>>=λx=>X5 x) Q from h) λx v H1 e1 s1 ok1 r1 h1=>?_
 rw[XD r1];exact h1 _ H1 (kB.refl _) rfl
def kc0 {j pos'}(ha:Snd X own A E true a fa):Snd X own A E false (.Compare a [.IsNot] [.Constant .none j pos'] pos) (P.cUn VN fa):=by
 refine PE.imp (kbG (UM ha)) λσ H Q ⟨B,env,ok,h⟩=>?_
 refine vG ok (show Pst false X.K B E H (fa env>>=λx=>VN x) Q from h) λx v H1 e1 s1 ok1 r1 h1=>?_
 rw[XD r1];exact h1 _ H1 (kB.refl _) rfl
def kbZ {g:P.O1}{σ:L2.St}{H:Hp}{Q:Bool->Hp->Prop}(hg:∀x d,g x = .ok d->∃b,d = .bl b)(h:TR X.K own A E (qD (P.cUn g fa)) σ H Q):ER false X.K own A E (P.cUn g fa) σ H λx H1=>∃c,x = .bl c/\Q c H1:=by
 obtain⟨B,env,ok,h⟩:=h;refine⟨B,env,ok,?_⟩;unfold qD at h
 cases q:P.cUn g fa env with
 |ok d=>
  rw[q]at h
  have hb:∃k,d = .bl k:=by
   obtain⟨x,_,q⟩:=vB (show (fa env>>=λx=>g x) = .ok d from q);exact hg x d q
  obtain⟨k,rfl⟩:=hb;intro v H' s r;exact⟨k,r,h H' s⟩
 |exc c=>rw[q]at h;exact h
 |stuck=>rw[q]at h;exact h
def kds {j pos'}(ha:Snd X own A E true a fa):zB X own A E (.Compare a [.Is] [.Constant .none j pos'] pos) (qD (P.cUn X5 fa)):=by
 refine PT.imp (kcs (kcw ha)) λσ H Q h=>?_
 obtain⟨B,env,ok,h⟩:=kbZ (λx d q=>by cases q;exact⟨_,rfl⟩) h;refine vG ok (show Pst false X.K B E H (fa env>>=λx=>X5 x) _ from h) λx v H1 e1 s1 ok1 r1 h1=>?_
 obtain⟨c,e,q⟩:=h1 _ H1 (kB.refl _) rfl;rw[XD r1];exact⟨c,e,q⟩
def jo {j pos'}(ha:Snd X own A E true a fa):zB X own A E (.Compare a [.IsNot] [.Constant .none j pos'] pos) (qD (P.cUn VN fa)):=by
 refine PT.imp (kcs (UM ha)) λσ H Q h=>?_
 obtain⟨B,env,ok,h⟩:=kbZ (λx d q=>by cases q;exact⟨_,rfl⟩) h;refine vG ok (show Pst false X.K B E H (fa env>>=λx=>VN x) _ from h) λx v H1 e1 s1 ok1 r1 h1=>?_
 obtain⟨c,e,q⟩:=h1 _ H1 (kB.refl _) rfl;rw[XD r1];exact⟨c,e,q⟩
def ZK {op}(h:Snd X own A E w a fa):Snd X own A E w (.BoolOp op [a] pos) fa:=kcp h
def snd_and {rest:List Expr}(ha:Snd X own A E false a fa)(hb:Snd X own A E w (.BoolOp .And (b::rest) pos) fb):Snd X own A E w (.BoolOp .And (a::b::rest) pos) (ZN fa fb):=by
 refine PE.imp (ue ha hb) λσ H Q ⟨B,env,ok,h⟩=>?_
 refine vG ok (show Pst w X.K B E H (fa env>>=λx=>match x with | .bl c=>if c=true then fb env else .ok (.bl false) | _=>.stuck) Q from h) λx v H1 e1 s1 ok1 r1 h1=>?_
 cases x with
 |bl k=>
  refine⟨k,r1,?_⟩
  cases k with
  |true=>rw[if_pos rfl];exact⟨B,env,ok1,h1⟩
  |false=>rw[if_neg Bool.false_ne_true];exact h1 _ H1 (kB.refl _) (by cases w <;> rfl)
 |_=>exact h1.elim
def kgI {rest:List Expr}(ha:Snd X own A E false a fa)(hb:Snd X own A E w (.BoolOp .Or (b::rest) pos) fb):Snd X own A E w (.BoolOp .Or (a::b::rest) pos) (P.cOr fa fb):=by
 refine PE.imp (kij ha hb) λσ H Q ⟨B,env,ok,h⟩=>?_
 refine vG ok (show Pst w X.K B E H (fa env>>=λx=>match x with | .bl c=>if c=true then .ok (.bl true) else fb env | _=>.stuck) Q from h) λx v H1 e1 s1 ok1 r1 h1=>?_
 cases x with
 |bl k=>
  refine⟨k,r1,?_⟩
  cases k with
  |true=>rw[if_pos rfl];exact h1 _ H1 (kB.refl _) (by cases w <;> rfl)
  |false=>rw[if_neg Bool.false_ne_true];exact⟨B,env,ok1,h1⟩
 |_=>exact h1.elim
def yF (X:Cx)(own:List Bool)(A:List Addr)(E:Nat->Hp->Prop)(e:Expr)(f:P.FT):Prop:=PW X e (TR X.K own A E f)
variable {ft ft':P.FT}
def yF.t (h:yF X own A E e ft):zB X own A E e ft:=PW.pt h
def PW.imp {X:Cx}{e:Expr}{t t':TT}(h:PW X e t)(i:∀σ H Q,t' σ H Q->t σ H Q):PW X e t':=λwhole pins s σ H Q I q=>h whole pins s σ H Q I (i σ H Q q)
def ZU {α:Type} {B:List Addr} {env:P.Env} {σ:L2.St} {H:Hp} {k:Bool -> Rs Bool} {Q Q':Bool -> Hp -> Prop} (ok:kY X.K own A B env σ H)
 (h:match ft env>>=k with | .ok b=>∀H',kB H H'->Q b H' | .exc c=>∀H',kB H H'->E c H' | .stuck=>False)
 (hq:∀c H1,ft env = .ok c->kB H H1->kY X.K own A B env σ H1->(match k c with | .ok b=>∀H',kB H1 H'->Q b H' | .exc c=>∀H',kB H1 H'->E c H' | .stuck=>False)->Q' c H1):TR X.K own A E ft σ H Q':=by
 refine⟨B,env,ok,?_⟩
 cases e:ft env with
 |ok x=>
  rw[e]at h;refine λH1 s=>hq x H1 e s (ok.same s) ?_
  have h:match k x with | .ok b=>∀H',kB H H'->Q b H' | .exc c=>∀H',kB H H'->E c H' | .stuck=>False:=h
  cases q:k x with
  |ok b=>rw[q]at h;exact λH2 s2=>h H2 (s.trans s2)
  |exc c=>rw[q]at h;exact λH2 s2=>h H2 (s.trans s2)
  |stuck=>rw[q]at h;exact h
 |exc c=>rw[e]at h;exact h
 |stuck=>rw[e]at h;exact h
def jr (ha:zB X own A E a ft):yF X own A E (.BoolOp .And [a] pos) ft:=pw_and1 ha
def yS (ha:zB X own A E a ft):yF X own A E (.BoolOp .Or [a] pos) ft:=pw_or1 ha
def uu {rest:List Expr}(ha:zB X own A E a ft)(hb:yF X own A E (.BoolOp .And (b::rest) pos) ft'):yF X own A E (.BoolOp .And (a::b::rest) pos) (Ws ft ft'):=by
 refine PW.imp (pw_and ha hb) λσ H Q ⟨B,env,ok,h⟩=>?_
 refine ZU (α:=Unit) (k:=λc=>if c=true then ft' env else .ok false) ok h λc H1 e1 s1 ok1 h1=>?_
 cases c with
 |true=>rw[if_pos rfl]at h1 ⊢;exact⟨B,env,ok1,h1⟩
 |false=>rw[if_neg Bool.false_ne_true]at h1 ⊢;exact h1 H1 (kB.refl _)
def zd {rest:List Expr}(ha:zB X own A E a ft)(hb:yF X own A E (.BoolOp .Or (b::rest) pos) ft'):yF X own A E (.BoolOp .Or (a::b::rest) pos) (zA ft ft'):=by
 refine PW.imp (pw_or ha hb) λσ H Q ⟨B,env,ok,h⟩=>?_
 refine ZU (α:=Unit) (k:=λc=>if c=true then .ok true else ft' env) ok h λc H1 e1 s1 ok1 h1=>?_
 cases c with
 |true=>rw[if_pos rfl]at h1 ⊢;exact h1 H1 (kB.refl _)
 |false=>rw[if_neg Bool.false_ne_true]at h1 ⊢;exact⟨B,env,ok1,h1⟩
def qB (ha:zB X own A E a ft):zB X own A E (.UnaryOp .Not a pos) (qQ ft):=by
 refine PT.imp (khF ha) λσ H Q ⟨B,env,ok,h⟩=>?_
 exact ZU (α:=Unit) (k:=λc=>.ok (!c)) ok h λc H1 e1 s1 ok1 h1=>h1 H1 (kB.refl _)
def kg1 {K:zFr}{B:List Addr}{H:Hp}{d:D}{v:V}{k:Bool}(r:wK K B H d v)(h:d.W2 = .ok k):kep K v H k:=by
 cases d with
 |non=>rw[show v = .non from r];cases h;rfl
 |bl b=>rw[show v = .bl b from r];cases h;rfl
 |int i=>rw[show v = .int i from r];cases h;rfl
 |str x=>
  rw[show v = .str x from r];have h:(if x.length<=kP then Rs.ok ((x.length:Int) != 0) else .stuck) = .ok k:=h
  by_cases hl:x.length<=kP
  ·rw[if_pos hl]at h
   cases h;exact⟨by rw[szL];exact hl,rfl⟩
  ·rw[if_neg hl]at h
   cases h
 |tup ds=>
  obtain⟨p,vs,e,q,r⟩:=r;rw[e];cases h;refine .inr (.inl ⟨vs,q,?_⟩);have:=r.length
  cases vs <;> cases ds <;> simp at this <;> rfl
 |lst ds=>
  obtain⟨p,vs,e,q,r⟩:=r;rw[e];cases h;refine .inl ⟨vs,SqL.of q,?_⟩;have:=r.length
  cases vs <;> cases ds <;> simp at this <;> rfl
 |lsf ds=>
  obtain⟨p,vs,e,q,r⟩:=r;rw[e];cases h;refine .inl ⟨vs,q.sq,?_⟩;have:=r.length
  cases vs <;> cases ds <;> simp at this <;> rfl
 |dic ks vs=>cases h
 |dil ks vs=>cases h
def qA (ha:Snd X own A E true a fa)(he:∀whole,isTrue a X.env whole=(do let v ← whole;standAt a.pos;holding [v] (truthy v)):=by intro _;rfl):zB X own A E a (vF fa):=by
 refine PT.imp (kdH ha he) λσ H Q ⟨B,env,ok,h⟩=>?_
 refine Q7 (E:=E) (R:=λH (r:Rs Bool)=>match r with | .ok b=>∀H',kB H H'->Q b H' | .exc c=>∀H',kB H H'->E c H' | .stuck=>False) ok (λ{r H1} s h=>?_) (λc h=>h) (λh=>h)
  (show (match fa env>>=λx=>x.W2 with | .ok b=>∀H',kB H H'->Q b H' | .exc c=>∀H',kB H H'->E c H' | .stuck=>False) from h) λx v H1 e1 s1 ok1 r1 h1=>?_
 ·cases r with
  |ok b=>exact λH2 s2=>h H2 (s.trans s2)
  |exc c=>exact λH2 s2=>h H2 (s.trans s2)
  |stuck=>exact h
 ·cases q:x.W2 with
  |ok k=>
   rw[q]at h1;exact⟨k,kg1 r1 q,h1 H1 (kB.refl _)⟩
  |exc c=>
   exfalso
   cases x with
   |str x=>
    have q:(if x.length<=kP then Rs.ok ((x.length:Int) != 0) else .stuck) = .exc c:=q
    by_cases hl:x.length<=kP
    ·rw[if_pos hl]at q;cases q
    ·rw[if_neg hl]at q;cases q
   |_=>cases q
  |stuck=>rw[q]at h1;exact h1.elim
def kbM (hc:zB X own A E c ft)(ha:Snd X own A E w a fa)(hb:Snd X own A E w b fb):Snd X own A E w (.IfExp c a b pos) (P.cIf ft fa fb):=by
 refine PE.imp (kdF hc ha hb) λσ H Q ⟨B,env,ok,h⟩=>?_
 refine⟨B,env,ok,?_⟩;unfold P.cIf at h
 cases e:ft env with
 |ok k=>
  rw[e]at h;intro H1 s;have h:Pst w X.K B E H1 (if k=true then fa env else fb env) Q:=Pst.same s h
  cases k with
  |true=>rw[if_pos rfl]at h ⊢;exact⟨B,env,ok.same s,h⟩
  |false=>rw[if_neg Bool.false_ne_true]at h ⊢;exact⟨B,env,ok.same s,h⟩
 |exc c=>rw[e]at h;exact h
 |stuck=>rw[e]at h;exact h
variable {es:List Expr}{fr:P.FA}
def ki:Qf X own A E w [] kD:=⟨PA.imp vS λσ H Q ⟨B,env,ok,h⟩=>h _ H (kB.refl _) .nil,λenv ds h=>by cases h;rfl⟩
def kg (ha:Snd X own A E w e fa)(hr:Qf X own A E w es fr)(hs:starEach (e::es) X.env=(false,eval e X.env)::starEach es X.env:=by rfl):Qf X own A E w (e::es) (kh fa fr):=by
 refine⟨PA.imp (qE ha hr.1 hs) λσ H Q ⟨B,env,ok,h⟩=>?_,λenv ds h=>?_⟩
 · refine Q7 (E:=E) (R:=fun H (r:Rs (List D)) => match r with | .ok ds => ∀ vs H',kB H H' -> KN w X.K B H' ds vs -> Q vs H' | .exc c => ∀ H',kB H H' -> E c H' | .stuck => False) ok (fun {r H1} s h => ?_) (fun c h => h) (fun h => h)
     (show (match fa env>>=λx=>fr env>>=λxs=>Rs.ok (x::xs) with | .ok ds=>∀vs H',kB H H'->KN w X.K B H' ds vs->Q vs H' | .exc c=>∀H',kB H H'->E c H' | .stuck=>False) from h) λx v H1 e1 s1 ok1 r1 h1=>?_
   ·cases r with
    |ok b=>exact λvs H2 s2 q=>h vs H2 (s.trans s2) q
    |exc c=>exact λH2 s2=>h H2 (s.trans s2)
    |stuck=>exact h
   ·refine⟨B,env,ok1,?_⟩
    cases q:fr env with
    |ok ds=>
     rw[q]at h1;exact λvs H2 s2 r2=>h1 _ H2 s2 (.cons (r1.same s2) r2)
    |exc c=>rw[q]at h1;exact h1
    |stuck=>rw[q]at h1;exact h1
 ·obtain⟨x,_,h⟩:=vB (show (fa env>>=λx=>fr env>>=λxs=>Rs.ok (x::xs)) = .ok ds from h)
  obtain⟨xs,h2,h⟩:=vB h;cases h;rw[zam,zam,hr.2 env xs h2]
def Q8 {B:List Addr} {env:P.Env} {σ:L2.St} {H:Hp} {k:List D -> Rs D} {Q:VK} {Q':List V -> Hp -> Prop} {w':Bool} (ok:kY X.K own A B env σ H) (h:Pst w' X.K B E H (fr env >>= k) Q)
 (hq:∀ds vs H1,fr env = .ok ds->kB H H1->kY X.K own A B env σ H1->KN w X.K B H1 ds vs->Pst w' X.K B E H1 (k ds) Q->Q' vs H1):AR w X.K own A E fr σ H Q':=by
 refine⟨B,env,ok,?_⟩
 cases e:fr env with
 |ok x=>
  rw[e]at h;exact λvs H1 s r=>hq x vs H1 e s (ok.same s) r (Pst.same s h)
 |exc c=>rw[e]at h;exact h
 |stuck=>rw[e]at h;exact h
def vq {x1}(h:Qf X own A E false es fr):Snd X own A E w (.Tuple es x1 pos) (wV fr):=by
 refine Snd.any (PE.imp (kha h.1) λσ H Q ⟨B,env,ok,h⟩=>?_);refine Q8 ok (show Pst false X.K B E H (fr env>>=λxs=>if xs.length<=kP then .ok (.tup xs) else .stuck) Q from h) λds vs H1 e1 s1 ok1 r1 h1=>?_
 have hr:=r1.reps;split at h1
 ·rename_i hl;refine⟨by rw[szL,hr.length];exact hl,λp hp=>h1 _ _ (kB.upd hp) ⟨p,vs,rfl,SqT.of k9,kE.kp (Kp.of_same (kB.upd hp)) hr⟩⟩
 ·exact h1.elim
def FrL (K:zFr)(B:List Addr)(H H':Hp)(d:D)(v:V):Prop:=∃p,v = .ref p/\H p=none/\yP K (p::B) H' p d
def FrL.rep {K:zFr}{B:List Addr}{H H':Hp}{d:D}{v:V}(h:FrL K B H H' d v)(hn:∀p,H p=none->p∉B):Rep K B H' d v:=by
 obtain⟨p,rfl,hp,r⟩:=h;have sb:∀a∈B,a∈p::B:=λa ha=>zah _ ha
 cases d with
 |lst ds=>
  obtain⟨vs,e,r⟩:=r;exact⟨p,vs,rfl,hn p hp,e,kE.sub sb r⟩
 |dic ks vs=>
  obtain⟨xs,kv,ws,q,o,r1,r2,r3,r4⟩:=r;exact⟨p,xs,kv,ws,rfl,hn p hp,q,o,r1,r2,kE.sub sb r3,kE.sub sb r4⟩
 |_=>exact r.elim
def EF (K:zFr)(own:List Bool)(A:List Addr)(E:Nat->Hp->Prop)(f:P.FE):TE:=λσ H Q=>∃B env,kY K own A B env σ H/\match f env with
 |.ok d=>∀v H',kB H H'->FrL K B H H' d v->Q v H'
 |.exc c=>∀H',kB H H'->E c H'
 |.stuck=>False
def qF (X:Cx)(own:List Bool)(A:List Addr)(E:Nat->Hp->Prop)(e:Expr)(f:P.FE):Prop:=PE X e (EF X.K own A E f)
def qF.s (h:qF X own A E e f):Snd X own A E w e f:=by
 refine Snd.any (PE.imp h λσ H Q ⟨B,env,ok,q⟩=>⟨B,env,ok,?_⟩)
 cases e:f env with
 |ok d=>
  rw[e]at q;intro v H' s r;exact q _ H' s (r.rep λp hp=>ok.new hp)
 |exc c=>rw[e]at q;exact q
 |stuck=>rw[e]at q;exact q
def k6 (h:Qf X own A E false es fr):qF X own A E (.List es pos) (qO fr):=by
 refine PE.imp (YR h.1) λσ H Q ⟨B,env,ok,h⟩=>?_
 refine⟨B,env,ok,?_⟩;unfold qO at h
 cases q:fr env with
 |ok ds=>
  rw[q]at h;intro vs H1 s1 r1;have hr:=r1.reps
  by_cases hl:ds.length<=kP
  · have h:∀ v H',kB H H' -> FrL X.K B H H' (.lst ds) v -> Q v H':=by
      have h:(match (if ds.length<=kP then Rs.ok (D.lst ds) else .stuck) with | .ok d=>∀v H',kB H H'->FrL X.K B H H' d v->Q v H' | .exc c=>∀H',kB H H'->E c H' | .stuck=>False):=h;rw[if_pos hl]at h;exact h
    refine⟨by rw[szL,hr.length];exact hl,λp hp=>h _ _ (s1.trans (kB.upd hp)) ⟨p,rfl,s1.free hp,vs,k9,?_⟩⟩;exact kE.kp (Kp.of_same (kB.upd hp)) (kE.more hp hr)
  ·have h:(match (if ds.length<=kP then Rs.ok (D.lst ds) else .stuck) with | .ok d=>∀v H',kB H H'->FrL X.K B H H' d v->Q v H' | .exc c=>∀H',kB H H'->E c H' | .stuck=>False):=h
   rw[if_neg hl]at h;exact h.elim
 |exc c=>rw[q]at h;exact h
 |stuck=>rw[q]at h;exact h
def spP (K:zFr)(cls:Nat->Value)(n:Nat)(m:P.Fn):Sp:=λvs H Q E=>vs.length=n/\∃A ds,kE K A H ds vs/\(∀b∈A,∃o,H b=some o/\Mut (some o))/\match m ds with
 |.ok d=>∀v H',kB H H'->Rep K A H' d v->Q v H'
 |.exc c=>∀H',kB H H'->E (cls c) none H'
 |.stuck=>False
def yb (cls:Nat->Value)(E:Nat->Hp->Prop):XK:=λcv _ H=>∃c,cv=cls c/\E c H
def uy {CX:CXT}{cls:Nat->Value}{k:Nat}{g:Addr}{fd:FuncData}{ps:List Str}{n:Nat}{m:P.Fn}{x:Str}{p:Pos}(F:wg X.prog X.w X.K X.mg X.base CX k g fd ps (spP X.K cls n m))(hr:qU k X.A)
 (hm:X.mg x=some (.ref g)) (hk:PySem.W.keepIn X.K (.ref g)=true) (hb:Binds X.K fd ps []) (hx:Passes CX X (yb cls E)) (ha:Qf X own A E false (e::es) fr) (hn:(e::es).length=n:=by rfl)
 (hg:Gl X x:=by rfl) (hdb:(x==("__debug__":Str))=false:=by decide) (he:starEach (e::es) X.env=(false,eval e X.env)::starEach es X.env:=by rfl) (hpl:(backTo pos (starEach es X.env)).any (·.1)=false:=by rfl) :
 Snd X own A E w (.Call (.Name x p) (e::es) [] pos) (kF m fr):=by
 refine Snd.any (PE.imp (kfr F hr hg hm hk hb .nil hx ha.1 hdb he hpl) λσ H Q ⟨B,env,ok,h⟩=>?_);refine Q8 ok (show Pst false X.K B E H (fr env>>=λxs=>m xs) Q from h) λds vs H1 e1 s1 ok1 r1 h1=>?_
 have hr:=r1.reps;rw[List.append_nil];refine⟨by rw[hr.length,ha.2 env ds e1];exact hn,B,ds,hr,ok1.bt,?_⟩
 cases q:m ds with
 |ok d=>rw[q]at h1;exact h1
 |exc c=>rw[q]at h1;exact λH2 s2=>⟨c,rfl,h1 H2 s2⟩
 |stuck=>rw[q]at h1;exact h1
def Q3 (X:Cx)(f:Value)(g:P.Fn):Prop:=(∀ds c,g ds ≠ .exc c) ∧
 Kv X f (λvs H Q=>∃B ds d,KN true X.K B H ds vs/\(∀b∈B,∃o,H b=some o/\Mut (some o))/\g ds = .ok d/\∀v H',kB H H'->Rep X.K B H' d v->Q v H')
def keF {g:P.Fn}{r:List V->Hp->VK->Prop}{σ:L2.St}{H:Hp}{Q:VK}(hne:∀ds c,g ds ≠ .exc c)(h:ER false X.K own A E (kF g fr) σ H Q)
 (hr:∀B ds d vs H2,KN true X.K B H2 ds vs->(∀b∈B,∃o,H2 b=some o/\Mut (some o))->g ds = .ok d->(∀v H',kB H2 H'->Rep X.K B H' d v->Q v H')->r vs H2 Q) :
 tCB r (AR true X.K own A E fr) σ H Q:=by
 obtain⟨B,env,ok,h⟩:=h;refine Q8 ok (show Pst false X.K B E H (fr env>>=λxs=>g xs) Q from h) λds vs H1 e1 s1 ok1 r1 h1=>?_
 cases q:g ds with
 |ok d=>rw[q]at h1;exact hr B ds d vs H1 r1 ok1.bt q h1
 |exc c=>exact absurd q (hne ds c)
 |stuck=>rw[q]at h1;exact h1.elim
def qj {id:String}{g:P.Fn}{x:Str}{p:Pos}(hc:Q3 X (.builtin id) g)(hm:X.mg x=none)(hv:bootBuiltins x=some (.builtin id))(ha:Qf X own A E true (e::es) fr)(hg:Gl X x:=by rfl)
 (hn:x ≠ "__name__":=by decide) (hdb:(x==("__debug__":Str))=false:=by decide) (he:starEach (e::es) X.env=(false,eval e X.env)::starEach es X.env:=by rfl) (hpl:(backTo pos (starEach es X.env)).any (·.1)=false:=by rfl) :
 Snd X own A E w (.Call (.Name x p) (e::es) [] pos) (kF g fr) :=
 Snd.any (PE.imp (Wf hc.2 hg hm hv ha.1 hn hdb he hpl) λ_ _ _ h=>keF hc.1 h λB ds d _ _ a1 a2 a3 a4=>⟨B,ds,d,a1,a2,a3,a4⟩)
def vC {T:String}{g:P.Fn}{x:Str}{p:Pos}(hc:Q3 X (.type T) g)(hm:X.mg x=none)(hv:bootBuiltins x=some (.type T))(ha:Qf X own A E true (e::es) fr)(hg:Gl X x:=by rfl)
 (hn:x ≠ "__name__":=by decide) (hdb:(x==("__debug__":Str))=false:=by decide) (he:starEach (e::es) X.env=(false,eval e X.env)::starEach es X.env:=by rfl) (hpl:(backTo pos (starEach es X.env)).any (·.1)=false:=by rfl) :
 Snd X own A E w (.Call (.Name x p) (e::es) [] pos) (kF g fr) :=
 Snd.any (PE.imp (kbY hc.2 hg hm hv ha.1 hn hdb he hpl) λ_ _ _ h=>keF hc.1 h λB ds d _ _ a1 a2 a3 a4=>⟨B,ds,d,a1,a2,a3,a4⟩)
end
end L3
namespace L3
open PySem PySem.Spec PyProof.Rows L2
open P (D Rs Out)
structure Ext (C B:List Addr)(H:Hp)(B':List Addr)(H':Hp):Prop where
 kp:Kp C H H'
 nw:∀p∈B',p∈B∨H p=none
def Ext.refl {C B:List Addr}{H:Hp}:Ext C B H B H:=⟨Kp.refl,λ_ h=>.inl h⟩
def Ext.same {C B:List Addr}{H H':Hp}(s:kB H H'):Ext C B H B H':=⟨Kp.of_same s,λ_ h=>.inl h⟩
section
variable {K:zFr}{B B' C:List Addr}{H H':Hp}
mutual
def Rep.ext (x:Ext B B H B' H'):∀ {d:D} {v:V},Rep K B H d v->Rep K B' H' d v
 |.non,_,h=>h
 |.bl _,_,h=>h
 |.int _,_,h=>h
 |.str _,_,h=>h
 |.tup _,_,h=>by
  obtain⟨a,vs,e,q,r⟩:=h;exact⟨a,vs,e,SqT.kp x.kp q,kE.ext x r⟩
 |.lst _,_,h=>by
  obtain⟨a,vs,e,n,q,r⟩:=h;refine⟨a,vs,e,λm=>?_,x.kp _ _ q (.inl n),kE.ext x r⟩
  rcases x.nw a m with z | z
  ·exact n z
  ·rw[q]at z;cases z
 |.lsf _,_,h=>by
  obtain⟨a,vs,e,q,r⟩:=h;exact⟨a,vs,e,SqF.kp x.kp q,kE.ext x r⟩
 |.dic _ _,_,h=>by
  obtain⟨a,xs,kv,ws,e,n,q,o,r1,r2,r3,r4⟩:=h;refine⟨a,xs,kv,ws,e,λm=>?_,x.kp _ _ q (.inl n),o,r1,r2,kE.ext x r3,kE.ext x r4⟩
  rcases x.nw a m with z | z
  ·exact n z
  ·rw[q]at z;cases z
 |.dil _ _,_,h=>by
  obtain⟨a,kvs,e,n,q,o,r⟩:=h;refine⟨a,kvs,e,λm=>?_,x.kp _ _ q (.inl n),o,kE.ext x r⟩
  rcases x.nw a m with z | z
  ·exact n z
  ·rw[q]at z;cases z
def kE.ext (x:Ext B B H B' H'):∀ {ds:List D} {vs:List V},kE K B H ds vs->kE K B' H' ds vs
 | [],_,h=>h
 |d::ds,_,h=>by
  obtain⟨v,r,e,q,t⟩:=h;exact⟨v,r,e,Rep.ext x q,kE.ext x t⟩
end
def Kp.less {B C:List Addr}{H H':Hp}(hs:∀a∈C,a∈B)(k:Kp C H H'):Kp B H H':=λa o e q=>k a o e (q.imp (λn m=>n (hs a m)) id)
def Ext.less (hs:∀a∈C,a∈B)(x:Ext C B H B' H'):Ext B B H B' H':=⟨x.kp.less hs,x.nw⟩
def Ext.trans {B1 B2:List Addr}{H1 H2:Hp}(x:Ext B B H B1 H1)(y:Ext B1 B1 H1 B2 H2):Ext B B H B2 H2 where
 kp:=λa o e q=>by
  refine y.kp a o (x.kp a o e q) ?_
  rcases q with n | q
  ·refine .inl λm=>?_
   rcases x.nw a m with z | z
   ·exact n z
   ·rw[e]at z;cases z
  ·exact .inr q
 nw:=λp hp=>by
  rcases y.nw p hp with z | z
  ·exact x.nw p z
  ·by_cases hb:p∈B
   ·exact .inl hb
   ·right
    cases q:H p with
    |none=>rfl
    |some o=>
     have:=x.kp p o q (.inl hb);rw[this]at z;cases z
end
structure StS (A:List Addr)(H₀:Hp)(B:List Addr)(H:Hp):Prop where
 same:kB H₀ H
 sub:∀a∈A,a∈B
 new:∀b∈B,b∈A∨H₀ b=none
def StS.next {A B:List Addr}{H₀ H H':Hp}(h:StS A H₀ B H)(s:kB H H'):StS A H₀ B H':=⟨h.same.trans s,h.sub,h.new⟩
def Nx (K:zFr)(own:List Bool)(A:List Addr)(H₀:Hp)(B:List Addr)(H:Hp)(env':P.Env)(N:L2.St->Hp->Prop):Prop :=
 ∀B' σ' H',kY K own A B' env' σ' H'->StS A H₀ B' H'->Ext B B H B' H'->N σ' H'
def Po (K:zFr)(own:List Bool)(A:List Addr)(E:Nat->Hp->Prop)(H₀:Hp)(B:List Addr)(H:Hp)(r:Rs Out)(D:Ends):Prop:=match r with
 |.ok (.next env')=>Nx K own A H₀ B H env' D.nx
 |.ok (.ret d)=>∀v H',kB H₀ H'->Rep K A H' d v->D.rt v H'
 |.ok (.brk env')=>Nx K own A H₀ B H env' D.bk
 |.ok (.cont env')=>Nx K own A H₀ B H env' D.ct
 |.exc c=>∀H',kB H₀ H'->E c H'
 |.stuck=>False
def SR (K:zFr)(own:List Bool)(A:List Addr)(E:Nat->Hp->Prop)(H₀:Hp)(f:P.FS):TS:=λD σ H=>∃B env,kY K own A B env σ H/\StS A H₀ B H/\Po K own A E H₀ B H (f env) D
def yC (X:Cx)(own:List Bool)(A:List Addr)(E:Nat->Hp->Prop)(H₀:Hp)(s:Stmt)(f:P.FS):Prop:=PS X s (SR X.K own A E H₀ f)
def zQ (X:Cx)(own:List Bool)(A:List Addr)(E:Nat->Hp->Prop)(H₀:Hp)(s:List Stmt)(f:P.FS):Prop:=PSs X s (SR X.K own A E H₀ f)
def PS.imp {X:Cx}{e:Stmt}{t t':TS}(h:PS X e t)(i:∀D σ H,t' D σ H->t D σ H):PS X e t':=λpins s σ H D I q=>h pins s σ H D I (i D σ H q)
def PSs.imp {X:Cx}{e:List Stmt}{t t':TS}(h:PSs X e t)(i:∀D σ H,t' D σ H->t D σ H):PSs X e t':=λpins s σ H D I q=>h pins s σ H D I (i D σ H q)
section
variable {K:zFr}{own:List Bool}{A B B':List Addr}{E:Nat->Hp->Prop}{H₀ H H':Hp}{r:Rs Out}{D:Ends}{env:P.Env}{σ:L2.St}
def Nx.ext {env':P.Env}{N:L2.St->Hp->Prop}(x:Ext B B H B' H')(h:Nx K own A H₀ B H env' N):Nx K own A H₀ B' H' env' N:=λB2 σ2 H2 e s y=>h B2 σ2 H2 e s (x.trans y)
def Po.ext (x:Ext B B H B' H')(h:Po K own A E H₀ B H r D):Po K own A E H₀ B' H' r D:=by
 cases r with
 |ok o=>cases o with
  |next e=>exact Nx.ext x h
  |ret d=>exact h
  |brk e=>exact Nx.ext x h
  |cont e=>exact Nx.ext x h
 |exc c=>exact h
 |stuck=>exact h
def Kd {w:Bool}{fa:P.FE}{k:P.D->Rs Out}{Q:VK}{σ:L2.St}{DD:Ends}(ok:kY K own A B env σ H)(st:StS A H₀ B H)(h:Po K own A E H₀ B H (fa env>>=k) DD)
 (hq:∀x v H1,fa env = .ok x->kB H H1->kY K own A B env σ H1->StS A H₀ B H1->QF w K B H1 x v->Po K own A E H₀ B H1 (k x) DD->Q v H1):ER w K own A E fa σ H Q :=
 Q7 (R:=λH r=>Po K own A E H₀ B H r DD/\StS A H₀ B H) ok (λs h=>⟨Po.ext (Ext.same s) h.1,h.2.next s⟩) (λc h H' s=>h.1 H' (st.same.trans s)) (λh=>h.1) ⟨h,st⟩
  λx v H1 e s ok1 r1 h1=>hq x v H1 e s ok1 h1.2 r1 h1.1
end
section
variable {X:Cx}{own:List Bool}{A:List Addr}{E:Nat->Hp->Prop}{H₀:Hp}{st:Stmt}{rest:List Stmt}{f g:P.FS}{e:Expr}{fa:P.FE}{ft:P.FT}{pos:Pos}
def kU:zQ X own A E H₀ [] qI:=PSs.imp kgn λD σ H ⟨B,env,ok,st,h⟩=>h B σ H ok st Ext.refl
def kH (h:yC X own A E H₀ st f):zQ X own A E H₀ [st] f:=jc h
def kC (h1:yC X own A E H₀ st f)(h2:zQ X own A E H₀ rest g):zQ X own A E H₀ (st::rest) (kM f g):=by
 refine PSs.imp (X3 h1 h2) λD σ H ⟨B,env,ok,st,h⟩=>?_
 refine⟨B,env,ok,st,?_⟩;unfold kM at h
 cases q:f env with
 |ok o=>
  rw[q]at h
  cases o with
  |next env'=>exact λB' σ' H' ok' st' x=>⟨B',env',ok',st',Po.ext x h⟩
  |ret d=>exact h
  |brk env'=>exact h
  |cont env'=>exact h
 |exc c=>rw[q]at h;exact h
 |stuck=>rw[q]at h;exact h
def qY:zQ X own A E H₀ rest (λ_=>.stuck):=λ_ _ _ _ _ _ ⟨_,_,_,_,h⟩=>h.elim
def vg {w:Bool}(he:Snd X own A E w e fa)(hs:swapsWith e none pos.line X.env=pure false:=by rfl):yC X own A E H₀ (.Expr e pos) (vR fa):=by
 refine PS.imp (Vc he hs) λD σ H ⟨B,env,ok,st,h⟩=>?_
 exact Kd ok st (show Po X.K own A E H₀ B H (fa env>>=λ_=>.ok (.next env)) D from h) λx v H1 e1 s1 ok1 st1 r1 h1=>h1 B σ H1 ok1 st1 Ext.refl
def kN (he:Snd X own A E false e fa):yC X own A E H₀ (.Return (some e) pos) (kZ fa):=by
 refine PS.imp (Jm he) λD σ H ⟨B,env,ok,st,h⟩=>?_
 exact Kd ok st (show Po X.K own A E H₀ B H (fa env>>=λd=>.ok (.ret d)) D from h) λx v H1 e1 s1 ok1 st1 r1 h1=>h1 v H1 st1.same (Rep.sub st1.sub r1)
def Wq {i:Nat} {x:Str} {pos'} (ho:own[i]? = some true:=by rfl) (hN:X.N[i]? = some x:=by rfl)
 (hv:Vis X.env.scope x:=by first | exact Or.inl rfl | exact Or.inr (Or.inl rfl) | exact Or.inr (Or.inr rfl)) (hd:(x==("__debug__":Str))=false:=by decide)
 (hcd:(x==("__classdict__":Str))=false:=by decide):yC X own A E H₀ (.Return (some (.Name x pos')) pos) (kZ (kj i)):=by
 refine PS.imp (Jm (xN hN hv hd hcd)) λD σ H ⟨B,env,ok,st,h⟩=>?_
 unfold kZ kj at h
 cases q:env[i]? with
 |none=>rw[q]at h;exact h.elim
 |some z=>cases z with
  |none=>rw[q]at h;exact h.elim
  |some d=>
   rw[q]at h;obtain⟨p,hp,hb,hn,r⟩:=ok.owd i d q ho;refine⟨_,hp,h _ H st.same ?_⟩
   cases d with
   |lst ds=>
    obtain⟨vs,e,r⟩:=r;exact⟨p,vs,rfl,hn,e,kE.sub st.sub r⟩
   |dic ks vs=>
    obtain⟨xs,kv,ws,q,o,r1,r2,r3,r4⟩:=r;exact⟨p,xs,kv,ws,rfl,hn,q,o,r1,r2,kE.sub st.sub r3,kE.sub st.sub r4⟩
   |_=>exact r.elim
def qe {c:Expr}{a b:List Stmt}(hc:zB X own A E c ft)(ha:zQ X own A E H₀ a f)(hb:zQ X own A E H₀ b g):yC X own A E H₀ (.If c a b pos) (P.sIf ft f g):=by
 refine PS.imp (kh8 hc ha hb) λD σ H ⟨B,env,ok,st,h⟩=>?_
 refine⟨B,env,ok,?_⟩;unfold P.sIf at h
 cases q:ft env with
 |ok k=>
  rw[q]at h;intro H1 s1;have h:Po X.K own A E H₀ B H1 (if k=true then f env else g env) D:=Po.ext (Ext.same s1) h
  cases k with
  |true=>rw[if_pos rfl]at h ⊢;exact⟨B,env,ok.same s1,st.next s1,h⟩
  |false=>rw[if_neg Bool.false_ne_true]at h ⊢;exact⟨B,env,ok.same s1,st.next s1,h⟩
 |exc c=>rw[q]at h;exact λH' s=>h H' (st.same.trans s)
 |stuck=>rw[q]at h;exact h
def K6 {α:Type}{l:List α}{i j:Nat}{x y:α}(h:(l.set i x)[j]?=some y):(j=i/\y=x)∨(j≠i/\l[j]?=some y):=by
 by_cases e:j=i
 ·subst e;left
  have:j < l.length:=by
   have:=(List.getElem?_eq_some_iff.mp h).1;simpa using this
  rw[List.getElem?_set_self this]at h;exact⟨rfl,(Option.some.inj h).symm⟩
 ·rw[zan (Ne.symm e)]at h;exact .inr ⟨e,h⟩
def kY.set {K:zFr}{own:List Bool}{A B:List Addr}{env:P.Env}{σ:L2.St}{H:Hp}{i:Nat}{d:D}{v:V}(ok:kY K own A B env σ H)(ho:own[i]?≠some true)(hi:i < σ.length)(r:Rep K B H d v) :
 kY K own A B (env.set i (some d)) (σ.set i (some v)) H where
 len:=by simp[ok.len]
 val:=λj d' h1 h2=>by
  rcases K6 h1 with ⟨rfl,e⟩ | ⟨e,h1⟩
  ·cases e;exact⟨v,List.getElem?_set_self hi,r⟩
  ·obtain⟨u,a,b⟩:=ok.val j d' h1 h2;exact⟨u,by rw[zan (Ne.symm e)];exact a,b⟩
 owd:=λj d' h1 h2=>by
  rcases K6 h1 with ⟨rfl,e⟩ | ⟨e,h1⟩
  ·exact absurd h2 ho
  ·obtain⟨p,a,b⟩:=ok.owd j d' h1 h2;exact⟨p,by rw[zan (Ne.symm e)];exact a,b⟩
 ap:=λj k d1 d2 p hjk h1 h2 e1 e2 s1=>by
  have nj:j≠i:=λe=>ho (e ▸ h1)
  have nk:k≠i:=λe=>ho (e ▸ h2)
  rw[zan (Ne.symm nj)]at e1 s1;rw[zan (Ne.symm nk)]at e2 ⊢;exact ok.ap j k d1 d2 p hjk h1 h2 e1 e2 s1
 bt:=ok.bt
def PS.ZS {X:Cx}{e:Stmt}{t t':TS}(h:PS X e t)(i:∀D σ H,σ.length=X.N.length->t' D σ H->t D σ H):PS X e t':=λpins s σ H D I q=>h pins s σ H D I (i D σ H I.len q)
def qL {i:Nat}{x:Str}{pos':Pos}(hnd:X.N.Nodup)(he:Snd X own A E false e fa)(ho:own[i]?≠some true:=by decide)(hi:X.N[i]?=some x:=by rfl)(hx:Loc X.env.scope x:=by first | exact Or.inl rfl | exact Or.inr rfl)
 (hs:swapsWith e (some (.Name x pos')) pos.line X.env=pure false:=by rfl) (hf:X.fn x=true∨X.env.scope.names.lookup x=some .local:=by first | exact .inl rfl | exact .inr rfl | assumption) :
 yC X own A E H₀ (.Assign [.Name x pos'] e pos) (qR i fa):=by
 refine PS.ZS (YZ hnd hi hx he hs hf) λD σ H hl ⟨B,env,ok,st,h⟩=>?_
 have hi':i < σ.length:=by rw[hl];exact (List.getElem?_eq_some_iff.mp hi).1
 exact Kd ok st (show Po X.K own A E H₀ B H (fa env>>=λd=>.ok (.next (env.set i (some d)))) D from h) λx v H1 e1 s1 ok1 st1 r1 h1=>h1 B _ H1 (ok1.set ho hi' r1) st1 Ext.refl
def yP.mut {K:zFr}{B:List Addr}{H:Hp}{p:Addr}:∀ {d:D},yP K B H p d->∃o,H p=some o/\Mut (some o)
 |.lst _,h=>by obtain⟨vs,e,_⟩:=h;exact⟨_,e,trivial⟩
 |.dic _ _,h=>by obtain⟨xs,kv,ws,e,_⟩:=h;exact⟨_,e,trivial⟩
 |.dil _ _,h=>h.elim
 |.non,h=>h.elim
 |.bl _,h=>h.elim
 |.int _,h=>h.elim
 |.str _,h=>h.elim
 |.tup _,h=>h.elim
 |.lsf _,h=>h.elim
def yP.more {K:zFr}{B:List Addr}{H H':Hp}{p q:Addr}(hp:H p=none)(s:kB H H'):∀ {d:D},yP K B H q d->yP K (p::B) H' q d
 |.lst _,h=>by
  obtain⟨vs,e,r⟩:=h;exact⟨vs,s _ _ e,kE.kp (Kp.of_same s) (kE.more hp r)⟩
 |.dic _ _,h=>by
  obtain⟨xs,kv,ws,e,o,r1,r2,r3,r4⟩:=h;exact⟨xs,kv,ws,s _ _ e,o,r1,r2,kE.kp (Kp.of_same s) (kE.more hp r3),kE.kp (Kp.of_same s) (kE.more hp r4)⟩
 |.dil _ _,h=>h.elim
 |.non,h=>h.elim
 |.bl _,h=>h.elim
 |.int _,h=>h.elim
 |.str _,h=>h.elim
 |.tup _,h=>h.elim
 |.lsf _,h=>h.elim
def yP.other {K:zFr}{B:List Addr}{H:Hp}{p q:Addr}{u:HO}(k:Kp B H (upd H p u))(nq:q≠p):∀ {d:D},yP K B H q d->yP K B (upd H p u) q d
 |.lst _,h=>by
  obtain⟨vs,e,r⟩:=h;exact⟨vs,by rw[qm nq];exact e,kE.kp k r⟩
 |.dic _ _,h=>by
  obtain⟨xs,kv,ws,e,o,r1,r2,r3,r4⟩:=h;exact⟨xs,kv,ws,by rw[qm nq];exact e,o,r1,r2,kE.kp k r3,kE.kp k r4⟩
 |.dil _ _,h=>h.elim
 |.non,h=>h.elim
 |.bl _,h=>h.elim
 |.int _,h=>h.elim
 |.str _,h=>h.elim
 |.tup _,h=>h.elim
 |.lsf _,h=>h.elim
def kY.kjQ {K:zFr} {own:List Bool} {A B:List Addr} {env:P.Env} {σ:L2.St} {H H':Hp} {i:Nat} {p:Addr} {d:D} (ok:kY K own A B env σ H) (ho:own[i]? = some true) (hi:i < σ.length) (hA:∀ a ∈ A,∃ o,H a = some o)
 (hp:H p=none) (s:kB H H') (r:yP K (p::B) H' p d):kY K own A (p::B) (env.set i (some d)) (σ.set i (some (.ref p))) H' where
 len:=by simp[ok.len]
 val:=λj d' h1 h2=>by
  rcases K6 h1 with ⟨rfl,e⟩ | ⟨e,h1⟩
  ·exact absurd ho h2
  ·obtain⟨u,a,b⟩:=ok.val j d' h1 h2
   exact⟨u,by rw[zan (Ne.symm e)];exact a,Rep.kp (Kp.of_same s) (Rep.more hp b)⟩
 owd:=λj d' h1 h2=>by
  rcases K6 h1 with ⟨rfl,e⟩ | ⟨e,h1⟩
  ·cases e
   refine⟨p,List.getElem?_set_self hi,zaj,λha=>?_,r⟩;obtain⟨o,q⟩:=hA p ha;rw[hp]at q;cases q
  ·obtain⟨q,a,b,n,c⟩:=ok.owd j d' h1 h2
   exact⟨q,by rw[zan (Ne.symm e)];exact a,zah _ b,n,c.more hp s⟩
 ap:=λj k d1 d2 q hjk h1 h2 e1 e2 s1=>by
  have bt:∀l d,env[l]?=some (some d)->own[l]?=some true->σ[l]?≠some (some (V.ref p)):=λl d e o z=>by
   obtain⟨q',a,b,_⟩:=ok.owd l d e o;rw[z]at a;cases a;obtain⟨xs,y,_⟩:=ok.bt p b;rw[hp]at y;cases y
  by_cases nj:j=i
  ·subst nj
   rw[List.getElem?_set_self hi]at s1;cases s1;rw[zan hjk]at e2 ⊢;exact bt k d2 e2 h2
  ·rw[zan (Ne.symm nj)]at e1 s1
   by_cases nk:k=i
   ·subst nk
    rw[List.getElem?_set_self hi];intro z;cases z;exact bt j d1 e1 h1 s1
   ·rw[zan (Ne.symm nk)]at e2 ⊢
    exact ok.ap j k d1 d2 q hjk h1 h2 e1 e2 s1
 bt:=λb hb=>by
  rcases List.mem_cons.mp hb with e | hb
  ·rw[e];exact r.mut
  ·obtain⟨xs,q,m⟩:=ok.bt b hb
   exact⟨xs,s _ _ q,m⟩
def ym {i:Nat} {x:Str} {pos':Pos} (hnd:X.N.Nodup) (he:qF X own A E e fa) (ho:own[i]? = some true:=by rfl) (hi:X.N[i]? = some x:=by rfl) (hx:Loc X.env.scope x:=by first | exact Or.inl rfl | exact Or.inr rfl)
 (hs:swapsWith e (some (.Name x pos')) pos.line X.env=pure false:=by rfl) (hf:X.fn x=true∨X.env.scope.names.lookup x=some .local:=by first | exact .inl rfl | exact .inr rfl | assumption) :
 yC X own A E H₀ (.Assign [.Name x pos'] e pos) (qR i fa):=by
 refine PS.ZS (YZ hnd hi hx he hs hf) λD σ H hl ⟨B,env,ok,st,h⟩=>?_
 have hi':i < σ.length:=by rw[hl];exact (List.getElem?_eq_some_iff.mp hi).1
 refine⟨B,env,ok,?_⟩;unfold qR at h
 cases q:fa env with
 |ok d=>
  rw[q]at h;intro v H' s r;obtain⟨p,rfl,hp,r⟩:=r;refine h (p::B) _ H' (ok.kjQ ho hi' (λa ha=>?_) hp s r) ⟨st.same.trans s,λa ha=>zah _ (st.sub a ha),λb hb=>?_⟩ ⟨Kp.of_same s,λb hb=>?_⟩
  ·obtain⟨xs,y,_⟩:=ok.bt a (st.sub a ha)
   exact⟨_,y⟩
  ·rcases List.mem_cons.mp hb with e | hb
   ·exact .inr (by rw[e];exact st.same.free hp)
   ·exact st.new b hb
  ·rcases List.mem_cons.mp hb with e | hb
   ·exact .inr (by rw[e];exact hp)
   ·exact .inl hb
 |exc c=>rw[q]at h;exact λH' s=>h H' (st.same.trans s)
 |stuck=>rw[q]at h;exact h
def Kp.chg {B:List Addr}{H:Hp}{p:Addr}{u:HO}(hb:p∈B)(hv:∃o,H p=some o/\Mut (some o)):Kp B H (upd H p u):=λa o e q=>by
 obtain⟨us,hv,hm⟩:=hv
 have:a≠p:=by
  rintro rfl;rw[hv]at e;cases e
  rcases q with q | ⟨xs,q⟩ | ⟨ob,u,q⟩
  ·exact q hb
  ·rw[q]at hm;exact hm
  ·rw[q]at hm;exact hm
 rw[qm this];exact e
def kY.kho {K:zFr}{own:List Bool}{A B:List Addr}{env:P.Env}{σ:L2.St}{H:Hp}{i:Nat}{p:Addr}{d dn:D}{u:HO}(ok:kY K own A B env σ H)(ho:own[i]?=some true)(he:env[i]?=some (some d))
 (hs:σ[i]?=some (some (.ref p))) (hb:p∈B) (hn:p∉A) (r:yP K B (upd H p u) p dn):kY K own A B (env.set i (some dn)) σ (upd H p u):=by
 have k:Kp B H (upd H p u):=Kp.chg hb (ok.bt p hb);have hi:i < env.length:=(List.getElem?_eq_some_iff.mp he).1;refine⟨by simp[ok.len],λj d' h1 h2=>?_,λj d' h1 h2=>?_,λj l d1 d2 q hjk h1 h2 e1 e2 s1=>?_,λb hb'=>?_⟩
 ·rcases K6 h1 with ⟨rfl,e⟩ | ⟨e,h1⟩
  ·exact absurd ho h2
  ·obtain⟨u,a,b⟩:=ok.val j d' h1 h2;exact⟨u,a,Rep.kp k b⟩
 ·rcases K6 h1 with ⟨rfl,e⟩ | ⟨e,h1⟩
  ·cases e;exact⟨p,hs,hb,hn,r⟩
  ·obtain⟨q,a,b,n,c⟩:=ok.owd j d' h1 h2;refine⟨q,a,b,n,c.other k ?_⟩;rintro rfl;exact ok.ap i j d d' q (Ne.symm e) ho h2 he h1 hs a
 ·have g:∀l d,(env.set i (some dn))[l]?=some (some d)->∃d0,env[l]?=some (some d0):=λl d e=>by
   rcases K6 e with ⟨rfl,_⟩ | ⟨_,e⟩
   ·exact⟨_,he⟩
   ·exact⟨_,e⟩
  obtain⟨d1',e1'⟩:=g j d1 e1;obtain⟨d2',e2'⟩:=g l d2 e2;exact ok.ap j l d1' d2' q hjk h1 h2 e1' e2' s1
 ·by_cases e:b=p
  ·rw[e];exact r.mut
  ·obtain⟨xs,q,m⟩:=ok.bt b hb';exact⟨xs,by rw[qm e];exact q,m⟩
def kY.chg {K:zFr}{own:List Bool}{A B:List Addr}{env:P.Env}{σ:L2.St}{H:Hp}{i:Nat}{p:Addr}{d:D}{ds:List D}{vs:List V}(ok:kY K own A B env σ H)(ho:own[i]?=some true)(he:env[i]?=some (some d))
 (hs:σ[i]?=some (some (.ref p))) (hb:p∈B) (hn:p∉A) (hv:∃us,H p=some (.lst us)) (r:kE K B H ds vs):kY K own A B (env.set i (some (.lst ds))) σ (upd H p (.lst vs))/\Kp B H (upd H p (.lst vs)):=by
 have k:Kp B H (upd H p (.lst vs)):=Kp.chg hb (ok.bt p hb);exact⟨ok.kho ho he hs hb hn ⟨vs,k9,kE.kp k r⟩,k⟩
def StS.chg {A B:List Addr}{H₀ H:Hp}{p:Addr}{u:HO}(st:StS A H₀ B H)(hb:p∈B)(hn:p∉A):StS A H₀ B (upd H p u):=by
 refine⟨λa o e=>?_,st.sub,st.new⟩
 have:a≠p:=by
  rintro rfl
  rcases st.new a hb with z | z
  ·exact hn z
  ·rw[z]at e;cases e
 rw[qm this];exact st.same a o e
variable {x:Str}{i:Nat}{p1 p2 p3:Pos}
def K0 (he:Snd X own A E false e fa)(ho:own[i]?=some true:=by rfl)(hN:X.N[i]?=some x:=by rfl)
 (hv:Vis X.env.scope x:=by first | exact Or.inl rfl | exact Or.inr (Or.inl rfl) | exact Or.inr (Or.inr rfl)) (hd:(x==("__debug__":Str))=false:=by decide)
 (hcd:(x==("__classdict__":Str))=false:=by decide) (hst:starEach [e] X.env=[(false,eval e X.env)]:=by rfl)
 (hbase:attributeBase (.Name x p1) "append" X.env (eval (.Name x p1) X.env)=eval (.Name x p1) X.env:=by rfl) (hline:(p2.endLine==p3.line)=true:=by rfl)
 (hfew:((backTo p3 (starEach [e] X.env)).all (λx=>!x.1)&&(backToKw p3 (keywordEach [] X.env)).all (λx=>x.1.isSome)
  && decide (([e]:List Expr).length+([]:List Keyword).length+(if ([]:List Keyword).isEmpty then 0 else 1) < 30))=true:=by rfl) :
 yC X own A E H₀ (.Expr (.Call (.Attribute (.Name x p1) "append" p2) [e] [] p3) pos) (K2 i fa):=by
 refine PS.imp (Vc (Xy PySem.F.plainAttrs_list PySem.F.slot_list_append PySem.F.type_list_append jK (xN hN hv hd hcd) (qE he vS hst) hbase hfew hline hst)) λD σ H ⟨B,env,ok,st,h⟩=>?_
 have hx:∃xs,env[i]?=some (some (.lst xs)):=by
  unfold K2 at h;split at h
  ·rename_i xs q;exact⟨xs,q⟩
  ·exact h.elim
 obtain⟨xs,q⟩:=hx
 have h:Po X.K own A E H₀ B H (fa env>>=λd=>if xs.length < kP then .ok (.next (env.set i (some (.lst (xs++[d]))))) else .stuck) D:=by
  unfold K2 at h;rw[q]at h;exact h
 obtain⟨p,hp,hb,hn,us,hl,r⟩:=ok.owd i _ q ho;refine⟨_,hp,.inl ⟨rfl,us,SqL.of hl⟩,?_⟩;refine Kd ok st h λd v H1 e1 s1 ok1 st1 r1 h1=>?_
 split at h1
 ·rename_i hlt;have hl1:=s1 _ _ hl;have hr:=kE.kp (Kp.of_same s1) r;refine⟨p,us,v,rfl,rfl,hl1,by rw[szL,hr.length];exact hlt,?_⟩;obtain⟨ok2,k2⟩:=ok1.chg ho q hp hb hn ⟨us,hl1⟩ (kE.append hr (show kE X.K B H1 [d] [v] from ⟨v,[],rfl,r1,rfl⟩));exact h1 B σ _ ok2 (st1.chg hb hn) ⟨k2,λ_ z=>.inl z⟩
 ·exact h1.elim
def keX (he:Snd X own A E true e fa) (ho:own[i]? = some true:=by rfl) (hN:X.N[i]? = some x:=by rfl)
 (hv:Vis X.env.scope x:=by first | exact Or.inl rfl | exact Or.inr (Or.inl rfl) | exact Or.inr (Or.inr rfl)) (hd:(x==("__debug__":Str))=false:=by decide)
 (hcd:(x==("__classdict__":Str))=false:=by decide) (hst:starEach [e] X.env=[(false,eval e X.env)]:=by rfl)
 (hbase:attributeBase (.Name x p1) "extend" X.env (eval (.Name x p1) X.env)=eval (.Name x p1) X.env:=by rfl) (hline:(p2.endLine==p3.line)=true:=by rfl)
 (hfew:((backTo p3 (starEach [e] X.env)).all (λx=>!x.1)&&(backToKw p3 (keywordEach [] X.env)).all (λx=>x.1.isSome)
  && decide (([e]:List Expr).length+([]:List Keyword).length+(if ([]:List Keyword).isEmpty then 0 else 1) < 30))=true:=by rfl) :
 yC X own A E H₀ (.Expr (.Call (.Attribute (.Name x p1) "extend" p2) [e] [] p3) pos) (Yw i fa):=by
 refine PS.imp (Vc (Xy PySem.F.plainAttrs_list PySem.F.slot_list_extend PySem.F.type_list_extend jj (xN hN hv hd hcd) (qE he vS hst) hbase hfew hline hst)) λD σ H ⟨B,env,ok,st,h⟩=>?_
 have hx:∃xs,env[i]?=some (some (.lst xs)):=by
  unfold Yw at h;split at h
  ·rename_i xs q
   exact⟨xs,q⟩
  ·exact h.elim
 obtain⟨xs,q⟩:=hx
 have h:Po X.K own A E H₀ B H (fa env >>= fun d => match d with
     |.lst ys=>if xs.length+ys.length<=kP then .ok (.next (env.set i (some (.lst (xs++ys))))) else .stuck
     |_=>.stuck) D:=by
  unfold Yw at h;rw[q]at h;exact h
 obtain⟨p,hp,hb,hn,us,hl,r⟩:=ok.owd i _ q ho;refine⟨_,hp,.inl ⟨rfl,us,SqL.of hl⟩,?_⟩;refine Kd ok st h λd v H1 e1 s1 ok1 st1 r1 h1=>?_
 cases d with
 |lst ys=>
  obtain⟨pb,vs,rfl,hvb,rb⟩:=r1;have hl1:=s1 _ _ hl;have hr:=kE.kp (Kp.of_same s1) r
  by_cases hlt:xs.length+ys.length<=kP
  · have h1:Nx X.K own A H₀ B H1 (env.set i (some (.lst (xs ++ ys)))) D.nx:=by
      have h1:Po X.K own A E H₀ B H1 (if xs.length+ys.length<=kP then .ok (.next (env.set i (some (.lst (xs++ys))))) else .stuck) D:=h1;rw[if_pos hlt]at h1;exact h1
    refine⟨p,pb,us,vs,rfl,rfl,hl1,hvb,by rw[szL,hr.length,rb.length];exact hlt,?_⟩;obtain⟨ok2,k2⟩:=ok1.chg ho q hp hb hn ⟨us,hl1⟩ (kE.append hr rb);exact h1 B σ _ ok2 (st1.chg hb hn) ⟨k2,λ_ z=>.inl z⟩
  ·have h1:Po X.K own A E H₀ B H1 (if xs.length+ys.length<=kP then .ok (.next (env.set i (some (.lst (xs++ys))))) else .stuck) D:=h1
   rw[if_neg hlt]at h1;exact h1.elim
 |_=>exact h1.elim
def GR (K:zFr)(own:List Bool)(A:List Addr)(is:List Nat)(g:P.FG):TG:=λv σ H Q=>∃B env d,kY K own A B env σ H/\Rep K B H d v/\match g d env with
 |.ok env'=>∀σ',σ'.length=σ.length->(∀j,j∉is->σ'[j]?=σ[j]?)->kY K own A B env' σ' H->Q σ' H
 |_=>False
def ZI (X:Cx)(own:List Bool)(A:List Addr)(is:List Nat)(tg:Expr)(g:P.FG):Prop:=PG X tg (GR X.K own A is g)
def PG.ZS {X:Cx}{e:Expr}{t t':TG}(h:PG X e t)(i:∀v σ H Q,σ.length=X.N.length->t' v σ H Q->t v σ H Q):PG X e t':=λpins s σ H v u Q I r q=>h pins s σ H v u Q I r (i v σ H Q I.len q)
def qZ (hnd:X.N.Nodup)(ho:own[i]?≠some true:=by decide)(hi:X.N[i]?=some x:=by rfl)(hx:Loc X.env.scope x:=by first | exact Or.inl rfl | exact Or.inr rfl)
 (hf:X.fn x=true∨X.env.scope.names.lookup x=some .local:=by first | exact .inl rfl | exact .inr rfl | assumption):ZI X own A [i] (.Name x pos) (vA i):=by
 refine PG.ZS (UH hnd hi hx hf) λv σ H Q hl ⟨B,env,d,ok,r,h⟩=>?_
 have hi':i < σ.length:=by rw[hl];exact (List.getElem?_eq_some_iff.mp hi).1
 exact h _ (by simp) (λj hj=>by rw[zan (λe=>hj (by simp[e]))]) (ok.set ho hi' r)
def GsR (K:zFr)(own:List Bool)(A:List Addr)(is:List Nat):TGs:=λvs σ H Q=>∃B env ds,kY K own A B env σ H/\kE K B H ds vs/\match VE is ds env with
 |.ok env'=>∀σ',σ'.length=σ.length->(∀j,j∉is->σ'[j]?=σ[j]?)->kY K own A B env' σ' H->Q σ' H
 |_=>False
def Jf (X:Cx)(own:List Bool)(A:List Addr)(is:List Nat)(tg:List Expr):Prop:=PGs X tg (GsR X.K own A is)
def Xb:Jf X own A [] []:=λpins s σ H vs us Q I r ⟨B,env,ds,ok,rr,h⟩=>by
 refine kgi pins s σ H vs us Q I r ?_
 cases ds with
 |nil=>
  refine⟨rr,?_⟩;exact h σ rfl (λ_ _=>rfl) ok
 |cons d ds=>exact h.elim
def zk {is:List Nat} {es:List Expr} (hnd:X.N.Nodup) (hr:Jf X own A is es) (ho:own[i]? ≠ some true:=by decide) (hi:X.N[i]? = some x:=by rfl) (hx:Loc X.env.scope x:=by first | exact Or.inl rfl | exact Or.inr rfl)
 (hf:X.fn x=true∨X.env.scope.names.lookup x=some .local:=by first | exact .inl rfl | exact .inr rfl | assumption)
 (hs:(assignEach (.Name x pos::es) X.env).map (·.2)=assign (.Name x pos) X.env::(assignEach es X.env).map (·.2):=by rfl):Jf X own A (i::is) (.Name x pos::es):=λpins s σ H vs us Q I r ⟨B,env,ds,ok,rr,h⟩=>by
 refine kc5 (UH hnd hi hx hf) hr hs pins s σ H vs us Q I r ?_;have hi':i < σ.length:=by rw[I.len];exact (List.getElem?_eq_some_iff.mp hi).1
 cases ds with
 |nil=>exact h.elim
 |cons d ds=>
  obtain⟨v,r',e,rd,rt⟩:=rr;refine⟨v,r',e,B,_,ds,ok.set ho hi' rd,rt,?_⟩
  have h:match VE is ds (env.set i (some d)) with
   |.ok env'=>∀σ',σ'.length=σ.length->(∀j,j∉i::is->σ'[j]?=σ[j]?)->kY X.K own A B env' σ' H->Q σ' H
   |_=>False:=h
  cases q:VE is ds (env.set i (some d)) with
  |ok env'=>
   rw[q]at h;refine λσ' h1 h2 h3=>h σ' (by simpa using h1) (λj hj=>?_) h3
   rw[h2 j λz=>hj (zah _ z),zan];intro e;exact hj (by rw[e];exact zaj)
  |exc c=>rw[q]at h;exact h
  |stuck=>rw[q]at h;exact h
def jI:∀ {is:List Nat} {ds:List D} {env env':P.Env},VE is ds env = .ok env'->ds.length=is.length
 | [],[],_,_,_=>rfl
 |_::is,_::ds,_,_,h=>by rw[zam,zam,jI (is:=is) (ds:=ds) h]
 | [],_::_,_,_,h=>nomatch h
 |_::_,[],_,_,h=>nomatch h
def YA {is:List Nat} {es:List Expr} {k:Nat} (hc:X.calm = true) (h:Jf X own A is es) (hn:(assignEach es X.env).length = is.length:=by rfl) (hst:(assignEach es X.env).findIdx? (·.1) = none:=by rfl) :
 ZI X own A is (.Tuple es k pos) (QO is):=by
 refine PG.ZS (kg5 (n:=is.length) hc h hn hst) λv σ H Q hl ⟨B,env,d,ok,r,h⟩=>?_
 cases d with
 |tup ds=>
  obtain⟨a,vs,rfl,q,rr⟩:=r
  have hl:ds.length=is.length:=by
   have h:match VE is ds env with
    |.ok env'=>∀σ',σ'.length=σ.length->(∀j,j∉is->σ'[j]?=σ[j]?)->kY X.K own A B env' σ' H->Q σ' H
    |_=>False:=h
   cases z:VE is ds env with
   |ok env'=>exact jI z
   |exc c=>rw[z]at h;exact h.elim
   |stuck=>rw[z]at h;exact h.elim
  exact⟨a,vs,rfl,q,by rw[rr.length,hl],B,env,ds,ok,rr,h⟩
 |_=>exact h.elim
def Walk (K:zFr)(C B:List Addr)(H:Hp)(J:It)(ds:List D):Prop:=∀B' H',Ext C B H B' H'->∀i:Nat,
 (∀d,ds[i]?=some d->J.go i H'/\∀x H2,J.yld i H' x H2->kB H' H2/\Rep K B' H2 d x)/\(ds.length=i->J.stop i H')
def IR (c:Bool)(K:zFr)(own:List Bool)(A:List Addr)(E:Nat->Hp->Prop)(f:P.FI):TI:=λσ H R=>∃B env,kY K own A B env σ H/\match f env with
 |.ok ds=>∀J H',kB H H'->Walk K (if c=true then [] else B) B H' J ds->R J H'
 |.exc c=>∀H',kB H H'->E c H'
 |.stuck=>False
def Xf (X:Cx)(own:List Bool)(A:List Addr)(E:Nat->Hp->Prop)(c:Bool)(tg iter:Expr)(f:P.FI):Prop:=PI X tg iter (IR c X.K own A E f)
def PI.imp {X:Cx}{tg e:Expr}{t t':TI}(h:PI X tg e t)(i:∀σ H Q,t' σ H Q->t σ H Q):PI X tg e t':=λpins s σ H Q I q=>h pins s σ H Q I (i σ H Q q)
def yx {it:P.FI} {g:P.FG} {b:P.FS} {is:List Nat} {tg iter:Expr} {body:List Stmt} (hp:PassesOwn (model X.prog X.w) X.A X.env X.xe) (hc:X.calm = true) (hi:Xf X own A E false tg iter it) (hg:ZI X own A is tg g) (hb:zQ X own A E H₀ body b)
 (hs:∀x,foldedSetIterable iter X.env x=pure x:=by intro _;rfl):yC X own A E H₀ (.For tg iter body [] pos) (z0 it g b):=by
 refine PS.imp (kgJ hp hc hi hg hb hs) λD σ H ⟨B,env,ok,st,h⟩=>?_
 refine⟨B,env,ok,?_⟩;unfold z0 at h
 cases q:it env with
 |exc c=>rw[q]at h;exact λH' s=>h H' (st.same.trans s)
 |stuck=>rw[q]at h;exact h
 |ok ds=>
  rw[q]at h;intro J H1 s1 wk;have h:Po X.K own A E H₀ B H1 (P.forL g b ds env) D:=Po.ext (Ext.same s1) h
  refine⟨λi m σ' H'=>m=ds.length - i/\i<=ds.length/\∃B' env',kY X.K own A B' env' σ' H'/\StS A H₀ B' H'/\Ext B B H1 B' H'/\Po X.K own A E H₀ B' H' (P.forL g b (ds.drop i) env') D,
   ⟨_,rfl,Nat.zero_le _,B,env,ok.same s1,st.next s1,Ext.refl,h⟩,?_⟩
  rintro i m σ' H' ⟨rfl,hi,B',env',ok',st',x',h'⟩;obtain⟨wk1,wk2⟩:=wk B' H' x' i
  by_cases hlt:i < ds.length
  ·right
   have hd:ds[i]?=some ds[i]:=by simp[hlt]
   obtain⟨go,yl⟩:=wk1 _ hd;rw[List.drop_eq_getElem_cons hlt]at h'
   refine⟨go,λσ2 H2=>∃B2 env2,kY X.K own A B2 env2 σ2 H2/\StS A H₀ B2 H2/\Ext B B H1 B2 H2/\Po X.K own A E H₀ B2 H2 (P.forL g b (ds.drop (i+1)) env2) D,
    λσ2 H2 n2=>⟨_,by omega,rfl,hlt,n2⟩,λy H2 hy=>?_⟩
   obtain⟨s2,r2⟩:=yl y H2 hy;refine⟨B',env',ds[i],ok'.same s2,r2,?_⟩
   have h2:Po X.K own A E H₀ B' H2 ((g ds[i] env').nx >>= fun env1 => b env1 >>= fun o => match o with
       |.next env2=>P.forL g b (ds.drop (i+1)) env2
       |.cont env2=>P.forL g b (ds.drop (i+1)) env2
       |.brk env2=>.ok (.next env2)
       |.ret d=>.ok (.ret d)) D:=Po.ext (Ext.same s2) h'
   cases qg:g ds[i] env' with
   |exc c=>rw[qg]at h2;exact h2
   |stuck=>rw[qg]at h2;exact h2
   |ok env1=>
    rw[qg]at h2
    have h2:Po X.K own A E H₀ B' H2 (b env1>>=λo=>match o with
     |.next env2=>P.forL g b (ds.drop (i+1)) env2
     |.cont env2=>P.forL g b (ds.drop (i+1)) env2
     |.brk env2=>.ok (.next env2)
     |.ret d=>.ok (.ret d)) D:=h2
    intro σ3 _ _ ok3;refine⟨B',env1,ok3,st'.next s2,?_⟩
    cases qb:b env1 with
    |exc c=>rw[qb]at h2;exact h2
    |stuck=>rw[qb]at h2;exact h2
    |ok o=>
     rw[qb]at h2
     cases o with
     |next env2=>exact λB4 σ4 H4 ok4 st4 x4=>⟨B4,env2,ok4,st4,x'.trans ((Ext.same s2).trans x4),Po.ext x4 h2⟩
     |cont env2=>exact λB4 σ4 H4 ok4 st4 x4=>⟨B4,env2,ok4,st4,x'.trans ((Ext.same s2).trans x4),Po.ext x4 h2⟩
     |brk env2=>exact h2
     |ret d=>exact h2
  ·left
   have e:i=ds.length:=by omega
   refine⟨wk2 (by omega),?_⟩;rw[e,List.drop_length]at h';exact h' B' σ' H' ok' st' Ext.refl
def kcL {n:Nat}{c:Expr}{b:P.FS}{body:List Stmt}(hp:PassesOwn (model X.prog X.w) X.A X.env X.xe)(hc:zB X own A E c ft)(hb:zQ X own A E H₀ body b):yC X own A E H₀ (.While c body [] pos) (P.uA n ft b):=by
 refine PS.imp (kdE hp hc hb) λD σ H ⟨B,env,ok,st,h⟩=>?_
 refine⟨λm σ' H'=>∃B' env',kY X.K own A B' env' σ' H'/\StS A H₀ B' H'/\Po X.K own A E H₀ B' H' (xM ft b m env') D,⟨n,B,env,ok,st,h⟩,?_⟩;rintro m σ' H' ⟨B',env',ok',st',h'⟩
 cases m with
 |zero=>exact h'.elim
 |succ m=>
  refine⟨B',env',ok',?_⟩
  have h':Po X.K own A E H₀ B' H' (ft env'>>=λc=>if c=true then b env'>>=λo=>(match o with
   |.next env2=>xM ft b m env2
   |.cont env2=>xM ft b m env2
   |.brk env2=>.ok (.next env2)
   |.ret d=>.ok (.ret d)) else .ok (.next env')) D:=h'
  cases q:ft env' with
  |exc c=>rw[q]at h';exact λH2 s=>h' H2 (st'.same.trans s)
  |stuck=>rw[q]at h';exact h'
  |ok k=>
   rw[q]at h';intro H1 s1;have h1:=Po.ext (Ext.same s1) h'
   cases k with
   |false=>
    rw[if_neg Bool.false_ne_true];exact h1 B' σ' H1 (ok'.same s1) (st'.next s1) Ext.refl
   |true=>
    rw[if_pos rfl]
    have h1:Po X.K own A E H₀ B' H1 (b env'>>=λo=>(match o with
     |.next env2=>xM ft b m env2
     |.cont env2=>xM ft b m env2
     |.brk env2=>.ok (.next env2)
     |.ret d=>.ok (.ret d))) D:=h1
    refine⟨λσ2 H2=>∃B2 env2,kY X.K own A B2 env2 σ2 H2/\StS A H₀ B2 H2/\Po X.K own A E H₀ B2 H2 (xM ft b m env2) D,λσ2 H2 n2=>⟨m,Nat.lt_succ_self _,n2⟩,?_⟩;refine⟨B',env',ok'.same s1,st'.next s1,?_⟩
    cases qb:b env' with
    |exc c=>rw[qb]at h1;exact h1
    |stuck=>rw[qb]at h1;exact h1
    |ok o=>
     rw[qb]at h1
     cases o with
     |next env2=>exact λB4 σ4 H4 ok4 st4 x4=>⟨B4,env2,ok4,st4,Po.ext x4 h1⟩
     |cont env2=>exact λB4 σ4 H4 ok4 st4 x4=>⟨B4,env2,ok4,st4,Po.ext x4 h1⟩
     |brk env2=>exact h1
     |ret d=>exact h1
end
mutual
def py:D->PyData
 |.non=>.none
 |.bl b=>.bool b
 |.int i=>.int i
 |.str x=>.str x
 |.tup xs=>.tuple (pys xs)
 |.lst xs=>.list (pys xs)
 |.lsf xs=>.list (pys xs)
 |.dic _ _=>.none
 |.dil _ _=>.none
def pys:List D->List PyData
 | []=>[]
 |x::xs=>py x::pys xs
end
mutual
def Vg:∀ (n m:Nat) (a b:D),a.pl n=true->b.pl m=true->PyData.eqv (py a) (py b)=D.eq a b
 |_,m,.non,b,_,hb=>by cases b <;> first | rfl | (cases m <;> simp[D.pl]at hb)
 |_,m,.bl _,b,_,hb=>by cases b <;> first | rfl | (cases m <;> simp[D.pl]at hb)
 |_,m,.int _,b,_,hb=>by cases b <;> first | rfl | (cases m <;> simp[D.pl]at hb)
 |_,m,.str _,b,_,hb=>by cases b <;> first | rfl | (cases m <;> simp[D.pl]at hb)
 |n+1,m,.tup xs,b,ha,hb=>by
  cases b with
  |tup ys=>
   cases m with
   |zero=>simp[D.pl]at hb
   |succ m=>exact Vd n m xs ys ha hb
  |dic _ _=>cases m <;> simp[D.pl]at hb
  |dil _ _=>cases m <;> simp[D.pl]at hb
  |_=>rfl
 |n+1,m,.lst xs,b,ha,hb=>by
  cases b with
  |lst ys=>
   cases m with
   |zero=>simp[D.pl]at hb
   |succ m=>exact Vd n m xs ys ha hb
  |lsf ys=>
   cases m with
   |zero=>simp[D.pl]at hb
   |succ m=>exact Vd n m xs ys ha hb
  |dic _ _=>cases m <;> simp[D.pl]at hb
  |dil _ _=>cases m <;> simp[D.pl]at hb
  |_=>rfl
 |n+1,m,.lsf xs,b,ha,hb=>by
  cases b with
  |lst ys=>
   cases m with
   |zero=>simp[D.pl]at hb
   |succ m=>exact Vd n m xs ys ha hb
  |lsf ys=>
   cases m with
   |zero=>simp[D.pl]at hb
   |succ m=>exact Vd n m xs ys ha hb
  |dic _ _=>cases m <;> simp[D.pl]at hb
  |dil _ _=>cases m <;> simp[D.pl]at hb
  |_=>rfl
 |0,_,.tup _,_,ha,_=>by simp[D.pl]at ha
 |0,_,.lst _,_,ha,_=>by simp[D.pl]at ha
 |0,_,.lsf _,_,ha,_=>by simp[D.pl]at ha
 |n,_,.dic _ _,_,ha,_=>by cases n <;> simp[D.pl]at ha
 |n,_,.dil _ _,_,ha,_=>by cases n <;> simp[D.pl]at ha
termination_by _ _ a=>sizeOf a
def Vd:∀ (n m:Nat) (xs ys:List D),D.pls n xs=true->D.pls m ys=true->PyData.eqvAll (pys xs) (pys ys)=D.eqs xs ys
 |_,_,[],[],_,_=>rfl
 |_,_,[],_::_,_,_=>rfl
 |_,_,_::_,[],_,_=>rfl
 |n,m,x::xs,y::ys,ha,hb=>by
  have ha':=(Bool.and_eq_true _ _ ▸ (show (D.pl n x&&D.pls n xs)=true from ha):_/\_);have hb':=(Bool.and_eq_true _ _ ▸ (show (D.pl m y&&D.pls m ys)=true from hb):_/\_);show (PyData.eqv (py x) (py y)&&PyData.eqvAll (pys xs) (pys ys))=(D.eq x y&&D.eqs xs ys);rw[Vg n m x y ha'.1 hb'.1,Vd n m xs ys ha'.2 hb'.2]
termination_by _ _ xs=>sizeOf xs
end
mutual
def yf:∀ (n:Nat) (d:D),d.pl n=true->(py d).canLay0=true/\(py d).depth<=n
 |n+1,.tup xs,h=>by
  obtain⟨a,b⟩:=Xn n xs h;exact⟨a,Nat.succ_le_succ b⟩
 |n+1,.lst xs,h=>by
  obtain⟨a,b⟩:=Xn n xs h;exact⟨a,Nat.succ_le_succ b⟩
 |n+1,.lsf xs,h=>by
  obtain⟨a,b⟩:=Xn n xs h;exact⟨a,Nat.succ_le_succ b⟩
 |_,.non,_=>⟨rfl,Nat.zero_le _⟩
 |_,.bl _,_=>⟨rfl,Nat.zero_le _⟩
 |_,.int _,_=>⟨rfl,Nat.zero_le _⟩
 |n,.str x,h=>by cases n <;> exact⟨h,Nat.zero_le _⟩
 |0,.tup _,h=>by simp[D.pl]at h
 |0,.lst _,h=>by simp[D.pl]at h
 |0,.lsf _,h=>by simp[D.pl]at h
 |n,.dic _ _,h=>by cases n <;> simp[D.pl]at h
 |n,.dil _ _,h=>by cases n <;> simp[D.pl]at h
def Xn:∀ (n:Nat) (xs:List D),D.pls n xs=true->PyData.canLayAll0 (pys xs)=true/\PyData.depthAll (pys xs)<=n
 |_,[],_=>⟨rfl,Nat.zero_le _⟩
 |n,x::xs,h=>by
  have h':=(Bool.and_eq_true _ _ ▸ (show (D.pl n x&&D.pls n xs)=true from h):_/\_);obtain⟨a,b⟩:=yf n x h'.1;obtain⟨c,d⟩:=Xn n xs h'.2;refine⟨?_,Nat.max_le.mpr ⟨b,d⟩⟩;show ((py x).canLay0&&PyData.canLayAll0 (pys xs))=true;rw[a,c];rfl
end
section
variable {X:Cx}{pins:List (Addr×Obj)}{σ:L2.St}{H:Hp}{s:Shared}{B:List Addr}
mutual
def reads (I:Inv X pins σ H s):∀ {n:Nat} {d:D} {v:V} {u:Value},d.pl n=true->wK X.K B H d v->RelV v u->∃as,Reads s.heap u (py d) as
 |_,.non,v,u,_,r,e=>by
  rw[show v = .non from r]at e;rw[show u=Value.none from e];exact⟨_,.none⟩
 |_,.bl b,v,u,_,r,e=>by
  rw[show v = .bl b from r]at e;rw[show u=Value.bool b from e];exact⟨_,.bool b⟩
 |_,.int i,v,u,_,r,e=>by
  rw[show v = .int i from r]at e;obtain⟨t,rfl⟩:=(show ∃t,u=Value.int i t from e);exact⟨_,.int i t⟩
 |_,.str x,v,u,_,r,e=>by
  rw[show v = .str x from r]at e;obtain⟨t,rfl⟩:=(show ∃t,u=Value.str x t from e);exact⟨_,.str x t⟩
 |n+1,.tup ds,v,u,hp,r,e=>by
  obtain⟨a,vs,rfl,q,r⟩:=r;rw[show u=Value.ref a from e];obtain⟨its,rv,⟨o,h1,h2,k,h3⟩,_⟩:=I.tuple q;obtain⟨as,ra⟩:=Xh I hp r rv;exact⟨_,.tuple h1 h2 h3 (by simpa using ra)⟩
 |n+1,.lst ds,v,u,hp,r,e=>by
  obtain⟨a,vs,rfl,q,r⟩:=r;rw[show u=Value.ref a from e];obtain⟨its,rv,p,_⟩:=I.list (SqL.of q);obtain⟨o,h1,h2,k,h3⟩:=p.isList;obtain⟨as,ra⟩:=Xh I hp r rv;exact⟨_,.list h1 h2 h3 (by simpa using ra)⟩
 |n+1,.lsf ds,v,u,hp,r,e=>by
  obtain⟨a,vs,rfl,q,r⟩:=r;rw[show u=Value.ref a from e];obtain⟨its,rv,p,_⟩:=I.list q.sq;obtain⟨o,h1,h2,k,h3⟩:=p.isList;obtain⟨as,ra⟩:=Xh I hp r rv;exact⟨_,.list h1 h2 h3 (by simpa using ra)⟩
 |0,.tup _,_,_,h,_,_=>by simp[D.pl]at h
 |0,.lst _,_,_,h,_,_=>by simp[D.pl]at h
 |0,.lsf _,_,_,h,_,_=>by simp[D.pl]at h
 |n,.dic _ _,_,_,h,_,_=>by cases n <;> simp[D.pl]at h
 |n,.dil _ _,_,_,h,_,_=>by cases n <;> simp[D.pl]at h
def Xh (I:Inv X pins σ H s):∀ {n:Nat} {ds:List D} {vs:List V} {us:List Value},D.pls n ds=true->kE X.K B H ds vs->Vals vs us->∃as,ReadsAll s.heap us (pys ds) as
 |_,[],vs,us,_,r,e=>by
  rw[show vs=[] from r]at e;cases e;exact⟨_,.nil⟩
 |n,d::ds,vs,us,hp,r,e=>by
  have h':=(Bool.and_eq_true _ _ ▸ (show (D.pl n d&&D.pls n ds)=true from hp):_/\_);obtain⟨v,r',rfl,q,t⟩:=r
  cases e with
  |cons e1 e2=>
   obtain⟨as,ra⟩:=reads I h'.1 q.top e1;obtain⟨bs,rb⟩:=Xh I h'.2 t e2;exact⟨_,.cons ra rb⟩
end
end
section
variable {X:Cx}
def Ju {n m:Nat}(hu:X.A.units+64 < cLine)(h:n<=40):X.A.units+min n m < cLine:=by
 have:min n m<=n:=Nat.min_le_left _ _;omega
def plain2 {a b:D}(h:(a.plain&&b.plain)=true):a.pl 40=true/\b.pl 40=true:=(Bool.and_eq_true _ _ ▸ h:_/\_)
def wB (hu:X.A.units+64 < cLine):OpS X (compareOp .Eq) P.oEq:=by
 refine⟨λx y c h=>(by unfold P.oEq at h;split at h <;> cases h),λpins s σ H x y v u Q I rx ry ⟨B,dx,dy,d,r1,r2,bt,hg,q⟩=>?_⟩;unfold P.oEq at hg;split at hg
 ·rename_i hp;cases hg;obtain⟨h1,h2⟩:=plain2 hp;obtain⟨as,ra⟩:=reads I h1 r1 rx;obtain⟨bs,rb⟩:=reads I h2 r2 ry;obtain⟨l1,d1⟩:=yf _ _ h1;obtain⟨l2,d2⟩:=yf _ _ h2;refine SeqAt.compareEq_reads ra rb l1 l2 (Ju hu d1) ?_;rw[Vg _ _ _ _ h1 h2];exact⟨.bl _,H,I,rfl,q _ H (kB.refl _) rfl⟩
 ·cases hg
def kbw (hu:X.A.units+64 < cLine):OpS X (compareOp .NotEq) P.oNe:=by
 refine⟨λx y c h=>(by unfold P.oNe at h;split at h <;> cases h),λpins s σ H x y v u Q I rx ry ⟨B,dx,dy,d,r1,r2,bt,hg,q⟩=>?_⟩;unfold P.oNe at hg;split at hg
 ·rename_i hp;cases hg;obtain⟨h1,h2⟩:=plain2 hp;obtain⟨as,ra⟩:=reads I h1 r1 rx;obtain⟨bs,rb⟩:=reads I h2 r2 ry;obtain⟨l1,d1⟩:=yf _ _ h1;obtain⟨l2,d2⟩:=yf _ _ h2;refine SeqAt.compareNe_reads ra rb l1 l2 (Ju hu d1) ?_;rw[Vg _ _ _ _ h1 h2];exact⟨.bl _,H,I,rfl,q _ H (kB.refl _) rfl⟩
 ·cases hg
def x9:Boo P.oEq:=λx y d h=>by unfold P.oEq at h;split at h <;> cases h;exact⟨_,rfl⟩
def kgB:Boo P.oNe:=λx y d h=>by unfold P.oNe at h;split at h <;> cases h;exact⟨_,rfl⟩
def Kn:OpS X (binaryOp .Sub) zT:=by
 refine⟨λx y c h=>(by unfold zT at h;split at h <;> cases h),λpins s σ H x y v u Q I rx ry ⟨B,dx,dy,d,r1,r2,bt,hg,q⟩=>?_⟩;unfold zT at hg;split at hg
 ·cases hg;exact kgC pins s σ H x y v u Q I rx ry ⟨_,_,r1,r2,q _ H (kB.refl _) rfl⟩
 ·cases hg
def vn:OpS X (binaryOp .Mod) P.oMod:=by
 refine⟨λx y c h=>(by unfold P.oMod at h;split at h;(split at h <;> cases h);cases h),λpins s σ H x y v u Q I rx ry ⟨B,dx,dy,d,r1,r2,bt,hg,q⟩=>?_⟩;unfold P.oMod at hg;split at hg
 ·split at hg
  ·rename_i hc;cases hg;exact kgp pins s σ H x y v u Q I rx ry ⟨_,_,r1,r2,hc,q _ H (kB.refl _) rfl⟩
  ·cases hg
 ·cases hg
def kag:OpS X (binaryOp .FloorDiv) P.oDiv:=by
 refine⟨λx y c h=>(by unfold P.oDiv at h;split at h;(split at h <;> cases h);cases h),λpins s σ H x y v u Q I rx ry ⟨B,dx,dy,d,r1,r2,bt,hg,q⟩=>?_⟩;unfold P.oDiv at hg;split at hg
 ·split at hg
  ·rename_i hc;cases hg;exact kfI pins s σ H x y v u Q I rx ry ⟨_,_,r1,r2,hc,q _ H (kB.refl _) rfl⟩
  ·cases hg
 ·cases hg
def kgb:OpS X (binaryOp .Pow) JX:=by
 refine⟨λx y c h=>(by unfold JX at h;split at h;(split at h <;> cases h);cases h),λpins s σ H x y v u Q I rx ry ⟨B,dx,dy,d,r1,r2,bt,hg,q⟩=>?_⟩;unfold JX at hg;split at hg
 ·split at hg
  ·rename_i hc;cases hg;exact kgx pins s σ H x y v u Q I rx ry ⟨_,_,r1,r2,hc,q _ H (kB.refl _) rfl⟩
  ·cases hg
 ·cases hg
def zH:OpS X (compareOp .LtE) P.oLe:=by
 refine⟨λx y c h=>(by unfold P.oLe at h;split at h <;> cases h),λpins s σ H x y v u Q I rx ry ⟨B,dx,dy,d,r1,r2,bt,hg,q⟩=>?_⟩;unfold P.oLe at hg;split at hg
 ·cases hg;exact kis pins s σ H x y v u Q I rx ry ⟨_,_,r1,r2,q _ H (kB.refl _) rfl⟩
 ·cases hg
def khs:OpS X (compareOp .Gt) P.oGt:=by
 refine⟨λx y c h=>(by unfold P.oGt at h;split at h <;> cases h),λpins s σ H x y v u Q I rx ry ⟨B,dx,dy,d,r1,r2,bt,hg,q⟩=>?_⟩;unfold P.oGt at hg;split at hg
 ·cases hg;exact kik pins s σ H x y v u Q I rx ry ⟨_,_,r1,r2,q _ H (kB.refl _) rfl⟩
 ·cases hg
def Vv:Boo P.oLe:=λx y d h=>by
 unfold P.oLe at h;split at h
 ·cases h;exact⟨_,rfl⟩
 ·cases h
def khC:Boo P.oGt:=λx y d h=>by
 unfold P.oGt at h;split at h
 ·cases h;exact⟨_,rfl⟩
 ·cases h
end
end L3
namespace L3
open PySem PySem.Spec PyProof.Rows L2
open P (D Rs Out)
open PySem.AutoSeq1 (wpAny_loadPart')
def Yk:fillsNumberSlot (.type "tuple") "mul" = pure false :=
 PySem.fillsNumberSlot_seq (id:="tuple.__mul__") (r:=some (.builtin "tuple.__rmul__")) F.slot_tuple_mul.lookup (by decide +kernel) F.slot_tuple_rmul.lookup (by decide +kernel)
def uD:seqRepeat? (.type "tuple")=pure (some (.builtin "tuple.__mul__")):=by
 unfold seqRepeat?
 rw[PySem.seqSlot_of (T:="tuple") (name:="__mul__") (id:="tuple.__mul__") F.slot_tuple_mul.lookup (by decide +kernel),PySem.seqSlot_of (T:="tuple") (name:="__rmul__") (id:="tuple.__rmul__") F.slot_tuple_rmul.lookup (by decide +kernel)];rfl
def Z9 (a:Int)(t:Tok)(l:Addr)(items:Array Value)(n:Nat)(dd:Option Addr)(sl:Array (Option Value)) :
 Meets (Builtin.«int.__rmul__» ⟨[.int a t,.ref l],[]⟩) (λ_ R s=>s.heap.get? l=some { cls:=.type "tuple",dict:=dd,data:=.seq items n,slots:=sl }/\R (.ok (.ret Value.notImplemented)) s) :=
 .of_wp λprog w A R s h=>by obtain⟨hp,g,d,tk,os⟩:=s;obtain⟨hl,h⟩:=h;wp_walk using wpAny_loadPart' hl;exact⟨_,rfl,h⟩
def jR (l:Addr)(items:Array Value)(n:Nat)(dd:Option Addr)(sl:Array (Option Value))(u:Tok) :
 Meets (Builtin.«tuple.__mul__» ⟨[.ref l,.int 1 u],[]⟩) (λ_ R s=>s.heap.get? l=some { cls:=.type "tuple",dict:=dd,data:=.seq items n,slots:=sl }/\R (.ok (.ret (.ref l))) s) :=
 .of_wp λprog w A R s h=>by
  obtain⟨hp,g,d,tk,os⟩:=s;obtain⟨hl,h⟩:=h
  have f1:=AutoSeq1.idx_int
  wp_walk using wpAny_loadPart' hl
  exact⟨_,rfl,h⟩
def jf (l:Addr)(items:Array Value)(n:Nat)(dd:Option Addr)(sl:Array (Option Value))(k:Int)(u:Tok)(h0:items.isEmpty=false)(h2:2<=k)(hz:items.size * k.toNat<=sizeLine) :
 Meets (Builtin.«tuple.__mul__» ⟨[.ref l,.int k u],[]⟩) (λ_ R s=>s.heap.get? l=some { cls:=.type "tuple",dict:=dd,data:=.seq items n,slots:=sl } ∧
  R (.ok (.ret (.ref s.heap.objs.size))) { s with heap:=s.heap.push { cls:=.type "tuple",data:=.seq ((List.replicate k.toNat items).foldl (·++·) #[]) } }) :=
 .of_wp λprog w A R s h=>by
  obtain⟨hp,g,d,tk,os⟩:=s;obtain⟨hl,h⟩:=h
  have f1:=AutoSeq1.idx_int
  have hpos:0 < items.size:=by
   cases q:items.size with
   |zero=>simp[Array.isEmpty,q]at h0
   |succ m=>exact Nat.succ_pos m
  have hk:k.toNat<=sizeLine:=Nat.le_trans (Nat.le_mul_of_pos_left _ hpos) hz
  have hk':k<=16777216:=by
   have:(sizeLine:Nat)=16777216:=by decide
   omega
  have c1:(decide (k < -(2 ^ 63))||decide (k ≥ 2 ^ 63))=false:=by
   simp only[Bool.or_eq_false_iff,decide_eq_false_iff_not];omega
  have c2:(items.isEmpty||k==1)=false:=by
   rw[h0,Bool.false_or];exact beq_eq_false_iff_ne.mpr (by omega)
  have c3:(decide (k<=0)||items.isEmpty)=false:=by
   rw[h0,Bool.or_false];exact decide_eq_false (by omega)
  have hki:(items.size:Int) * k=((items.size * k.toNat:Nat):Int):=by
   rw[Int.natCast_mul,Int.toNat_of_nonneg (by omega)]
  have c4:¬ ((items.size:Int) * k > (2 ^ 63 - 1) / 8):=by
   rw[hki];have:(sizeLine:Nat)=16777216:=by decide
   omega
  have c5:Builtin.Tuple.tupleTooMany ((items.size:Int) * k)=false:=by
   rw[hki];unfold Builtin.Tuple.tupleTooMany;exact decide_eq_false (by omega)
  wp_walk using wpAny_loadPart' hl
  refine wpAny_ite_false (by rw[c1];rfl) ?_
  wp_walk using wpAny_loadPart' hl
  refine wpAny_ite_false (by rw[c2];rfl) ?_
  wp_walk using wpAny_loadPart' hl
  refine wpAny_ite_false (by rw[c3];rfl) ?_
  wp_walk using wpAny_loadPart' hl
  refine wpAny_ite ?_;rw[if_neg c4]
  wp_walk using wpAny_loadPart' hl
  refine wpAny_ite_false (by rw[c5];rfl) ?_
  wp_walk using wpAny_loadPart' hl
  refine wpAny_ite_false (decide_eq_false (Nat.not_lt.mpr ?_)) ?_
  ·have e:(List.replicate k.toNat items).foldl (·++·) #[]=(List.replicate k.toNat items.toList).flatten.toArray:=by
    have:=foldl_rep items.toList k.toNat [];simpa using this
   rw[e,zal,len_rep,zao,Nat.mul_comm];exact hz
  wp_walk using wpAny_loadPart' hl
  exact⟨_,rfl,h⟩
section
variable {K:zFr}{B:List Addr}{H:Hp}
def kE.rep {ds:List D}{vs:List V}(h:kE K B H ds vs):∀k:Nat,kE K B H (List.replicate k ds).flatten (List.replicate k vs).flatten
 |0=>rfl
 |k+1=>by
  rw[List.replicate_succ,List.replicate_succ,List.flatten_cons,List.flatten_cons];exact kE.append h (kE.rep h k)
end
section
variable {X:Cx}
def Kh:OpS X (binaryOp .Mult) K7:=by
 refine⟨λx y c h=>(by unfold K7 at h;split at h;(split at h <;> cases h);(split at h <;> cases h);cases h),λpins s σ H x y v u Q I rx ry ⟨B,dx,dy,d,r1,r2,bt,hg,q⟩=>?_⟩;unfold K7 at hg;split at hg
 ·split at hg
  ·rename_i hc
   cases hg;exact kgX pins s σ H x y v u Q I rx ry ⟨_,_,r1,r2,hc,q _ H (kB.refl _) rfl⟩
  ·cases hg
 ·rename_i xs k
  split at hg
  ·rename_i hc
   obtain⟨hne,h1,hz⟩:=hc;cases hg;obtain⟨a,vs,rfl,sq,rr⟩:=r1;rw[show y = .int k from r2]at ry;cases rx;obtain⟨t,rfl⟩:=(show ∃t,u=Value.int k t from ry);obtain⟨its,rv,tp,_⟩:=I.tuple sq;obtain⟨⟨cls,dd,data,sl⟩,ho,hcl,n,hd⟩:=id tp;simp only at hcl hd;subst hcl hd;have hl:its.length=xs.length:=by rw[<- rv.length,rr.length]
   refine wpAny_binaryOp_repeat_ref (T:="tuple") (U:="int") (by decide) ⟨_,ho,rfl⟩ (λs'=>typeIs_int s' k t) Yk F.fills_int_mul F.slot_int_rmul uD F.slot_int_index.lookup
    (call_meets F.slot_int_rmul (typeIs_int s k t) F.entry_int_rmul (F.args_int_rmul_2 _ _) (Z9 k t a its.toArray n dd sl) ⟨ho,rfl,⟨_,ho,rfl⟩,?_⟩)
   by_cases hk:k=1
   ·subst hk
    refine call_meets F.slot_tuple_mul ⟨_,ho,rfl⟩ F.entry_tuple_mul (F.args_tuple_mul_2 _ _) (jR a its.toArray n dd sl t) ⟨ho,?_⟩;refine⟨.ref a,H,I,rfl,q _ H (kB.refl _) ?_⟩;simp only[Int.toNat_one,List.replicate_one,List.flatten_cons,List.flatten_nil,List.append_nil];exact⟨a,vs,rfl,sq,rr⟩
   · have hem:its.toArray.isEmpty = false:=by
       cases its with
       |nil=>
        rw[List.length_nil]at hl;exact absurd (List.length_eq_zero_iff.mp hl.symm) hne
       |cons z r=>rfl
     refine call_meets F.slot_tuple_mul ⟨_,ho,rfl⟩ F.entry_tuple_mul (F.args_tuple_mul_2 _ _) (jf a its.toArray n dd sl k t hem (by omega) (by rw[zal,hl,szL];exact hz)) ⟨ho,?_⟩
     have e:(List.replicate k.toNat its.toArray).foldl (·++·) #[]=(List.replicate k.toNat its).flatten.toArray:=by
      have:=foldl_rep its k.toNat [];simpa using this
     rw[e];have hln:(List.replicate k.toNat vs).flatten.length<=sizeLine:=by rw[len_rep,rr.length,szL,Nat.mul_comm];exact hz
     refine⟨.ref s.heap.objs.size,_,I.laid (t':=s.toks) (o:=.tup (List.replicate k.toNat vs).flatten) (λb ob z=>zac _ z) (zak _) ⟨hln,_,rv.rep k.toNat,IsTup.new _ _⟩,rfl,?_⟩;have hfr:H s.heap.objs.size=none:=I.hok.fresh (zak _);exact q _ _ (kB.upd hfr) ⟨_,_,rfl,SqT.of k9,kE.kp (Kp.of_same (kB.upd hfr)) (kE.rep rr _)⟩
  ·cases hg
 ·cases hg
def vp:OpS X (binaryOp .Add) vZ:=by
 refine⟨λx y c h=>(by unfold vZ at h;split at h;cases h;(split at h <;> cases h);(split at h <;> cases h);(split at h <;> cases h);cases h),λpins s σ H x y v u Q I rx ry ⟨B,dx,dy,d,r1,r2,bt,hg,q⟩=>?_⟩;unfold vZ at hg;split at hg
 ·cases hg;exact kgs pins s σ H x y v u Q I rx ry ⟨_,_,r1,r2,q _ H (kB.refl _) rfl⟩
 ·split at hg
  ·rename_i hc;cases hg;exact kaB pins s σ H x y v u Q I rx ry ⟨_,_,r1,r2,by rw[szL];exact hc,q _ H (kB.refl _) rfl⟩
  ·cases hg
 ·rename_i xs ys;split at hg
  ·rename_i hc;cases hg;obtain⟨a,vs,rfl,sq,rr⟩:=r1;obtain⟨b,us,rfl,sq2,rr2⟩:=r2
   by_cases hx:vs=[]
   ·subst hx;have hxs:xs=[]:=List.length_eq_zero_iff.mp (by rw[<- rr.length];rfl);subst hxs;cases rx;cases ry;obtain⟨its,rv,tp,_⟩:=I.tuple sq;obtain⟨its2,rv2,tp2,_⟩:=I.tuple sq2;cases rv;obtain⟨⟨cls,dd,data,sl⟩,ho,hcl,n,hd⟩:=id tp;obtain⟨⟨cls2,dd2,data2,sl2⟩,ho2,hcl2,n2,hd2⟩:=id tp2;simp only at hcl hd hcl2 hd2;subst hcl hd hcl2 hd2;refine concat_meets ⟨_,ho,rfl⟩ ⟨_,ho2,rfl⟩ noFill_tuple_add seq_tuple_add PySem.F.slot_tuple_add PySem.F.entry_tuple_add (PySem.F.args_tuple_add_2 _ _) (tuple_addW0 a b _ its2.toArray n n2 dd dd2 sl sl2 rfl) ⟨ho,ho2,?_⟩;exact⟨.ref b,H,I,rfl,q _ H (kB.refl _) ⟨b,us,rfl,sq2,rr2⟩⟩
   ·refine kgk pins s σ H _ _ v u Q I rx ry ⟨a,b,vs,us,rfl,rfl,sq,sq2,hx,by rw[rr.length,rr2.length,szL];exact hc,λhu=>?_,λhu p hp=>?_⟩
    ·subst hu;have hys:ys=[]:=List.length_eq_zero_iff.mp (by rw[<- rr2.length];rfl);subst hys;rw[List.append_nil]at q;exact q _ H (kB.refl _) ⟨a,vs,rfl,sq,rr⟩
    ·exact q _ _ (kB.upd hp) ⟨p,_,rfl,SqT.of k9,kE.kp (Kp.of_same (kB.upd hp)) (kE.append rr rr2)⟩
  ·cases hg
 ·split at hg
  ·rename_i hc;cases hg;obtain⟨a,vs,rfl,sq,rr⟩:=r1;obtain⟨b,us,rfl,sq2,rr2⟩:=r2;refine kgL pins s σ H _ _ v u Q I rx ry ⟨a,b,vs,us,rfl,rfl,sq,sq2,by rw[rr.length,rr2.length,szL];exact hc,λp hp=>?_⟩;refine q _ _ (kB.upd hp) ⟨p,_,rfl,λhb=>?_,k9,kE.kp (Kp.of_same (kB.upd hp)) (kE.append rr rr2)⟩;obtain⟨zs,z,_⟩:=bt p hb;rw[hp]at z;cases z
  ·cases hg
 ·cases hg
end
end L3
namespace L3
open PySem PySem.Spec PyProof.Rows L2
open P (D Rs Out)
def Ym (h:Heap)(y:Value):PyData :=
 open Classical in if q:∃d,(∃as,Reads h y d as)/\d.canLay0=true then Classical.choose q else .none
def UW {h:Heap}{y:Value}{d:PyData}{as:List Addr}(r:Reads h y d as)(l:d.canLay0=true):Ym h y=d:=by
 unfold Ym;have q:∃d,(∃as,Reads h y d as)/\d.canLay0=true:=⟨d,⟨as,r⟩,l⟩
 rw[dif_pos q];obtain⟨⟨bs,rb⟩,lb⟩:=Classical.choose_spec q;exact SeqAt.Reads.unique _ _ _ _ _ lb rb r
section
variable {X:Cx}
def in1_units (A:Around):A.in1.units=A.units+1:=rfl
def ZF {pins:List (Addr × Obj)} {σ:L2.St} {H:Hp} {s:Shared} {B:List Addr} (I:Inv X pins σ H s) (hu:X.A.units + 64 < cLine) {dx:D} {x:V} {u:Value} (hx:dx.pl 40 = true) (rx:wK X.K B H dx x) (ru:RelV x u) :
 ∀ {ds:List D} {vs:List V} {us:List Value},D.pls 40 ds=true->kE X.K B H ds vs->Vals vs us →
  (∀y,y∈us->SeqAt.EqAt X.A.in1 s y u (PyData.eqv (Ym s.heap y) (py dx)))/\us.any (λy=>PyData.eqv (Ym s.heap y) (py dx))=D.mem dx ds
 | [],vs,us,_,r,e=>by
  rw[show vs=[] from r]at e;cases e;exact⟨λy hy=>(by cases hy),rfl⟩
 |d::ds,vs,us,hp,r,e=>by
  have h':=(Bool.and_eq_true _ _ ▸ (show (D.pl 40 d&&D.pls 40 ds)=true from hp):_/\_);obtain⟨v,r',rfl,q,t⟩:=r
  cases e with
  | @cons _ y _ ys e1 e2=>
   obtain⟨hf,ef⟩:=ZF I hu hx rx ru h'.2 t e2;obtain⟨as,ra⟩:=reads I h'.1 q.top e1;obtain⟨bs,rb⟩:=reads I hx rx ru;obtain⟨l1,d1⟩:=yf _ _ h'.1;obtain⟨l2,d2⟩:=yf _ _ hx;have er:=UW ra l1
   have k:=SeqAt.eqAt_reads (py d) (py dx) X.A.in1 s y u as bs ra rb l1 l2 (by
    rw[in1_units];have:min (py d).depth (py dx).depth<=(py d).depth:=Nat.min_le_left _ _
    omega)
   refine⟨λz hz=>?_,?_⟩
   ·rcases List.mem_cons.mp hz with e | hz
    ·rw[e,er]
     exact k
    ·exact hf z hz
   ·rw[List.any_cons,er,ef,Vg _ _ _ _ h'.1 hx]
    rfl
def UJ {neg:Bool} {g:P.O2} (hg:g = if neg then P.YQ else P.oIn) {dx dy d:D} (h:g dx dy = .ok d) :
 ∃ys,(dy = .tup ys∨dy = .lst ys)/\dx.pl 40=true/\D.pls 40 ys=true/\d = .bl (if neg then !D.mem dx ys else D.mem dx ys):=by
 subst hg
 cases neg with
 |false=>
  simp only[Bool.false_eq_true,if_false]at h ⊢;unfold P.oIn at h;split at h
  ·split at h
   ·rename_i hp
    cases h;exact⟨_,.inl rfl,(Bool.and_eq_true _ _ ▸ hp:_/\_).1,(Bool.and_eq_true _ _ ▸ hp:_/\_).2,rfl⟩
   ·cases h
  ·split at h
   ·rename_i hp
    cases h;exact⟨_,.inr rfl,(Bool.and_eq_true _ _ ▸ hp:_/\_).1,(Bool.and_eq_true _ _ ▸ hp:_/\_).2,rfl⟩
   ·cases h
  ·cases h
 |true=>
  simp only[if_true]at h ⊢;unfold P.YQ at h;split at h
  ·split at h
   ·rename_i hp
    cases h;exact⟨_,.inl rfl,(Bool.and_eq_true _ _ ▸ hp:_/\_).1,(Bool.and_eq_true _ _ ▸ hp:_/\_).2,rfl⟩
   ·cases h
  ·split at h
   ·rename_i hp
    cases h;exact⟨_,.inr rfl,(Bool.and_eq_true _ _ ▸ hp:_/\_).1,(Bool.and_eq_true _ _ ▸ hp:_/\_).2,rfl⟩
   ·cases h
  ·cases h
def kc1 (x y:D)(c:Nat):P.oIn x y ≠ .exc c:=λh=>by
 unfold P.oIn at h;split at h
 ·split at h <;> cases h
 ·split at h <;> cases h
 ·cases h
def kht (hu:X.A.units+64 < cLine):OpS X (compareOp .In) P.oIn:=by
 refine⟨kc1,λpins s σ H x y v u Q I rx ry ⟨B,dx,dy,d,r1,r2,bt,hg,q⟩=>?_⟩;obtain⟨ys,hy,hx,hp,rfl⟩:=UJ (neg:=false) rfl hg
 rcases hy with rfl | rfl
 ·obtain⟨a,vs,rfl,sq,rr⟩:=r2;cases ry;obtain⟨its,rv,tp,_⟩:=I.tuple sq;obtain⟨he,ea⟩:=ZF I hu hx r1 rx hp rr rv;refine SeqAt.in_tupleAt (λy=>PyData.eqv (Ym s.heap y) (py dx)) tp (λy hy=>he y (by simpa using hy)) ?_;rw[List.any_toArray,ea];exact⟨.bl _,H,I,rfl,q _ H (kB.refl _) rfl⟩
 ·obtain⟨a,vs,rfl,sq,rr⟩:=r2;cases ry;obtain⟨its,rv,tp,_⟩:=I.list (SqL.of sq);obtain⟨he,ea⟩:=ZF I hu hx r1 rx hp rr rv;refine SeqAt.in_listAt (λy=>PyData.eqv (Ym s.heap y) (py dx)) tp.isList (λy hy=>he y (by simpa using hy)) ?_;rw[List.any_toArray,ea];exact⟨.bl _,H,I,rfl,q _ H (kB.refl _) rfl⟩
def khx:Boo P.oIn:=λx y d h=>by
 obtain⟨_,_,_,_,e⟩:=UJ (neg:=false) rfl h;exact⟨_,e⟩
def uT {K:zFr}{B:List Addr}{H:Hp}{ds:List D}{vs:List V}(r:kE K B H ds vs){i:Int}{d:D}(h:P.atI ds i=some d):∃v,L2.atI vs i=some v/\Rep K B H d v:=by
 unfold P.atI at h;unfold L2.atI;have e:L2.ixN vs.length i=P.ixN ds.length i:=by rw[r.length];rfl
 rw[e]
 cases q:P.ixN ds.length i with
 |none=>rw[q]at h;cases h
 |some j=>
  rw[q]at h;exact kE.get r h
def qx {own:List Bool}{A:List Addr}{E:Nat->Hp->Prop}{w:Bool}{a b:Expr}{fa fb:P.FE}{pos:Pos}(ha:Snd X own A E true a fa)(hb:Snd X own A E true b fb)(hs:Zx b:=by intro _ _;rfl) :
 Snd X own A E w (.Subscript a b pos) (kJ P.oIx fa fb):=by
 refine Snd.any (PE.imp (kew kg6 ha hb hs) λσ H Q h=>Ze (g:=P.oIx) (λx y c h=>?_) h λB dx dy d x y H2 r1 r2 bt hg q=>?_)
 ·unfold P.oIx at h;split at h
  ·split at h <;> cases h
  ·split at h <;> cases h
  ·split at h <;> cases h
  ·cases h
 ·unfold P.oIx at hg;split at hg
  ·split at hg
   ·rename_i e;cases hg;obtain⟨p,vs,rfl,sq,rr⟩:=r1;obtain⟨v,h1,h2⟩:=uT rr e;exact .inr (.inl ⟨p,vs,_,v,rfl,r2,sq,h1,q _ H2 (kB.refl _) h2⟩)
   ·cases hg
  ·split at hg
   ·rename_i e;cases hg;obtain⟨p,vs,rfl,sq,rr⟩:=r1;obtain⟨v,h1,h2⟩:=uT rr e;exact .inl ⟨p,vs,_,v,rfl,r2,SqL.of sq,h1,q _ H2 (kB.refl _) h2⟩
   ·cases hg
  ·split at hg
   ·rename_i e;cases hg;obtain⟨p,vs,rfl,sq,rr⟩:=r1;obtain⟨v,h1,h2⟩:=uT rr e;exact .inl ⟨p,vs,_,v,rfl,r2,sq.sq,h1,q _ H2 (kB.refl _) h2⟩
   ·cases hg
  ·cases hg
def vX {w:Bool}{K:zFr}{B:List Addr}{H:Hp}{d:D}{vs:List V}(r:KN w K B H [d] vs):∃v,vs=[v]/\QF w K B H d v:=by
 cases r with
 |cons a t=>cases t;exact⟨_,rfl,a⟩
def qM:Q3 X (.builtin "len") vD:=by
 refine⟨λds c h=>?_,λpins s σ H vs us Q I r ⟨B,ds,d,rr,bt,hg,q⟩=>?_⟩
 ·unfold vD at h;split at h
  ·cases h
  ·cases h
  ·cases h
  ·split at h <;> cases h
  ·cases h
 ·unfold vD at hg;split at hg
  ·cases hg;obtain⟨v,rfl,rv⟩:=vX rr;obtain⟨a,ws,rfl,sq,rs⟩:=rv;refine Vn pins s σ H _ us Q I r ⟨a,ws,rfl,.inr sq,?_⟩;rw[rs.length];exact q _ H (kB.refl _) rfl
  ·cases hg;obtain⟨v,rfl,rv⟩:=vX rr;obtain⟨a,ws,rfl,sq,rs⟩:=rv;refine Vn pins s σ H _ us Q I r ⟨a,ws,rfl,.inl (SqL.of sq),?_⟩;rw[rs.length];exact q _ H (kB.refl _) rfl
  ·cases hg;obtain⟨v,rfl,rv⟩:=vX rr;obtain⟨a,ws,rfl,sq,rs⟩:=rv;refine Vn pins s σ H _ us Q I r ⟨a,ws,rfl,.inl sq.sq,?_⟩;rw[rs.length];exact q _ H (kB.refl _) rfl
  ·split at hg
   ·rename_i hl;cases hg;obtain⟨v,rfl,rv⟩:=vX rr;exact JK pins s σ H _ us Q I r ⟨_,by rw[show v=_ from rv],by rw[szL];exact hl,q _ H (kB.refl _) rfl⟩
   ·cases hg
  ·cases hg
def vP:Q3 X (.type "tuple") wR:=by
 refine⟨λds c h=>?_,λpins s σ H vs us Q I r ⟨B,ds,d,rr,bt,hg,q⟩=>?_⟩
 ·unfold wR at h
  split at h <;> cases h
 ·unfold wR at hg;split at hg
  ·cases hg;obtain⟨v,rfl,rv⟩:=vX rr;obtain⟨a,ws,rfl,sq,rs⟩:=rv;exact WV pins s σ H _ us Q I r ⟨a,ws,rfl,.inr ⟨sq,q _ H (kB.refl _) ⟨a,ws,rfl,sq,rs⟩⟩⟩
  ·cases hg;obtain⟨v,rfl,rv⟩:=vX rr;obtain⟨a,ws,rfl,sq,rs⟩:=rv;exact WV pins s σ H _ us Q I r ⟨a,ws,rfl,.inl ⟨SqL.of sq,λl hl=>q _ _ (kB.upd hl) ⟨l,ws,rfl,SqT.of k9,kE.kp (Kp.of_same (kB.upd hl)) rs⟩⟩⟩
  ·cases hg
def Ja (X:Cx)(f:Value)(g:P.Fn):Prop:=(∀ds c,g ds ≠ .exc c) ∧
 Kv X f (λvs H Q=>∃B ds d,KN true X.K B H ds vs/\(∀b∈B,∃o,H b=some o/\Mut (some o))/\g ds = .ok d/\∀v H',kB H H'->FrL X.K B H H' d v->Q v H')
def Ja.s {f:Value}{g:P.Fn}(h:Ja X f g):Q3 X f g:=by
 refine⟨h.1,λpins s σ H vs us Q I r ⟨B,ds,d,rr,bt,hg,q⟩=>h.2 pins s σ H vs us Q I r ⟨B,ds,d,rr,bt,hg,λv H' s' fr=>?_⟩⟩;refine q _ H' s' (fr.rep λp hp hb=>?_);obtain⟨zs,z,_⟩:=bt p hb;rw[hp]at z;cases z
def Y6:Ja X (.type "list") Wv:=by
 refine⟨λds c h=>?_,λpins s σ H vs us Q I r ⟨B,ds,d,rr,bt,hg,q⟩=>?_⟩
 ·unfold Wv at h
  split at h <;> cases h
 ·unfold Wv at hg;split at hg
  ·cases hg;obtain⟨v,rfl,rv⟩:=vX rr;obtain⟨a,ws,rfl,sq,rs⟩:=rv;exact Xe pins s σ H _ us Q I r ⟨a,ws,rfl,.inr sq,λl hl=>q _ _ (kB.upd hl) ⟨l,rfl,hl,ws,k9,kE.kp (Kp.of_same (kB.upd hl)) (kE.more hl rs)⟩⟩
  ·cases hg;obtain⟨v,rfl,rv⟩:=vX rr;obtain⟨a,ws,rfl,sq,rs⟩:=rv;exact Xe pins s σ H _ us Q I r ⟨a,ws,rfl,.inl (SqL.of sq),λl hl=>q _ _ (kB.upd hl) ⟨l,rfl,hl,ws,k9,kE.kp (Kp.of_same (kB.upd hl)) (kE.more hl rs)⟩⟩
  ·cases hg
end
section
variable {X:Cx}{own:List Bool}{A:List Addr}{E:Nat->Hp->Prop}{w:Bool}{a b e:Expr}{fa fb:P.FE}{pos p1 p2:Pos}
def kgc (K:zFr):∀d,PySem.W.kitOne K (.type (P.tyN d)) (.type "int")=some (P.isInt d)
 |.non=>by unfold PySem.W.kitOne PySem.W.kitCls;kernel_rfl
 |.bl _=>by unfold PySem.W.kitOne PySem.W.kitCls;kernel_rfl
 |.int _=>by unfold PySem.W.kitOne PySem.W.kitCls;kernel_rfl
 |.str _=>by unfold PySem.W.kitOne PySem.W.kitCls;kernel_rfl
 |.tup _=>by unfold PySem.W.kitOne PySem.W.kitCls;kernel_rfl
 |.lst _=>by unfold PySem.W.kitOne PySem.W.kitCls;kernel_rfl
 |.lsf _=>by unfold PySem.W.kitOne PySem.W.kitCls;kernel_rfl
 |.dic _ _=>by unfold PySem.W.kitOne PySem.W.kitCls;kernel_rfl
 |.dil _ _=>by unfold PySem.W.kitOne PySem.W.kitCls;kernel_rfl
def kdn (K:zFr):∀d,PySem.W.kitOne K (.type (P.tyN d)) (.type "bool")=some (P.isBool d)
 |.non=>by unfold PySem.W.kitOne PySem.W.kitCls;kernel_rfl
 |.bl _=>by unfold PySem.W.kitOne PySem.W.kitCls;kernel_rfl
 |.int _=>by unfold PySem.W.kitOne PySem.W.kitCls;kernel_rfl
 |.str _=>by unfold PySem.W.kitOne PySem.W.kitCls;kernel_rfl
 |.tup _=>by unfold PySem.W.kitOne PySem.W.kitCls;kernel_rfl
 |.lst _=>by unfold PySem.W.kitOne PySem.W.kitCls;kernel_rfl
 |.lsf _=>by unfold PySem.W.kitOne PySem.W.kitCls;kernel_rfl
 |.dic _ _=>by unfold PySem.W.kitOne PySem.W.kitCls;kernel_rfl
 |.dil _ _=>by unfold PySem.W.kitOne PySem.W.kitCls;kernel_rfl
def VF (K:zFr):∀d,PySem.W.kitOne K (.type (P.tyN d)) (.type "tuple")=some (P.isTup d)
 |.non=>by unfold PySem.W.kitOne PySem.W.kitCls;kernel_rfl
 |.bl _=>by unfold PySem.W.kitOne PySem.W.kitCls;kernel_rfl
 |.int _=>by unfold PySem.W.kitOne PySem.W.kitCls;kernel_rfl
 |.str _=>by unfold PySem.W.kitOne PySem.W.kitCls;kernel_rfl
 |.tup _=>by unfold PySem.W.kitOne PySem.W.kitCls;kernel_rfl
 |.lst _=>by unfold PySem.W.kitOne PySem.W.kitCls;kernel_rfl
 |.lsf _=>by unfold PySem.W.kitOne PySem.W.kitCls;kernel_rfl
 |.dic _ _=>by unfold PySem.W.kitOne PySem.W.kitCls;kernel_rfl
 |.dil _ _=>by unfold PySem.W.kitOne PySem.W.kitCls;kernel_rfl
def J9 (K:zFr):∀d,PySem.W.kitOne K (.type (P.tyN d)) (.type "list")=some (KQ d)
 |.non=>by unfold PySem.W.kitOne PySem.W.kitCls;kernel_rfl
 |.bl _=>by unfold PySem.W.kitOne PySem.W.kitCls;kernel_rfl
 |.int _=>by unfold PySem.W.kitOne PySem.W.kitCls;kernel_rfl
 |.str _=>by unfold PySem.W.kitOne PySem.W.kitCls;kernel_rfl
 |.tup _=>by unfold PySem.W.kitOne PySem.W.kitCls;kernel_rfl
 |.lst _=>by unfold PySem.W.kitOne PySem.W.kitCls;kernel_rfl
 |.lsf _=>by unfold PySem.W.kitOne PySem.W.kitCls;kernel_rfl
 |.dic _ _=>by unfold PySem.W.kitOne PySem.W.kitCls;kernel_rfl
 |.dil _ _=>by unfold PySem.W.kitOne PySem.W.kitCls;kernel_rfl
def khj {pins:List (Addr × Obj)} {σ:L2.St} {H:Hp} {s:Shared} {B:List Addr} {d:D} {v:V} {u c:Value} {k:Bool} {Q:Value -> Shared -> Prop} {AA:Around} {EE:Value -> Shared -> Prop} (I:Inv X pins σ H s) (r:wK X.K B H d v) (ru:RelV v u)
 (hk:PySem.W.kitOne X.K (.type (P.tyN d)) c=some k) (h:∀tk,Q (.bool k) { s with toks:=tk }):wpAny (model X.prog X.w) AA (call (.builtin "isinstance") [u,c]) Q EE s:=by
 cases d with
 |non=>
  rw[show v = .non from r]at ru;cases (show u=Value.none from ru);exact PySem.W.kia_one PySem.W.kitx_none I.kIn True.intro hk (λz=>nomatch z) h
 |bl y=>
  rw[show v = .bl y from r]at ru;cases (show u=Value.bool y from ru);exact PySem.W.kia_one PySem.W.kitx_bool I.kIn True.intro hk (λz=>nomatch z) h
 |int i=>
  rw[show v = .int i from r]at ru;obtain⟨t,q⟩:=(show ∃t,u=Value.int i t from ru);cases q;exact PySem.W.kia_one PySem.W.kitx_int I.kIn True.intro hk (λz=>nomatch z) h
 |str y=>
  rw[show v = .str y from r]at ru;obtain⟨t,q⟩:=(show ∃t,u=Value.str y t from ru);cases q;exact PySem.W.kia_one PySem.W.kitx_str I.kIn True.intro hk (λz=>nomatch z) h
 |tup ds=>
  obtain⟨p,vs,rfl,sq,_⟩:=r;cases (show u=Value.ref p from ru);obtain⟨its,_,⟨o,h1,h2,_⟩,_⟩:=I.tuple sq;exact PySem.W.kia_one PySem.W.kitx_tuple I.kIn ⟨o,h1,h2⟩ hk (λz=>nomatch z) h
 |lst ds=>
  obtain⟨p,vs,rfl,sq,_⟩:=r;cases (show u=Value.ref p from ru);obtain⟨its,_,pl,_⟩:=I.list (SqL.of sq);obtain⟨o,h1,h2,_⟩:=pl.isList;exact PySem.W.kia_one PySem.W.kitx_list I.kIn ⟨o,h1,h2⟩ hk (λz=>nomatch z) h
 |lsf ds=>
  obtain⟨p,vs,rfl,sq,_⟩:=r;cases (show u=Value.ref p from ru);obtain⟨its,_,pl,_⟩:=I.list sq.sq;obtain⟨o,h1,h2,_⟩:=pl.isList;exact PySem.W.kia_one PySem.W.kitx_list I.kIn ⟨o,h1,h2⟩ hk (λz=>nomatch z) h
 |dic ks vs=>
  obtain⟨p,xs,kv,ws,rfl,sq,_⟩:=r;cases (show u=Value.ref p from ru);obtain⟨⟨o,es,ep,h1,h2,_⟩,_⟩:=I.hok _ _ sq;exact PySem.W.kia_one PySem.W.kitx_dict I.kIn ⟨o,h1,h2.1⟩ hk (λz=>nomatch z) h
 |dil ks vs=>
  obtain⟨p,kvs,rfl,_,sq,_⟩:=r;cases (show u=Value.ref p from ru);obtain⟨_,_,_,_,⟨o,es,ep,h1,h2,_⟩⟩:=I.hok _ _ sq;exact PySem.W.kia_one PySem.W.kitx_dict I.kIn ⟨o,h1,h2.1⟩ hk (λz=>nomatch z) h
def kd1 {T:String}{p:D->Bool}(hk:∀d,PySem.W.kitOne X.K (.type (P.tyN d)) (.type T)=some (p d)) :
 Kv X (.builtin "isinstance") (λxs H Q=>∃B d x,xs=[x,.ty T]/\wK X.K B H d x/\Q (.bl (p d)) H):=by
 intro pins s σ H xs us Q I r ⟨B,d,x,e,rx,q⟩;subst e;obtain⟨u,c,rfl,ru,rc⟩:=vals2 r;cases (show c=Value.type T from rc);exact khj I rx ru (hk d) λtk=>⟨.bl (p d),H,I.tok tk,rfl,q⟩
def Ke {T:String}{T':Str}{p:D->Bool}(hk:∀K d,PySem.W.kitOne K (.type (P.tyN d)) (.type T)=some (p d))(ha:Snd X own A E true a fa)(hm:X.mg "isinstance" = none)(hmT:X.mg T'=none)
 (hv:bootBuiltins "isinstance" = some (.builtin "isinstance"):=by kernel_rfl) (hvT:bootBuiltins T'=some (.type T):=by kernel_rfl) (hg:Gl X "isinstance":=by rfl) (hgT:Gl X T':=by rfl)
 (hnT:T' ≠ "__name__":=by decide) (hdT:(T'==("__debug__":Str))=false:=by decide) (he:starEach [a,.Name T' p2] X.env=(false,eval a X.env)::starEach [.Name T' p2] X.env:=by rfl) :
 Snd X own A E w (.Call (.Name "isinstance" p1) [a,.Name T' p2] [] pos) (P.cUn (P.bIs p) fa):=by
 refine Snd.any (PE.imp (Wf (kd1 (hk X.K)) hg hm hv (qE ha (qE (kak hgT hmT hvT (v:=.ty T) rfl hnT hdT) vS) he) (he:=he)) λσ H Q ⟨B,env,ok,h⟩=>?_);refine vG ok (show Pst false X.K B E H (fa env>>=λx=>P.bIs p x) Q from h) λx v H1 e1 s1 ok1 r1 h1=>?_
 exact⟨B,x,v,rfl,r1,h1 _ H1 (kB.refl _) rfl⟩
def PR (K:zFr)(own:List Bool)(A:List Addr)(E:Nat->Hp->Prop)(f:P.Env->Rs (Option Int)):TO:=λσ H Q=>∃B env,kY K own A B env σ H/\match f env with
 |.ok i=>∀H',kB H H'->Q i H'
 |.exc c=>∀H',kB H H'->E c H'
 |.stuck=>False
def kaN (X:Cx)(own:List Bool)(A:List Addr)(E:Nat->Hp->Prop)(o:Option Expr)(f:P.Env->Rs (Option Int)):Prop:=PO X o (PR X.K own A E f)
def PO.imp {X:Cx}{e:Option Expr}{t t':TO}(h:PO X e t)(i:∀σ H Q,t' σ H Q->t σ H Q):PO X e t':=λpins s σ H Q I q=>h pins s σ H Q I (i σ H Q q)
def jz:kaN X own A E none Wg:=PO.imp kfa λσ H Q ⟨B,env,ok,h⟩=>h H (kB.refl _)
def jl (ha:Snd X own A E true a fa):kaN X own A E (some a) (VI fa):=by
 refine PO.imp (kff ha) λσ H Q ⟨B,env,ok,h⟩=>?_
 refine Q7 (E:=E) (R:=λH (r:Rs (Option Int))=>match r with | .ok b=>∀H',kB H H'->Q b H' | .exc c=>∀H',kB H H'->E c H' | .stuck=>False) ok (λ{r H1} s h=>?_) (λc h=>h) (λh=>h)
  (show (match fa env>>=λx=>(match x with | .int i=>Rs.ok (some i) | _=>.stuck) with | .ok b=>∀H',kB H H'->Q b H' | .exc c=>∀H',kB H H'->E c H' | .stuck=>False) from h) λx v H1 e1 s1 ok1 r1 h1=>?_
 ·cases r with
  |ok b=>exact λH2 s2=>h H2 (s.trans s2)
  |exc c=>exact λH2 s2=>h H2 (s.trans s2)
  |stuck=>exact h
 ·cases x with
  |int i=>exact⟨i,r1,h1 H1 (kB.refl _)⟩
  |_=>exact h1.elim
def kbE {K:zFr}{B:List Addr}{H:Hp}{ds:List D}{vs:List V}(r:kE K B H ds vs)(lo hi:Option Int):kE K B H (P.cut ds lo hi) (Xa vs lo hi):=by
 unfold P.cut Xa
 have e:∀n d o,HT.sIx n d o=P.sIx n d o:=λn d o=>by cases o <;> rfl
 rw[e,e,r.length];exact kE.take _ (kE.drop _ r)
end
section
variable {X:Cx}{own:List Bool}{A:List Addr}{E:Nat->Hp->Prop}{w:Bool}{a b e tg iter:Expr}{fa fb:P.FE}{pos p1 p2:Pos}
def iSq (K:zFr)(tl:TE):TI:=λσ H R=>tl σ H λx H1=>∃a,x = .ref a/\(((∃xs,SqL K H1 a xs)/\R (Itl K a) H1)∨((∃xs,SqT K H1 a xs)/\R (Itt K a) H1))
def kgy {l:Expr}{tl:TE}(hl:PE X l tl):PI X tg l (iSq X.K tl):=by
 intro pins s σ H R I h;refine thn (hl pins s σ H _ I h) λv s1 ⟨x,H1,I1,r1,q1⟩=>?_
 obtain⟨a,e,q⟩:=q1;subst e;cases r1
 rcases q with ⟨⟨xs,hq⟩,q⟩ | ⟨⟨xs,hq⟩,q⟩
 ·obtain⟨its,rv,p,hz⟩:=I1.list hq;refine wpAny_pyIter_list p.isList ?_;refine⟨s1.heap.objs.size,[s1.heap.objs.size],_,_,H1,rfl,I1.kept (t':=s1.toks) λb o e=>zac _ e,kbV a _,⟨_,zag _ rfl,rfl,rfl⟩,λb hb=>?_,q⟩;have e:b=s1.heap.objs.size:=by simpa using hb
  subst e;exact I1.K8 (zak _) (I1.hok.fresh (zak _))
 ·obtain⟨its,rv,p,hz⟩:=I1.tuple hq;refine wpAny_pyIter_tuple (show s1.heap.IsTuple a its.toArray from p) ?_;refine⟨s1.heap.objs.size,[s1.heap.objs.size],_,_,H1,rfl,I1.kept (t':=s1.toks) λb o e=>zac _ e,ka9 a _,⟨_,zag _ rfl,rfl,rfl⟩,λb hb=>?_,q⟩;have e:b=s1.heap.objs.size:=by simpa using hb
  subst e;exact I1.K8 (zak _) (I1.hok.fresh (zak _))
def kdI {K:zFr}{C B:List Addr}{H:Hp}{a:Addr}{ds:List D}{vs:List V}(hs:∀a∈C,a∈B)(q:SqT K H a vs)(r:kE K B H ds vs):Walk K C B H (Itt K a) ds:=λB' H' x i=>by
 have q':=SqT.kp x.kp q;have r':=kE.ext (x.less hs) r;refine⟨λd hd=>?_,λhl=>⟨vs,q',by rw[r'.length];exact Nat.le_of_eq hl⟩⟩;obtain⟨v,hv,rv⟩:=kE.get r' hd;refine⟨⟨vs,v,q',hv⟩,λy H2 ⟨e,hy⟩=>?_⟩;subst e;have:=hy vs q';rw[hv]at this;cases this;exact⟨kB.refl _,rv⟩
def uI {K:zFr}{C B:List Addr}{H:Hp}{a:Addr}{ds:List D}{vs:List V}(hs:∀a∈C,a∈B)(hn:a∉C)(q:H a=some (.lst vs))(r:kE K B H ds vs):Walk K C B H (Itl K a) ds:=λB' H' x i=>by
 have q':=x.kp _ _ q (.inl hn);have r':=kE.ext (x.less hs) r;refine⟨λd hd=>?_,λhl=>⟨vs,SqL.of q',by rw[r'.length];exact Nat.le_of_eq hl⟩⟩;obtain⟨v,hv,rv⟩:=kE.get r' hd;refine⟨⟨vs,v,SqL.of q',hv⟩,λy H2 ⟨e,hy⟩=>?_⟩;subst e;have:=hy vs (SqL.of q');rw[hv]at this;cases this;exact⟨kB.refl _,rv⟩
def kdV {K:zFr}{C B:List Addr}{H:Hp}{a:Addr}{ds:List D}{vs:List V}(hs:∀a∈C,a∈B)(q:SqF K H a vs)(r:kE K B H ds vs):Walk K C B H (Itl K a) ds:=λB' H' x i=>by
 have q':=(SqF.kp x.kp q).sq;have r':=kE.ext (x.less hs) r;refine⟨λd hd=>?_,λhl=>⟨vs,q',by rw[r'.length];exact Nat.le_of_eq hl⟩⟩;obtain⟨v,hv,rv⟩:=kE.get r' hd;refine⟨⟨vs,v,q',hv⟩,λy H2 ⟨e,hy⟩=>?_⟩;subst e;have:=hy vs q';rw[hv]at this;cases this;exact⟨kB.refl _,rv⟩
def Kz {c:Bool}{B:List Addr}:∀a∈(if c=true then [] else B),a∈B:=λa h=>by
 cases c with
 |true=>exact nomatch (show a∈([]:List Addr) from h)
 |false=>exact h
def Va {c:Bool}{B:List Addr}{env:P.Env}{σ:L2.St}{H:Hp}{k:D->Rs (List D)}{R:It->Hp->Prop}{Q':VK}(ok:kY X.K own A B env σ H)
 (h:match fa env>>=k with | .ok ds=>∀J H',kB H H'->Walk X.K (if c=true then [] else B) B H' J ds->R J H' | .exc c=>∀H',kB H H'->E c H' | .stuck=>False)
 (hq:∀x v H1,kB H H1->kY X.K own A B env σ H1->QF w X.K B H1 x v →
  (match k x with | .ok ds=>∀J H',kB H1 H'->Walk X.K (if c=true then [] else B) B H' J ds->R J H' | .exc c=>∀H',kB H1 H'->E c H' | .stuck=>False)->Q' v H1):ER w X.K own A E fa σ H Q':=by
 refine Q7 (E:=E) (R:=λH (r:Rs (List D))=>match r with | .ok ds=>∀J H',kB H H'->Walk X.K (if c=true then [] else B) B H' J ds->R J H' | .exc c=>∀H',kB H H'->E c H' | .stuck=>False) ok (λ{r H1} s h=>?_) (λc h=>h) (λh=>h) h
  λx v H1 _ s ok1 r1 h1=>hq x v H1 s ok1 r1 h1
 cases r with
 |ok b=>exact λJ H2 s2 wk=>h J H2 (s.trans s2) wk
 |exc c=>exact λH2 s2=>h H2 (s.trans s2)
 |stuck=>exact h
def wQ {c:Bool}(ha:Snd X own A E c a fa):Xf X own A E c tg a (zx fa):=by
 refine PI.imp (kgy ha) λσ H R ⟨B,env,ok,h⟩=>?_
 refine Va ok (show (match fa env>>=λx=>(match x with | .tup xs=>Rs.ok xs | .lst xs=>.ok xs | .lsf xs=>.ok xs | _=>.stuck) with | .ok ds=>∀J H',kB H H'->Walk X.K (if c=true then [] else B) B H' J ds->R J H' | .exc c=>∀H',kB H H'->E c H' | .stuck=>False) from h)
  λx v H1 s1 ok1 r1 h1=>?_
 cases x with
 |tup ds=>
  obtain⟨p,vs,rfl,sq,rr⟩:=r1.top;exact⟨p,rfl,.inr ⟨⟨vs,sq⟩,h1 _ H1 (kB.refl _) (kdI Kz sq rr)⟩⟩
 |lst ds=>
  cases c with
  |true=>
   obtain⟨p,vs,rfl,sq,rr⟩:=r1;exact⟨p,rfl,.inl ⟨⟨vs,SqL.of sq⟩,h1 _ H1 (kB.refl _) (uI Kz (λz=>nomatch (show p∈([]:List Addr) from z)) sq rr)⟩⟩
  |false=>
   obtain⟨p,vs,rfl,hn,sq,rr⟩:=r1;exact⟨p,rfl,.inl ⟨⟨vs,SqL.of sq⟩,h1 _ H1 (kB.refl _) (uI Kz hn sq rr)⟩⟩
 |lsf ds=>
  obtain⟨p,vs,rfl,sq,rr⟩:=r1.top;exact⟨p,rfl,.inl ⟨⟨vs,sq.sq⟩,h1 _ H1 (kB.refl _) (kdV Kz sq rr)⟩⟩
 |_=>exact h1.elim
def zU:∀ (n:Nat) (lo:Int) (i:Nat),(P.upTo lo n)[i]?=if i < n then some (D.int (lo+i)) else none
 |0,_,_=>by simp[P.upTo]
 |n+1,lo,0=>by simp[P.upTo]
 |n+1,lo,i+1=>by
  show (P.upTo (lo+1) n)[i]?=_;rw[zU n (lo+1) i]
  by_cases h:i < n
  ·rw[if_pos h,if_pos (Nat.succ_lt_succ h)]
   congr 2
   push_cast
   omega
  ·rw[if_neg h,if_neg (λz=>h (Nat.lt_of_succ_lt_succ z))]
def wo:∀ (n:Nat) (lo:Int),(P.upTo lo n).length=n
 |0,_=>rfl
 |n+1,lo=>by
  show (P.upTo (lo+1) n).length+1=n+1;rw[wo n]
def kdC {K:zFr}{C B:List Addr}{H:Hp}{lo:Int}{n:Nat}:Walk K C B H (Itr lo n) (P.upTo lo n):=λB' H' x i=>by
 refine⟨λd hd=>?_,λhl=>by rw[wo]at hl;exact Nat.le_of_eq hl⟩;rw[zU]at hd
 by_cases h:i < n
 ·rw[if_pos h]at hd;cases hd;refine⟨h,λy H2 ⟨e,hy⟩=>?_⟩;subst e hy;exact⟨kB.refl _,rfl⟩
 ·rw[if_neg h]at hd;cases hd
def yz {c:Bool} (ha:Snd X own A E true a fa) (hm:X.mg "range" = none) (hg:Gl X "range":=by rfl) (hs:starEach [a] X.env = [(false,eval a X.env)]:=by rfl) :
 Xf X own A E c tg (.Call (.Name "range" p1) [a] [] pos) (yw fa):=by
 refine PI.imp (kcn hg hm (qE ha vS hs) hs) λσ H R ⟨B,env,ok,h⟩=>?_
 refine Va ok (show (match fa env>>=λx=>(match x with | .int j=>if -(2 ^ 62)<=j/\j < 2 ^ 62 then Rs.ok (P.upTo 0 j.toNat) else .stuck | _=>.stuck) with | .ok ds=>∀J H',kB H H'->Walk X.K (if c=true then [] else B) B H' J ds->R J H' | .exc c=>∀H',kB H H'->E c H' | .stuck=>False) from h)
  λx v H1 s1 ok1 r1 h1=>?_
 cases x with
 |int j=>
  by_cases hj:-(2 ^ 62)<=j/\j < 2 ^ 62
  ·simp only[hj,and_self,if_true]at h1
   exact⟨j,by rw[show v = .int j from r1],hj.1,hj.2,h1 _ H1 (kB.refl _) kdC⟩
  ·simp only[hj,if_false]at h1
 |_=>exact h1.elim
def Yu {K:zFr}{B:List Addr}{H:Hp}:∀ {ds:List D} {vs:List V} {us:List Value},ds.all P.isBool=true->kE K B H ds vs->Vals vs us->us=ds.map λd=>Value.bool d.tru
 | [],vs,us,_,r,e=>by
  rw[show vs=[] from r]at e;cases e;rfl
 |d::ds,vs,us,hb,r,e=>by
  obtain⟨v,r',rfl,q,t⟩:=r
  cases e with
  |cons e1 e2=>
   rw[List.all_cons]at hb;have hb':=(Bool.and_eq_true _ _ ▸ hb:_/\_);rw[zat,Yu hb'.2 t e2]
   cases d with
   |bl k=>
    rw[show v = .bl k from q]at e1;rw[show _=Value.bool k from e1];rfl
   |_=>cases hb'.1
def all_range (ds:List D)(p:D->Bool):(List.range ds.length).all (λi=>p (ds.getD i .non))=ds.all p:=by
 induction ds with
 |nil=>rfl
 |cons d ds ih=>
  rw[zam,List.range_succ_eq_map,List.all_cons,List.all_map,List.all_cons]
  congr 1
def any_range (ds:List D)(p:D->Bool):(List.range ds.length).any (λi=>p (ds.getD i .non))=ds.any p:=by
 induction ds with
 |nil=>rfl
 |cons d ds ih=>
  rw[zam,List.range_succ_eq_map,List.any_cons,List.any_map,List.any_cons]
  congr 1
def Kg (hc:X.calm=true):Q3 X (.builtin "all") QI:=by
 refine⟨λds c h=>?_,λpins s σ H vs us Q I r ⟨B,ds,d,rr,bt,hg,q⟩=>?_⟩
 ·unfold QI at h
  split at h
  ·split at h <;> cases h
  ·cases h
 ·unfold QI at hg
  split at hg
  ·rename_i xs
   split at hg
   ·rename_i hb
    cases hg;obtain⟨v,rfl,rv⟩:=vX rr;obtain⟨a,ws,rfl,sq,rs⟩:=rv;obtain⟨u,rfl,ru⟩:=vals1 r;cases ru;obtain⟨its,rv,pl,_⟩:=I.list (SqL.of sq);have ei:=Yu hb rs rv;have hh:X.A.in1.handled=none:=I.ok.hd hc;refine call_all_walk (wpAny_pyIter_list pl.isList ?_)
    refine⟨s.heap.objs.size,_,_,_,_,_,λi=>(xs.getD i .non).tru,rfl,Walks.list hh s.heap.objs.size a (zas (I.hok.lt sq)) its.toArray,
     ⟨⟨_,zag _ rfl,rfl,rfl⟩,(pl.isList).at λo e=>zac _ e⟩,λi v s' Q' E' hP hQ=>?_,λh' tk hk=>?_⟩
    ·have hP:its[i]?=some v:=by simpa using hP
     rw[ei,zar]at hP
     cases z:xs[i]? with
     |none=>rw[z]at hP;cases hP
     |some d=>
      rw[z]at hP;cases hP;have eQ:xs.getD i D.non=d:=by rw[List.getD_eq_getElem?_getD,z];rfl
      have hQ:Q' ((xs.getD i D.non).tru) s':=hQ;rw[eQ]at hQ;exact wpAny_truthy_bool hQ
    ·have el:its.toArray.size=xs.length:=by rw[zal,ei,zai]
     rw[el,all_range];refine⟨.bl _,H,I.kept (t':=tk) λb o e=>hk b o ?_ (zac _ e),rfl,q _ H (kB.refl _) rfl⟩;intro z;have z:b=s.heap.objs.size:=by simpa using z
     exact absurd (zaf e) (by rw[z];exact Nat.lt_irrefl _)
   ·cases hg
  ·cases hg
def kb8 (hc:X.calm=true):Q3 X (.builtin "any") JS:=by
 refine⟨λds c h=>?_,λpins s σ H vs us Q I r ⟨B,ds,d,rr,bt,hg,q⟩=>?_⟩
 ·unfold JS at h
  split at h
  ·split at h <;> cases h
  ·cases h
 ·unfold JS at hg
  split at hg
  ·rename_i xs
   split at hg
   ·rename_i hb
    cases hg;obtain⟨v,rfl,rv⟩:=vX rr;obtain⟨a,ws,rfl,sq,rs⟩:=rv;obtain⟨u,rfl,ru⟩:=vals1 r;cases ru;obtain⟨its,rv,pl,_⟩:=I.list (SqL.of sq);have ei:=Yu hb rs rv;have hh:X.A.in1.handled=none:=I.ok.hd hc;refine call_any_walk (wpAny_pyIter_list pl.isList ?_)
    refine⟨s.heap.objs.size,_,_,_,_,_,λi=>(xs.getD i .non).tru,rfl,Walks.list hh s.heap.objs.size a (zas (I.hok.lt sq)) its.toArray,
     ⟨⟨_,zag _ rfl,rfl,rfl⟩,(pl.isList).at λo e=>zac _ e⟩,λi v s' Q' E' hP hQ=>?_,λh' tk hk=>?_⟩
    ·have hP:its[i]?=some v:=by simpa using hP
     rw[ei,zar]at hP
     cases z:xs[i]? with
     |none=>rw[z]at hP;cases hP
     |some d=>
      rw[z]at hP;cases hP;have eQ:xs.getD i D.non=d:=by rw[List.getD_eq_getElem?_getD,z];rfl
      have hQ:Q' ((xs.getD i D.non).tru) s':=hQ;rw[eQ]at hQ;exact wpAny_truthy_bool hQ
    ·have el:its.toArray.size=xs.length:=by rw[zal,ei,zai]
     rw[el,any_range];refine⟨.bl _,H,I.kept (t':=tk) λb o e=>hk b o ?_ (zac _ e),rfl,q _ H (kB.refl _) rfl⟩;intro z;have z:b=s.heap.objs.size:=by simpa using z
     exact absurd (zaf e) (by rw[z];exact Nat.lt_irrefl _)
   ·cases hg
  ·cases hg
def yR (k:Nat)(pick:List Nat)(own:List Bool):List Bool:=List.replicate k false++pick.map λi=>(own[i]?).getD false
def kY.more {K:zFr}{B:List Addr}{env:P.Env}{σ:L2.St}{H H':Hp}{p:Addr}{vs:List V}(ok:kY K own A B env σ H)(hp:H p=none)(s:kB H H')(hv:H' p=some (.lst vs)):kY K own A (p::B) env σ H' where
 len:=ok.len
 val:=λi d h1 h2=>by
  obtain⟨v,a,b⟩:=ok.val i d h1 h2;exact⟨v,a,Rep.kp (Kp.of_same s) (Rep.more hp b)⟩
 owd:=λi d h1 h2=>by
  obtain⟨q,a,b,n,c⟩:=ok.owd i d h1 h2;exact⟨q,a,zah _ b,n,c.more hp s⟩
 ap:=ok.ap
 bt:=λb hb=>by
  rcases List.mem_cons.mp hb with e | hb
  ·exact⟨.lst vs,by rw[e];exact hv,trivial⟩
  ·obtain⟨xs,q,m⟩:=ok.bt b hb;exact⟨xs,s _ _ q,m⟩
def yZ {α:Type} {k:Nat} {pick:List Nat} {l:List (Option α)} {i:Nat} {d:α} (h:(List.replicate k none ++ pick.map fun i => (l[i]?).getD none)[i]? = some (some d)) :
 k<=i/\∃j,pick[i - k]?=some j/\l[j]?=some (some d):=by
 by_cases hi:i < k
 ·rw[List.getElem?_append_left (by simpa using hi)]at h
  simp[hi]at h
 ·rw[List.getElem?_append_right (by simp;omega)]at h
  simp only[List.length_replicate,zar]at h;refine⟨by omega,?_⟩
  cases q:pick[i - k]? with
  |none=>rw[q]at h;cases h
  |some j=>
   rw[q]at h;refine⟨j,rfl,?_⟩;have h:(l[j]?).getD none=some d:=Option.some.inj h
   cases z:l[j]? with
   |none=>rw[z]at h;cases h
   |some y=>rw[z]at h;rw[show y=some d from h]
def jF {α:Type}{k:Nat}{pick:List Nat}{l:List (Option α)}{i j:Nat}{d:α}(hk:k<=i)(hj:pick[i - k]?=some j)(h:l[j]?=some (some d)):(List.replicate k none++pick.map λi=>(l[i]?).getD none)[i]?=some (some d):=by
 rw[List.getElem?_append_right (by simp;omega)];simp only[List.length_replicate,zar,hj,Option.map_some,h,Option.getD_some]
def X8 {k:Nat}{pick:List Nat}{i j:Nat}{x:Bool}(hk:k<=i)(hj:pick[i - k]?=some j)(h:(yR k pick own)[i]?=some x):(own[j]?).getD false=x:=by
 unfold yR at h;rw[List.getElem?_append_right (by simp;omega)]at h;simp only[List.length_replicate,zar,hj,Option.map_some]at h;exact Option.some.inj h
def kfR {k:Nat}{pick:List Nat}{i j:Nat}(hk:k<=i)(hj:pick[i - k]?=some j):(yR k pick own)[i]?=some ((own[j]?).getD false):=by
 unfold yR;rw[List.getElem?_append_right (by simp;omega)];simp only[List.length_replicate,zar,hj,Option.map_some]
def W6 {j:Nat}(h:(own[j]?).getD false=true):own[j]?=some true:=by
 cases q:own[j]? with
 |none=>rw[q]at h;cases h
 |some y=>rw[q]at h;rw[show y=true from h]
def kY.inner {K:zFr}{B:List Addr}{env:P.Env}{σ:L2.St}{H:Hp}{ns:List Str}{pick:List Nat}(ok:kY K own A B env σ H)(hnd:pick.Nodup):kY K (yR ns.length pick own) A B (qN ns.length pick env) (inner ns pick σ) H where
 len:=by simp[qN,L3.inner]
 val:=λi d h1 h2=>by
  obtain⟨hk,j,hj,he⟩:=yZ h1;have ho:own[j]?≠some true:=λz=>h2 (by rw[kfR hk hj,z];rfl)
  obtain⟨v,a,b⟩:=ok.val j d he ho;exact⟨v,jF hk hj a,b⟩
 owd:=λi d h1 h2=>by
  obtain⟨hk,j,hj,he⟩:=yZ h1;obtain⟨p,a,b⟩:=ok.owd j d he (W6 (X8 hk hj h2));exact⟨p,jF hk hj a,b⟩
 ap:=λi i' d d' p hne h1 h2 e1 e2 s1=>by
  obtain⟨hk,j,hj,he⟩:=yZ e1;obtain⟨hk',j',hj',he'⟩:=yZ e2;have o1:=W6 (X8 hk hj h1);have o2:=W6 (X8 hk' hj' h2)
  have njj:j≠j':=λz=>by
   subst z;have h1:=List.getElem?_eq_some_iff.mp hj;have h2:=List.getElem?_eq_some_iff.mp hj';have:=(List.getElem_inj hnd).mp (h1.2.trans h2.2.symm);omega
  intro z;obtain⟨_,l,hl,s1'⟩:=yZ s1;obtain⟨_,l',hl',z'⟩:=yZ z;rw[hj]at hl;rw[hj']at hl';cases hl;cases hl';exact ok.ap j j' d d' p njj o1 o2 he he' s1' z'
 bt:=ok.bt
abbrev E0':Nat->Hp->Prop:=λ_ _=>False
variable {scope:Scope}{cl:List (Str×Addr)}{ns free:List Str}{pick is:List Nat}{ifs:List Expr}{it:P.FI}{g:P.FG}{ft:P.FT}{fe:P.FE}
def YU (X:Cx)(own:List Bool)(A:List Addr)(ifs:List Expr)(f:P.FT):Prop:=JD X ifs (TR X.K own A E0' f)
def wC:YU X own A [] wu:=λpins s σ H Q I ⟨B,env,ok,h⟩=>kef pins s σ H Q I (h H (kB.refl _))
def kbI {c:Expr}(h:zB X own A E0' c ft):YU X own A [c] ft:=keg h
def yt.K {X':Cx}{N:List Str}(h:yt X scope cl N X'):X'.K=X.K:=by
 obtain⟨C,s,H,fp,pn,rfl⟩:=h;rfl
def kcU (hnd:pick.Nodup) (his:∀ j ∈ is,j < ns.length) (σ:L2.St) (H:Hp) (Q:VK) (hh:EF X.K own A E (wU ns.length pick it g ft fe) σ H Q) :
 kas ns pick (IR true X.K own A E it) (GR X.K (yR ns.length pick own) A is g) (TR X.K (yR ns.length pick own) A E0' ft) (ER false X.K (yR ns.length pick own) A E0' fe) σ H Q:=by
 obtain⟨B,env,ok,h⟩:=hh;refine⟨B,env,ok,?_⟩;unfold wU at h
 cases q:it env with
 |exc c=>rw[q]at h;exact h
 |stuck=>rw[q]at h;exact h
 |ok ds=>
  rw[q]at h;intro J H1 s1 wk p hp
  have h:match (qT g ft fe (qN ns.length pick env) ds>>=λvs=>if vs.length<=kP then Rs.ok (D.lst vs) else .stuck) with
   |.ok d=>∀v H',kB H H'->FrL X.K B H H' d v->Q v H' | .exc c=>∀H',kB H H'->E c H' | .stuck=>False:=h
  -- it comes to an end
  have hex:∀ds c,qT g ft fe (qN ns.length pick env) ds ≠ .exc c:=by
   intro ds
   induction ds with
   |nil=>intro c z;cases z
   |cons d ds ih=>
    intro c z;have z:((g d (qN ns.length pick env)).nx>>=λenv'=>(ft env').nx>>=λc=>if c=true then (fe env').nx>>=λv=>qT g ft fe (qN ns.length pick env) ds>>=λvs=>.ok (v::vs) else qT g ft fe (qN ns.length pick env) ds) = .exc c:=z
    cases z1:g d (qN ns.length pick env) with
    |exc c=>rw[z1]at z;cases z
    |stuck=>rw[z1]at z;cases z
    |ok env1=>
     rw[z1]at z;have z:((ft env1).nx>>=λc=>if c=true then (fe env1).nx>>=λv=>qT g ft fe (qN ns.length pick env) ds>>=λvs=>.ok (v::vs) else qT g ft fe (qN ns.length pick env) ds) = .exc c:=z
     cases z2:ft env1 with
     |exc c=>rw[z2]at z;cases z
     |stuck=>rw[z2]at z;cases z
     |ok b=>
      rw[z2]at z
      cases b with
      |false=>exact ih c z
      |true=>
       have z:((fe env1).nx>>=λv=>qT g ft fe (qN ns.length pick env) ds>>=λvs=>.ok (v::vs)) = .exc c:=z
       cases z3:fe env1 with
       |exc c=>rw[z3]at z;cases z
       |stuck=>rw[z3]at z;cases z
       |ok v=>
        rw[z3]at z;have z:(qT g ft fe (qN ns.length pick env) ds>>=λvs=>Rs.ok (v::vs)) = .exc c:=z
        cases z4:qT g ft fe (qN ns.length pick env) ds with
        |exc c'=>exact ih c' z4
        |stuck=>rw[z4]at z;cases z
        |ok vs=>rw[z4]at z;cases z
  cases qc:qT g ft fe (qN ns.length pick env) ds with
  |exc c=>exact absurd qc (hex ds c)
  |stuck=>rw[qc]at h;exact h.elim
  |ok all=>
   rw[qc]at h
   by_cases hall:all.length<=kP
   case neg=>
    have h:match (if all.length<=kP then Rs.ok (D.lst all) else .stuck) with
     |.ok d=>∀v H',kB H H'->FrL X.K B H H' d v->Q v H' | .exc c=>∀H',kB H H'->E c H' | .stuck=>False:=h
    rw[if_neg hall]at h;exact h.elim
   have h:∀v H',kB H H'->FrL X.K B H H' (.lst all) v->Q v H':=by
    have h:match (if all.length<=kP then Rs.ok (D.lst all) else .stuck) with
     |.ok d=>∀v H',kB H H'->FrL X.K B H H' d v->Q v H' | .exc c=>∀H',kB H H'->E c H' | .stuck=>False:=h
    rw[if_pos hall]at h;exact h
   have ok1:=ok.same s1
   refine⟨λi m vs H'=>m=ds.length - i/\i<=ds.length/\H' p=some (.lst vs)/\kB H1 H'/\∃rs rest,kE X.K (p::B) H' rs vs/\qT g ft fe (qN ns.length pick env) (ds.drop i) = .ok rest/\all=rs++rest,
    ⟨_,rfl,Nat.zero_le _,k9,kB.upd hp,[],all,rfl,qc,rfl⟩,?_⟩
   rintro i m vs H' ⟨rfl,hi',hpv,s',rs,rest,rr,hrest,hal⟩;refine⟨hpv,?_⟩;have okp:kY X.K own A (p::B) env σ H':=ok1.more hp s' hpv;have x':Ext [] B H1 (p::B) H':=⟨Kp.of_same s',λb hb=>(List.mem_cons.mp hb).elim (λe=>.inr (by rw[e];exact hp)) .inl⟩;obtain⟨wk1,wk2⟩:=wk (p::B) H' x' i
   by_cases hlt:i < ds.length
   ·right
    have hd:ds[i]?=some ds[i]:=by simp[hlt]
    obtain⟨go,yl⟩:=wk1 _ hd;refine⟨go,λy H2 hy=>?_⟩;obtain⟨s2,r2⟩:=yl y H2 hy;rw[List.drop_eq_getElem_cons hlt]at hrest;refine⟨p::B,qN ns.length pick env,ds[i],(okp.same s2).inner hnd,r2,?_⟩;have hrest:((g ds[i] (qN ns.length pick env)).nx>>=λenv'=>(ft env').nx>>=λc=>if c=true then (fe env').nx>>=λv=>qT g ft fe (qN ns.length pick env) (ds.drop (i+1))>>=λvs=>.ok (v::vs) else qT g ft fe (qN ns.length pick env) (ds.drop (i+1))) = .ok rest:=hrest;obtain⟨env1,g1,hrest⟩:=vB hrest;rw[P.Rs.Jd g1];intro σ3 hl3 hj3 ok3;obtain⟨b,t1,hrest⟩:=vB hrest;refine⟨⟨hl3.symm,λj v hjv=>?_⟩,p::B,env1,ok3,?_⟩
    · have:j ∉ is:=fun z => by
        obtain⟨hk,_⟩:=yZ hjv;have:=his j z;omega
      rw[hj3 j this];exact hjv
    ·rw[P.Rs.Jd t1]
     intro H3 s3;have hp3:=s3 _ _ (s2 _ _ hpv);have s13:kB H1 H3:=(s'.trans s2).trans s3
     cases b with
     |false=>
      rw[if_neg Bool.false_ne_true];exact⟨_,by omega,rfl,hlt,hp3,s13,rs,rest,kE.kp (Kp.of_same (s2.trans s3)) rr,hrest,hal⟩
     |true=>
      rw[if_pos rfl];obtain⟨dv,e1,hrest⟩:=vB (show ((fe env1).nx>>=λv=>qT g ft fe (qN ns.length pick env) (ds.drop (i+1))>>=λvs=>.ok (v::vs)) = .ok rest from hrest);obtain⟨rest',hr',hrest⟩:=vB hrest;cases hrest;refine⟨p::B,env1,ok3.same s3,?_⟩;rw[P.Rs.Jd e1];intro v4 H4 s4 r4;have hp4:=s4 _ _ hp3;refine⟨hp4,?_,_,by omega,rfl,hlt,k9,λb o z=>?_,rs++[dv],rest',?_,hr',by rw[hal,List.append_assoc];rfl⟩
      ·rw[rr.length,szL]
       rw[hal,zap,zam]at hall;omega
      ·rw[qm (qW z hp)]
       exact s4 _ _ (s13 _ _ z)
      · have k5:Kp (p :: B) H4 (upd H4 p (.lst (vs ++ [v4]))):=fun b o z w => by
          have:b≠p:=by
           rintro rfl;rw[hp4]at z;cases z
           rcases w with w | ⟨_,w⟩ | ⟨_,_,w⟩
           ·exact w zaj
           ·cases w
           ·cases w
          rw[qm this];exact z
        exact kE.kp k5 (kE.append (kE.kp (Kp.of_same ((s2.trans s3).trans s4)) rr) (show kE X.K (p::B) H4 [dv] [v4] from ⟨v4,[],rfl,r4,rfl⟩))
   ·left
    have e:i=ds.length:=by omega
    refine⟨wk2 (by omega),?_⟩;rw[e,List.drop_length]at hrest;cases hrest;rw[List.append_nil]at hal;subst hal;exact h _ H' (s1.trans s') ⟨p,rfl,s1.free hp,vs,hpv,rr⟩
def kbR (S:vK X scope cl ns free pick)(hc:X.calm=true)(hnd:pick.Nodup)(his:∀j∈is,j < ns.length)(hi:Xf X own A E true tg iter it)
 (hg:∀X',yt X scope cl (ns++free) X'->ZI X' (yR ns.length pick own) A is tg g) (ht:∀X',yt X scope cl (ns++free) X'->YU X' (yR ns.length pick own) A ifs ft)
 (he:∀X',yt X scope cl (ns++free) X'->Snd X' (yR ns.length pick own) A E0' false e fe) (hs:∀x,foldedSetIterable iter X.env x=pure x:=by intro _;rfl) :
 qF X own A E (.ListComp e [⟨tg,iter,ifs,0⟩] scope pos) (wU ns.length pick it g ft fe) :=
 PE.imp (kfK (g:=GR X.K (yR ns.length pick own) A is g) (tc:=TR X.K (yR ns.length pick own) A E0' ft) (te:=ER false X.K (yR ns.length pick own) A E0' fe) S hc hi
  (λX' h=>by have:=hg X' h;unfold ZI at this;rw[h.K]at this;exact this) (λX' h=>by have:=ht X' h;unfold YU at this;rw[h.K]at this;exact this)
  (λX' h=>by have:=he X' h;unfold Snd at this;rw[h.K]at this;exact this) hs) (kcU hnd his)
end
end L3
namespace L3
open PySem PySem.Spec PyProof.Rows L2
open P (D Rs Out)
open PySem.AutoSeq1 (wpAny_loadPart')
section
variable {prog:Program}{w:World}{A:Around}{E:zEx}{s:Shared}
def XG {it t:Addr} {i:Nat} {us:Array Value} {R:Value -> Shared -> Prop} (a:s.heap.IsTupleIter it t i) (b:s.heap.IsTuple t us)
 (go:∀x,us[i]?=some x->∀h',h'.IsTupleIter it t (i+1)->Heap.SameBut it s.heap h'->R x { s with heap:=h' })
 (stop:us[i]?=none->A.handled=none/\∀h' e,Heap.ExtBut it s.heap h'->(∃o,h'.get? e=some o/\o.cls = .type "StopIteration")->E (.ref e) { s with heap:=h' }) :
 wpAny (model prog w) A (Builtin.SmallTypes.nextOf (.ref it)) R E s:=by
 obtain⟨o1,g1,c1,d1⟩:=id a;obtain⟨o2,g2,_,n2,d2⟩:=b
 wp_delta
 refine zaa (wpAny_callSpecial?_slot (name:="__next__") a.typeIs F.slot_tuple_iterator_next ?_);refine wpAny_call_entry F.slot_tuple_iterator_next a.typeIs F.entry_tuple_iterator_next ?_ (F.args_tuple_iterator_next_1 _)
 wp_walk using wpAny_field g1 d1 (i:=0) (x:=.ref t) rfl,wpAny_field g1 d1 (i:=1) (x:=.int i 0) rfl,wpAny_seqItems g2 d2
 rw[Int.toNat_natCast]
 cases q:us[i]? with
 |some x=>
  wp_walk using wpAny_setField g1 d1 (i:=1) (by simp)
  refine⟨x,rfl,zab (go x q _ ⟨_,Heap.get?_update_self _ g1 (Obj.isFreed_of_fields (Obj.data_mapFields d1 _)),(Obj.cls_mapFields ..).trans c1,?_⟩ (Heap.SameBut.update ..))⟩;rw[Obj.data_mapFields d1];rfl
 |none=>
  obtain⟨hh,hE⟩:=stop q;have hh':A.in1.handled=none:=hh
  wp_walk using wpAny_setField g1 d1 (i:=0) (by simp),wpAny_raiseNew_none hh'
  refine hE _ _ (λb o hb e=>?_) ⟨_,zag _ rfl,rfl⟩;exact zac _ (zac _ (((Heap.SameBut.update ..).2 b hb).trans e))
def uX (hh:A.handled=none){it t:Addr}(ht:t≠it)(us:Array Value):Draws prog w A it [it,t] us.size (λi v=>us[i]?=some v) (λi h=>h.IsTuple t us/\h.IsTupleIter it t i):=by
 refine⟨λi h ⟨_,o,e,_⟩=>⟨o,e⟩,λi h h' ⟨⟨o,e,r⟩,o',e',r'⟩ k=>⟨⟨o,k t (by simp) o e,r⟩,o',k it (by simp) o' e',r'⟩,λi s Q E hi ⟨b,a⟩ q=>?_,λs Q E ⟨b,a⟩ q=>?_⟩
 ·exact XG a b (λx hx h' a' k=>q x h' s.toks hx ⟨b.extBut k.extBut ht,a'⟩ k) λz=>absurd z (by simp[hi])
 ·exact XG a b (λx hx=>absurd hx (by simp)) λ_=>⟨hh,q⟩
end
def kf1 {M:Model}{A:Around}{α:Type}{Q:α->Shared->Prop}{E:zEx}{s:Shared}{b:α}(h:∀b,Q b s):wpAny M A (pure b) Q E s:=zab (h b)
structure ka5 (h h':Heap)(l:Addr):Prop where
 en:IsEnum h' (h.objs.size+1) h.objs.size 0 .none
 it:h'.IsTupleIter h.objs.size l 0
 keep:∀b o,h.get? b=some o->h'.get? b=some o
def kiE (l:Addr):Meets (Builtin.«enumerate.__new__» ⟨[.type "enumerate",.ref l],[]⟩) (λ_ R s=>(∃us,s.heap.IsTuple l us)/\∀h',ka5 s.heap h' l->R (.ok (.ret (.ref (s.heap.objs.size+1)))) { s with heap:=h' }):=by
 refine .of_wp λprog w A R s ⟨⟨us,hT⟩,h⟩=>?_
 obtain⟨⟨c,dd,dt,sl⟩,hl,hc,n,hd⟩:=id hT;simp only at hc hd;subst hc hd;have hsub:=sub_enumerate
 wp_walk using wpAny_loadPart' hl
 refine wpAny_stack_any λst=>kf1 λb=>?_
 have es:∀o:Obj,(s.heap.push o).objs.size=s.heap.objs.size+1:=λo=>Heap.size_push ..
 have fin:∀h' v,ka5 s.heap h' l->v = .ref (s.heap.objs.size+1)->R (.ok (.ret v)) { s with heap:=h' }:=λh' v z e=>by
  rw[e];exact h h' z
 cases b <;> (wp_walk using wpAny_loadPart' hl,wpAny_pyIter_tuple hT) <;> refine⟨_,rfl,fin _ _ ⟨?_,⟨_,zac _ (zag _ rfl),rfl,rfl⟩,λb o e=>zac _ (zac _ e)⟩ (by rw[es])⟩ <;>
  (rw[<- es { cls:=.type "tuple_iterator",data:=.fields #[.ref l,.int 0 0] }];exact zag _ rfl)
def kfk {prog:Program}{w:World}{A:Around}{E:zEx}{s:Shared}{l:Addr}{us:Array Value}{Q:zEx}(hT:s.heap.IsTuple l us)
 (h:∀h',ka5 s.heap h' l->Q (.ref (s.heap.objs.size+1)) { s with heap:=h' }):wpAny (model prog w) A (call (.type "enumerate") [.ref l]) Q E s :=
 callType_new F.called_enumerate (by decide) (F.typeCall_enumerate_1 _) (F.newCall_enumerate_1 _) (λobj=>F.args_object_init_2 obj _) F.entry_enumerate_new (kiE l) ⟨⟨us,hT⟩,λh' z=>⟨⟨_,z.en,rfl⟩,h h' z⟩⟩
def ZC {X:Cx}{pins:List (Addr×Obj)}{σ:L2.St}{H:Hp}{s:Shared}{h':Heap}{p:Addr}{o:HO}{ch:List Addr}{t':Nat}(I:Inv X pins σ H s)(hch:∀b∈ch,wN X pins H b)(k:∀b u,b∉ch->s.heap.get? b=some u->h'.get? b=some u)
 (hp:s.heap.objs.size<=p) (new:x8 X.prog X.w (upd H p o) h' p o):Inv X pins σ (upd H p o) { s with heap:=h',toks:=t' }:=by
 have np:∀b u,s.heap.get? b=some u->b≠p:=λb u e=>zas (Nat.lt_of_lt_of_le (zaf e) hp)
 have hn:H p=none:=I.hok.fresh hp;have nt:∀b u,H b=some u->b∉ch:=λb u e z=>by rw[(hch b z).1]at e;cases e
 refine I.step (g':=s.gens) (d':=s.drawn) (ch:=ch) (λb hb=>⟨(hch b hb).2.2.2.1,(hch b hb).2.1,(hch b hb).2.2.2.2.1,(hch b hb).2.2.2.2.2⟩) (λb u _ _ hc e _=>k b u hc e) (λb u _ _ hc e _=>⟨u.slots,k b u hc e⟩)
  (λb u _ e n=>by rw[qm (np b u e)];exact n) (λb u hc e=>⟨u,k b u hc e⟩) (λb xs e=>by rw[qm (qW e hn)];exact e) (λb u xs e=>by rw[qm (qW e hn)];exact e)
  (λb ps e=>⟨#[],by rw[qm (qW e hn),e];simp⟩) (λm hm=>?_) (λb u e=>?_) I.bare
 ·obtain⟨ol,es,ep,ho,r⟩:=hm;exact⟨ol,es,ep,k _ ol (λz=>(hch _ z).2.1 rfl) ho,r⟩
 ·by_cases hb:b=p
  ·subst hb;rw[k9]at e;cases e;exact new
  ·rw[qm hb]at e;refine (I.hok b u e).stay (λc v hc q=>k c v ?_ q) (λc q=>by rw[qm (qW q hn)];exact q) λc xs q=>by rw[qm (qW q hn)];exact q
   rcases hc with rfl | hc
   ·exact nt _ _ e
   ·exact nt _ _ hc
def Ite (K:zFr)(a:Addr):It :=
 ⟨λi H=>∃xs x,SqT K H a xs/\xs[i]?=some x,λi H y H'=>∃x p,(∀xs,SqT K H a xs->xs[i]?=some x)/\H p=none/\y = .ref p/\H'=upd H p (.tup [.int i,x]),λi H=>∃xs,SqT K H a xs/\xs.length=i⟩
def in1_handled {A:Around}(h:A.handled=none):A.in1.handled=none:=h
def kcr {P:Program}{w:World}{K:zFr}{elts:List Expr}{x1:Nat}{tp:Pos}(a e it:Addr)(hei:e≠it)(hea:e≠a)(hia:a≠it) :
 Turn P w K (.Tuple elts x1 tp) (Ite K a) [e,it] e (λi h=>(∃old,IsEnum h e it (i:Int) old)/\h.IsTupleIter it a i) where
 mem:=by simp
 obj:=λi h st b hb=>by
  obtain⟨⟨old,q⟩,o,q1,q2,q3⟩:=st
  rcases List.mem_cons.mp hb with rfl | hb
  ·exact⟨_,q,λv z=>nomatch z⟩
  ·rw[List.mem_singleton.mp hb];exact⟨o,q1,λv z=>by rw[q3]at z;cases z⟩
 keep:=λi h h' st k=>by
  obtain⟨⟨old,q⟩,o,q1,q2⟩:=st;exact⟨⟨old,k e (by simp) _ q⟩,o,k it (by simp) o q1,q2⟩
 item:=by
  intro X hP hw hK hc i pins s σ H E I hf st hg;subst hP hw hK;obtain⟨xs,x,hq,hx⟩:=hg;obtain⟨its,rv,tp',hz⟩:=I.tuple hq;obtain⟨u,hu,ru⟩:=rv.get hx;obtain⟨⟨old,hen⟩,hit⟩:=st
  have hi:i < its.toArray.size:=by
   have:=(List.getElem?_eq_some_iff.mp hu).1;simpa using this
  refine wpAny_pyNext_enum_itemD (uX (in1_handled (I.ok.hd hc)) hia its.toArray) hen ⟨tp',hit⟩ hi hei (by simp[hei,hea]) λy h' tk hy ho hst htup hsz hk=>?_
  have ey:y=u:=by
   have hy:its[i]?=some y:=by simpa using hy
   rw[hu]at hy;exact (Option.some.inj hy).symm
  subst ey;have hpe:s.heap.objs.size≠e:=λz=>absurd (zaf hen) (by rw[<- z];exact Nat.lt_irrefl _)
  obtain⟨oi,hoi,_⟩:=id hit;have hpi:s.heap.objs.size≠it:=λz=>absurd (zaf hoi) (by rw[<- z];exact Nat.lt_irrefl _)
  refine⟨_,rfl,wpAny_letOwnedTupleGo_enum ho λh2 he2 hs2=>?_⟩
  replace hs2:Heap.SameBut e h' h2:=hs2
  have htup2:h2.get? s.heap.objs.size=some { cls:=.type "tuple",data:=.seq #[.int i tk,y] }:=(hs2.2 _ hpe).trans htup;have k2:∀b o,b∉[e,it]->s.heap.get? b=some o->h2.get? b=some o:=λb o hb q=>(hs2.2 b (λz=>hb (by simp[z]))).trans (hk b o (λz=>hb (by simp[z])) (λz=>hb (by simp[z])) q)
  have hfr:H s.heap.objs.size=none:=I.hok.fresh (zak _)
  have I2:Inv X pins σ (upd H s.heap.objs.size (.tup [.int i,x])) { s with heap:=h2,toks:=tk+1 } :=
   ZC I hf k2 (zak _) ⟨by show 2<=sizeLine;decide,[.int i tk,y],.cons ⟨tk,rfl⟩ (.cons ru .nil),⟨_,htup2,rfl,_,rfl⟩⟩
  refine⟨.ref s.heap.objs.size,_,I2,rfl,⟨x,s.heap.objs.size,λys hy=>by rw[I.Qz hy hq];exact hx,hfr,rfl,rfl⟩,⟨⟨y,?_⟩,?_⟩,λb hb=>?_⟩
  ·have:((i+1:Nat):Int)=(i:Int)+1:=by push_cast;rfl
   rw[this];exact he2
  ·obtain⟨o,q1,q2⟩:=hst.2;exact⟨o,(hs2.2 it (Ne.symm hei)).trans q1,q2⟩
  ·have hb':b≠s.heap.objs.size:=by
    rcases List.mem_cons.mp hb with rfl | hb
    ·exact Ne.symm hpe
    ·rw[List.mem_singleton.mp hb];exact Ne.symm hpi
   rw[qm hb'];exact (hf b hb).1
 done:=by
  intro X hP hw hK hc i pins s σ H E I hf st hg;subst hP hw hK;obtain⟨xs,hq,hl⟩:=hg;obtain⟨its,rv,tp',hz⟩:=I.tuple hq;obtain⟨⟨old,hen⟩,hit⟩:=st;subst hl;have hn:its.toArray.size=xs.length:=by rw[zal,<- rv.length]
  obtain⟨f0,f1,f2,f3,f4,f5⟩:=hf it (by simp);refine wpAny_pyNext_enum_endD (uX (in1_handled (I.ok.hd hc)) hia its.toArray) hen ⟨tp',by rw[hn];exact hit⟩ λh' he=>⟨rfl,?_⟩
  exact I.turned (t':=s.toks) (λb o hb e=>he b o hb e) f0 f1 f3 f4 f5
 self:=λ_ i s Q E st h=>by
  obtain⟨⟨old,hen⟩,_⟩:=st;exact wpAny_pyIter_enum hen h
def Vo:∀ (ds:List D) (lo:Int) (i:Nat),(qG lo ds)[i]?=(ds[i]?).map λd=>D.tup [.int (lo+i),d]
 | [],_,_=>by simp[qG]
 |d::ds,lo,0=>by simp[qG]
 |d::ds,lo,i+1=>by
  show (qG (lo+1) ds)[i]?=_;rw[Vo ds (lo+1) i,List.getElem?_cons_succ]
  congr 1
  funext d
  congr 3
  push_cast
  omega
def Kw:∀ (ds:List D) (lo:Int),(qG lo ds).length=ds.length
 | [],_=>rfl
 |d::ds,lo=>by
  show (qG (lo+1) ds).length+1=ds.length+1;rw[Kw ds]
def kb0 {K:zFr}{C B:List Addr}{H:Hp}{a:Addr}{ds:List D}{vs:List V}(hs:∀a∈C,a∈B)(q:SqT K H a vs)(r:kE K B H ds vs):Walk K C B H (Ite K a) (qG 0 ds):=λB' H' x i=>by
 have q':=SqT.kp x.kp q;have r':=kE.ext (x.less hs) r;refine⟨λd hd=>?_,λhl=>⟨vs,q',by rw[r'.length,<- hl,Kw]⟩⟩;rw[Vo]at hd
 cases z:ds[i]? with
 |none=>rw[z]at hd;cases hd
 |some d0=>
  rw[z]at hd;cases hd;obtain⟨v,hv,rv⟩:=kE.get r' z;refine⟨⟨vs,v,q',hv⟩,λy H2 ⟨u,p,hu,hp,hy,e⟩=>?_⟩;subst e hy;have hu:=hu vs q';rw[hv]at hu;cases hu;refine⟨kB.upd hp,p,_,rfl,SqT.of k9,.int i,[v],rfl,by rw[Int.zero_add];rfl,v,[],rfl,Rep.kp (Kp.of_same (kB.upd hp)) rv,rfl⟩
def kec (K:zFr)(a:Addr):It :=
 ⟨λi H=>∃xs x,SqL K H a xs/\xs[i]?=some x,λi H y H'=>∃x p,(∀xs,SqL K H a xs->xs[i]?=some x)/\H p=none/\y = .ref p/\H'=upd H p (.tup [.int i,x]),λi H=>∃xs,SqL K H a xs/\xs.length=i⟩
def kaG {P:Program}{w:World}{K:zFr}{elts:List Expr}{x1:Nat}{tp:Pos}(a e it:Addr)(hei:e≠it)(hea:e≠a)(hia:a≠it) :
 Turn P w K (.Tuple elts x1 tp) (kec K a) [e,it] e (λi h=>(∃old,IsEnum h e it (i:Int) old)/\h.IsListIter it a i) where
 mem:=by simp
 obj:=λi h st b hb=>by
  obtain⟨⟨old,q⟩,o,q1,q2,q3⟩:=st
  rcases List.mem_cons.mp hb with rfl | hb
  ·exact⟨_,q,λv z=>nomatch z⟩
  ·rw[List.mem_singleton.mp hb];exact⟨o,q1,λv z=>by rw[q3]at z;cases z⟩
 keep:=λi h h' st k=>by
  obtain⟨⟨old,q⟩,o,q1,q2⟩:=st;exact⟨⟨old,k e (by simp) _ q⟩,o,k it (by simp) o q1,q2⟩
 item:=by
  intro X hP hw hK hc i pins s σ H E I hf st hg;subst hP hw hK;obtain⟨xs,x,hq,hx⟩:=hg;obtain⟨its,rv,tp',hz⟩:=I.list hq;obtain⟨u,hu,ru⟩:=rv.get hx;obtain⟨⟨old,hen⟩,hit⟩:=st
  have hi:i < its.toArray.size:=by
   have:=(List.getElem?_eq_some_iff.mp hu).1;simpa using this
  refine wpAny_pyNext_enum_itemD (Draws.list (in1_handled (I.ok.hd hc)) it a hia its.toArray) hen ⟨hit,tp'.isList⟩ hi hei (by simp[hei,hea]) λy h' tk hy ho hst htup hsz hk=>?_
  have ey:y=u:=by
   have hy:its[i]?=some y:=by simpa using hy
   rw[hu]at hy;exact (Option.some.inj hy).symm
  subst ey;have hpe:s.heap.objs.size≠e:=λz=>absurd (zaf hen) (by rw[<- z];exact Nat.lt_irrefl _)
  obtain⟨oi,hoi,_⟩:=id hit;have hpi:s.heap.objs.size≠it:=λz=>absurd (zaf hoi) (by rw[<- z];exact Nat.lt_irrefl _)
  refine⟨_,rfl,wpAny_letOwnedTupleGo_enum ho λh2 he2 hs2=>?_⟩
  replace hs2:Heap.SameBut e h' h2:=hs2
  have htup2:h2.get? s.heap.objs.size=some { cls:=.type "tuple",data:=.seq #[.int i tk,y] }:=(hs2.2 _ hpe).trans htup;have k2:∀b o,b∉[e,it]->s.heap.get? b=some o->h2.get? b=some o:=λb o hb q=>(hs2.2 b (λz=>hb (by simp[z]))).trans (hk b o (λz=>hb (by simp[z])) (λz=>hb (by simp[z])) q)
  have hfr:H s.heap.objs.size=none:=I.hok.fresh (zak _)
  have I2:Inv X pins σ (upd H s.heap.objs.size (.tup [.int i,x])) { s with heap:=h2,toks:=tk+1 } :=
   ZC I hf k2 (zak _) ⟨by show 2<=sizeLine;decide,[.int i tk,y],.cons ⟨tk,rfl⟩ (.cons ru .nil),⟨_,htup2,rfl,_,rfl⟩⟩
  refine⟨.ref s.heap.objs.size,_,I2,rfl,⟨x,s.heap.objs.size,λys hy=>by rw[I.uq hy hq];exact hx,hfr,rfl,rfl⟩,⟨⟨y,?_⟩,?_⟩,λb hb=>?_⟩
  ·have:((i+1:Nat):Int)=(i:Int)+1:=by push_cast;rfl
   rw[this];exact he2
  ·obtain⟨o,q1,q2⟩:=hst.1;exact⟨o,(hs2.2 it (Ne.symm hei)).trans q1,q2⟩
  ·have hb':b≠s.heap.objs.size:=by
    rcases List.mem_cons.mp hb with rfl | hb
    ·exact Ne.symm hpe
    ·rw[List.mem_singleton.mp hb];exact Ne.symm hpi
   rw[qm hb'];exact (hf b hb).1
 done:=by
  intro X hP hw hK hc i pins s σ H E I hf st hg;subst hP hw hK;obtain⟨xs,hq,hl⟩:=hg;obtain⟨its,rv,tp',hz⟩:=I.list hq;obtain⟨⟨old,hen⟩,hit⟩:=st;subst hl;have hn:its.toArray.size=xs.length:=by rw[zal,<- rv.length]
  obtain⟨f0,f1,f2,f3,f4,f5⟩:=hf it (by simp);refine wpAny_pyNext_enum_endD (Draws.list (in1_handled (I.ok.hd hc)) it a hia its.toArray) hen ⟨by rw[hn];exact hit,tp'.isList⟩ λh' he=>⟨rfl,?_⟩
  exact I.turned (t':=s.toks) (λb o hb e=>he b o hb e) f0 f1 f3 f4 f5
 self:=λ_ i s Q E st h=>by
  obtain⟨⟨old,hen⟩,_⟩:=st;exact wpAny_pyIter_enum hen h
def YG {K:zFr}{C B:List Addr}{H:Hp}{a:Addr}{ds:List D}{vs:List V}(hs:∀a∈C,a∈B)(hn:a∉C)(q:H a=some (.lst vs))(r:kE K B H ds vs):Walk K C B H (kec K a) (qG 0 ds):=λB' H' x i=>by
 have q':SqL K H' a vs:=SqL.of (x.kp _ _ q (.inl hn));have r':=kE.ext (x.less hs) r;refine⟨λd hd=>?_,λhl=>⟨vs,q',by rw[r'.length,<- hl,Kw]⟩⟩;rw[Vo]at hd
 cases z:ds[i]? with
 |none=>rw[z]at hd;cases hd
 |some d0=>
  rw[z]at hd;cases hd;obtain⟨v,hv,rv⟩:=kE.get r' z;refine⟨⟨vs,v,q',hv⟩,λy H2 ⟨u,p,hu,hp,hy,e⟩=>?_⟩;subst e hy;have hu:=hu vs q';rw[hv]at hu;cases hu;refine⟨kB.upd hp,p,_,rfl,SqT.of k9,.int i,[v],rfl,by rw[Int.zero_add];rfl,v,[],rfl,Rep.kp (Kp.of_same (kB.upd hp)) rv,rfl⟩
section
variable {X:Cx}{own:List Bool}{A:List Addr}{E:Nat->Hp->Prop}{a:Expr}{fa:P.FE}{pos p1 tp:Pos}{elts:List Expr}{x1:Nat}
def iEn (K:zFr)(ta:TA):TI:=λσ H R=>ta σ H λvs H1=>∃a,vs=[.ref a]/\(((∃xs,SqL K H1 a xs)/\R (kec K a) H1)∨((∃xs,SqT K H1 a xs)/\R (Ite K a) H1))
def boot_enumerate:bootBuiltins "enumerate" = some (.type "enumerate"):=by kernel_rfl
def kgf {ta:TA}(hg:Gl X "enumerate")(hm:X.mg "enumerate" = none)(ha:PA X [a] ta)(hs:starEach [a] X.env=[(false,eval a X.env)]:=by rfl):PI X (.Tuple elts x1 tp) (.Call (.Name "enumerate" p1) [a] [] pos) (iEn X.K ta):=by
 intro pins s σ H R I h;refine Call_ (zI I hg hm boot_enumerate (PyProof.Rows.callWith_type1 (thn (ha pos pins s σ H _ I h) λus s1 ⟨vs,H1,I1,r1,q1⟩=>?_) hs rfl));obtain⟨l,e,q⟩:=q1;subst e;obtain⟨u,rfl,ru⟩:=vals1 r1;cases ru;have lt1:s1.heap.objs.size < s1.heap.objs.size+1:=Nat.lt_succ_self _
 rcases q with ⟨⟨xs,hq⟩,q⟩ | ⟨⟨xs,hq⟩,q⟩
 ·obtain⟨its,rv,pl,hz⟩:=I1.list hq;obtain⟨ol,hol,_⟩:=pl.isList;have hl:=zaf hol;refine call_enumerate_list pl.isList λh' he hit hsz hk=>wpAny_pyIter_enum he ?_
  have I2:Inv X pins σ H1 { s1 with heap:=h' }:=I1.kept (t':=s1.toks) hk;refine⟨s1.heap.objs.size+1,[s1.heap.objs.size+1,s1.heap.objs.size],_,_,H1,rfl,I2,kaG l _ _ (Nat.ne_of_gt lt1) (Nat.ne_of_gt (Nat.lt_trans hl lt1)) (zas hl),⟨⟨_,he⟩,hit⟩,λb hb=>?_,q⟩
  rcases List.mem_cons.mp hb with rfl | hb
  ·exact I1.K8 (Nat.le_succ _) (I1.hok.fresh (Nat.le_succ _))
  ·rw[List.mem_singleton.mp hb];exact I1.K8 (zak _) (I1.hok.fresh (zak _))
 ·obtain⟨its,rv,pl,hz⟩:=I1.tuple hq;obtain⟨ol,hol,_⟩:=id pl;have hl:=zaf hol;refine kfk pl λh' ⟨he,hit,hk⟩=>wpAny_pyIter_enum he ?_
  have I2:Inv X pins σ H1 { s1 with heap:=h' }:=I1.kept (t':=s1.toks) hk;refine⟨s1.heap.objs.size+1,[s1.heap.objs.size+1,s1.heap.objs.size],_,_,H1,rfl,I2,kcr l _ _ (Nat.ne_of_gt lt1) (Nat.ne_of_gt (Nat.lt_trans hl lt1)) (zas hl),⟨⟨_,he⟩,hit⟩,λb hb=>?_,q⟩
  rcases List.mem_cons.mp hb with rfl | hb
  ·exact I1.K8 (Nat.le_succ _) (I1.hok.fresh (Nat.le_succ _))
  ·rw[List.mem_singleton.mp hb];exact I1.K8 (zak _) (I1.hok.fresh (zak _))
def jD {c:Bool} (ha:Snd X own A E c a fa) (hm:X.mg "enumerate" = none) (hg:Gl X "enumerate":=by rfl) (hs:starEach [a] X.env = [(false,eval a X.env)]:=by rfl) :
 Xf X own A E c (.Tuple elts x1 tp) (.Call (.Name "enumerate" p1) [a] [] pos) (Y4 fa):=by
 refine PI.imp (kgf hg hm (qE ha vS hs) hs) λσ H R ⟨B,env,ok,h⟩=>?_
 refine Va ok (show (match fa env>>=λx=>(match x with | .tup xs=>Rs.ok (qG 0 xs) | .lst xs=>.ok (qG 0 xs) | _=>.stuck) with | .ok ds=>∀J H',kB H H'->Walk X.K (if c=true then [] else B) B H' J ds->R J H' | .exc c=>∀H',kB H H'->E c H' | .stuck=>False) from h)
  λx v H1 s1 ok1 r1 h1=>?_
 cases x with
 |tup ds=>
  obtain⟨p,vs,rfl,sq,rr⟩:=r1.top;exact⟨p,rfl,.inr ⟨⟨vs,sq⟩,h1 _ H1 (kB.refl _) (kb0 Kz sq rr)⟩⟩
 |lst ds=>
  cases c with
  |true=>
   obtain⟨p,vs,rfl,sq,rr⟩:=r1;exact⟨p,rfl,.inl ⟨⟨vs,SqL.of sq⟩,h1 _ H1 (kB.refl _) (YG Kz (λz=>nomatch (show p∈([]:List Addr) from z)) sq rr)⟩⟩
  |false=>
   obtain⟨p,vs,rfl,hn,sq,rr⟩:=r1;exact⟨p,rfl,.inl ⟨⟨vs,SqL.of sq⟩,h1 _ H1 (kB.refl _) (YG Kz hn sq rr)⟩⟩
 |_=>exact h1.elim
end
end L3
namespace L3
open PySem PySem.Spec PyProof.Rows L2
open P (D Rs Out)
def qs (X:Cx):Prop:=∀y,(X.env.kindOf y=some .cell∨X.env.kindOf y=some .free)->∃c,X.env.cells.lookup y=some c
def Kx (env:Env):List (Str×NameKind)->List (Str×Addr)->List (Str×Addr)
 | [],acc=>acc
 |(n,k)::r,acc=>Kx env r (if k == .free then (n,(env.cells.lookup n).getD 0)::acc else acc)
def je {env:Env}:∀ (names:List (Str × NameKind)) (acc:List (Str × Addr)),(∀ x ∈ names,x.2 = .free -> ∃ c,env.cells.lookup x.1 = some c) →
 (forIn names acc λ(x:Str×NameKind) (cs:List (Str×Addr))=>(if x.2 == .free then (do let c ← cellOf env x.1;pure (ForInStep.yield ((x.1,c)::cs))) else pure (ForInStep.yield cs):Sem _))=(pure (Kx env names acc):Sem (List (Str×Addr)))
 | [],acc,_=>by rw[List.forIn_nil];rfl
 |(n,k)::r,acc,h=>by
  rw[List.forIn_cons];have hr:∀x∈r,x.2 = .free->∃c,env.cells.lookup x.1=some c:=λx hx=>h x (zah _ hx)
  by_cases hk:k = .free
  ·subst hk
   obtain⟨c,hc⟩:=h (n,.free) zaj rfl
   have e:cellOf env n=pure c:=by
    unfold cellOf;rw[hc]
   have e2:Kx env ((n,NameKind.free)::r) acc=Kx env r ((n,c)::acc):=by
    show Kx env r (if (NameKind.free==NameKind.free)=true then (n,(env.cells.lookup n).getD 0)::acc else acc)=_;rw[hc];rfl
   rw[e2];show (do let r' ← (do let c ← cellOf env n;pure (ForInStep.yield ((n,c)::acc)));_)=_;rw[e];exact je r _ hr
  ·have hb:(k==NameKind.free)=false:=by simpa using hk
   have e2:Kx env ((n,k)::r) acc=Kx env r acc:=by
    show Kx env r (if (k==NameKind.free)=true then (n,(env.cells.lookup n).getD 0)::acc else acc)=_;rw[hb];rfl
   rw[e2];simp only[hb,Bool.false_eq_true,if_false];exact je r acc hr
def XR {env:Env}:∀ (names:List (Str×NameKind)) (acc:List (Str×Addr)) (x:Str) (c:Addr),(Kx env names acc).lookup x=some c->acc.lookup x=some c∨((x,NameKind.free)∈names/\c=(env.cells.lookup x).getD 0)
 | [],_,_,_,h=>.inl h
 |(n,k)::r,acc,x,c,h=>by
  rcases XR r _ x c h with q | q
  ·by_cases hk:(k==NameKind.free)=true
   ·rw[if_pos hk,List.lookup_cons]at q
    cases hb:x==n with
    |true=>
     rw[hb]at q;have e:x=n:=by simpa using hb
     subst e;have hk':k = .free:=by simpa using hk
     subst hk';cases q;exact .inr ⟨zaj,rfl⟩
    |false=>rw[hb]at q;exact .inl q
   ·rw[if_neg hk]at q
    exact .inl q
  ·exact .inr ⟨zah _ q.1,q.2⟩
def jO {env:Env}:∀ (names:List (Str×NameKind)) (acc:List (Str×Addr)) (x:Str),((x,NameKind.free)∈names∨∃c,acc.lookup x=some c)->∃c,(Kx env names acc).lookup x=some c
 | [],_,_,.inr h=>h
 | [],_,_,.inl h=>nomatch h
 |(n,k)::r,acc,x,h=>by
  refine jO r _ x ?_
  by_cases hk:(k==NameKind.free)=true
  ·rw[if_pos hk]
   rcases h with h | ⟨c,h⟩
   ·rcases List.mem_cons.mp h with e | h
    ·cases e
     exact .inr ⟨_,by rw[List.lookup_cons,beq_self_eq_true]⟩
    ·exact .inl h
   ·right
    rw[List.lookup_cons]
    cases hb:x==n with
    |true=>exact⟨_,rfl⟩
    |false=>exact⟨c,h⟩
  ·rw[if_neg hk]
   rcases h with h | h
   ·rcases List.mem_cons.mp h with e | h
    ·cases e
     exact absurd (show (NameKind.free==NameKind.free)=true from rfl) hk
    ·exact .inl h
   ·exact .inr h
def xD {α:Type}:∀ {l:List (Str×α)} {x:Str×α},(l.map (·.1)).Nodup->x∈l->l.lookup x.1=some x.2
 |(n,k)::r,x,hn,hx=>by
  rw[zat,List.nodup_cons]at hn;rw[List.lookup_cons]
  rcases List.mem_cons.mp hx with e | hx
  ·subst e
   rw[beq_self_eq_true]
  ·cases hb:x.1==n with
   |true=>
    have e:x.1=n:=by simpa using hb
    exact absurd (List.mem_map.mpr ⟨x,hx,e⟩) hn.1
   |false=>exact xD hn.2 hx
def kiR (scope fs:Scope):Bool:=(scope.names.map (·.1)).Nodup/\(scope.names.all λp=>p.2 != .free||(fs.names.lookup p.1==some NameKind.cell||fs.names.lookup p.1==some NameKind.free))
def vK.of {X:Cx}{scope:Scope}{ns free:List Str}{pick:List Nat}(hX:qs X)(hk:scope.kind = .function)(hf:kiR scope X.env.scope=true)
 (fnd:Paired (λy i=>X.N[i]?=some y/\scope.names.lookup y=some .free) free pick) (nd:(ns++free).Nodup):vK X scope (Kx X.env scope.names []) ns free pick:=by
 have hf:=of_decide_eq_true hf
 have fk:∀x∈scope.names,x.2 = .free->X.env.kindOf x.1=some .cell∨X.env.kindOf x.1=some .free:=λx hx he=>by
  have:=List.all_eq_true.mp hf.2 x hx;rw[he]at this;have:=(Bool.or_eq_true _ _ ▸ (show (false||(X.env.scope.names.lookup x.1==some NameKind.cell||X.env.scope.names.lookup x.1==some NameKind.free))=true from this):_∨_).resolve_left Bool.false_ne_true
  rcases (Bool.or_eq_true _ _ ▸ this:_∨_) with z | z
  ·exact .inl (show X.env.scope.names.lookup x.1=some .cell by simpa using z)
  ·exact .inr (show X.env.scope.names.lookup x.1=some .free by simpa using z)
 have fm:∀x∈scope.names,x.2 = .free->∃c,X.env.cells.lookup x.1=some c:=λx hx he=>hX x.1 (fk x hx he)
 refine⟨hk,λx hx e=>by rw[xD hf.1 hx,e],λx hx e=>by rw[xD hf.1 hx,e],λx hx e=>by rw[xD hf.1 hx,e],?_,λx c h=>?_,λx h=>?_,λx h=>?_,fnd,nd⟩
 ·unfold closureFor;exact congrArg (λ(z:Sem (List (Str×Addr)))=>z>>=λcs=>pure cs) (je scope.names [] fm)
 ·rcases XR scope.names [] x c h with q | ⟨q,e⟩
  ·cases q
  ·obtain⟨c',hc'⟩:=fm (x,.free) q rfl;have hc':X.env.cells.lookup x=some c':=hc';rw[hc']at e;have e:c=c':=e;subst e;exact⟨hc',xD hf.1 q⟩
 ·exact jO scope.names [] x (.inl (mem_of_lookup h))
 ·exact fk (x,.free) (mem_of_lookup h) rfl
def qs.fn {CX:CXT}{PP:Program}{w:World}{K:zFr}{mg:Str->Option Value}{base:Heap}{N ps:List Str}{qual:Str}{scope:Scope}{f:Addr}{cd:Value}{A:Around}{outer:List Env}{s:Shared}{H:Hp}{E:XK}(S:kQ N ps scope) :
 qs (KL CX PP w K mg base N qual scope f cd A outer s H E):=by
 intro y hy
 rcases hy with hy | hy
 ·exact Yb hy
 ·exact absurd rfl (S.nofree _ (mem_of_lookup hy))
def kcf {N:List Str}{ds:List D}{vs:List V}{K:zFr}{B:List Addr}{H:Hp}(r:kE K B H ds vs)(own:List Bool)(ho:∀i,i < ds.length->own[i]?≠some true)(hbt:∀b∈B,∃o,H b=some o/\Mut (some o)) :
 kY K own B B (ds.map some++List.replicate (N.length - ds.length) none) (L2.start N vs) H:=by
 have hl:=r.length
 have g:∀ (i:Nat) (d:D),(ds.map some++List.replicate (N.length - ds.length) none)[i]?=some (some d)->ds[i]?=some d:=λi d h=>by
  by_cases hi:i < ds.length
  ·rw[List.getElem?_append_left (by simpa using hi),zar]at h
   cases q:ds[i]? with
   |none=>rw[q]at h;cases h
   |some d'=>rw[q]at h;exact congrArg some (Option.some.inj (Option.some.inj h))
  ·rw[List.getElem?_append_right (by simp;omega)]at h;have:=List.mem_of_getElem? h;rw[List.mem_replicate]at this;cases this.2
 refine⟨by unfold L2.start;simp[hl],λi d h1 h2=>?_,λi d h1 h2=>?_,λi j d d' p hij h1 h2 e1 e2=>?_,hbt⟩
 ·obtain⟨v,hv,rv⟩:=kE.get r (g i d h1);refine⟨v,?_,rv⟩;unfold L2.start;rw[List.getElem?_append_left (by rw[zai];exact (List.getElem?_eq_some_iff.mp hv).1),zar,hv];rfl
 ·exact absurd h2 (ho i (List.getElem?_eq_some_iff.mp (g i d h1)).1)
 ·exact absurd h1 (ho i (List.getElem?_eq_some_iff.mp (g i d e1)).1)
section
variable {PP:Program}{w:World}{K:zFr}{mg:Str->Option Value}{base:Heap}{CX:CXT}{cls:Nat->Value}
def qf {x qual:Str} {st:Stmt} {f:Addr} {fd:FuncData} {N ps:List Str} {k:Nat} {fb:P.FS} (F:Fun K x qual st f fd) (S:kQ N ps (kL st)) (own:List Bool) (ho:∀ i,i < ps.length -> own[i]? ≠ some true)
 (hb:∀ (cdv:Value) (A:Around) (outer:List Env) (s:Shared) (H:Hp) (E:XK) (Ah:List Addr),qU k (A.deeper (envOfC qual (kL st) s.heap.objs.size f cdv)) →
  zQ (KL CX PP w K mg base N qual (kL st) f cdv A outer s H E) own Ah (λc H'=>E (cls c) none H') H (xB st) fb) :
 wg PP w K mg base CX (k+1) f fd ps (spP K cls ps.length (P.fnOf N.length fb)):=by
 obtain⟨oc,od,kV,doc,pm,an,cdv,ct,osl,rfl,lk,hcd⟩:=F.ex;refine khT lk hcd S (λvs H Q E h=>h.1) λA outer s H vs Q E hr h=>?_
 obtain⟨hl,Ah,ds,rr,bt,h⟩:=h;have hdl:ds.length=ps.length:=by rw[<- rr.length];exact hl
 refine⟨_,hb cdv A outer s H E Ah hr,Ah,_,kcf (N:=N) rr own (by rw[hdl];exact ho) bt,⟨kB.refl _,λ_ z=>z,λ_ z=>.inl z⟩,?_⟩;unfold P.fnOf at h
 cases q:fb (ds.map some++List.replicate (N.length - ds.length) none) with
 |ok o=>
  rw[q]at h
  cases o with
  |next env'=>exact λB' σ' H' ok st x=>h _ H' st.same rfl
  |ret d=>exact λv H' s r=>h v H' s r
  |brk env'=>exact h.elim
  |cont env'=>exact h.elim
 |exc c=>rw[q]at h;exact h
 |stuck=>rw[q]at h;exact h
def qh {f:Addr}{fd:FuncData}{ps:List Str}{k n:Nat}{m m':P.Fn}(F:wg PP w K mg base CX k f fd ps (spP K cls n m))(h:∀ds,ds.length=n->m' ds = .stuck∨m ds=m' ds):wg PP w K mg base CX k f fd ps (spP K cls n m') :=
 F.imp λvs H Q E ⟨hl,A,ds,rr,bt,q⟩=>⟨hl,A,ds,rr,bt,by
  rcases h ds (by rw[<- rr.length];exact hl) with z | z
  ·rw[z]at q;exact q.elim
  ·rw[z];exact q⟩
def qV {X:Cx}{own:List Bool}{A:List Addr}{E:Nat->Hp->Prop}{H₀:Hp}{b:List Stmt}{f:P.FS}(h:zQ X.nox own A E0' H₀ b f):zQ X own A E H₀ b (λenv=>(f env).nx):=by
 refine PSs.nox (PSs.imp h λD σ H ⟨B,env,ok,st,q⟩=>⟨B,env,ok,st,?_⟩);have q:Po X.K own A E H₀ B H (f env).nx D:=q
 cases z:f env with
 |ok o=>
  rw[z]at q
  cases o with
  |next e=>exact q
  |ret d=>exact q
  |brk e=>exact q
  |cont e=>exact q
 |exc c=>rw[z]at q;exact q.elim
 |stuck=>rw[z]at q;exact q
end
end L3
namespace TS
open PySem PyProof.Rows
def K (rk:Keyed->Nat)(xs:Array Keyed)(i:Nat):Nat:=(xs[i]?).elim 0 rk
def Jw {rk:Keyed->Nat}{xs ys:Array Keyed}{i j:Nat}(h:xs[i]?=ys[j]?):K rk xs i=K rk ys j:=congrArg (λo=>Option.elim o 0 rk) h
def kaw {rk:Keyed->Nat}{x:Array Keyed}{i:Nat}(h:i < x.size):K rk x i=rk x[i]:=by simp[K,h]
def Sg (rk:Keyed->Nat)(xs:Array Keyed)(i j:Nat):Prop:=∀p q,i<=p->p<=q->q < j->K rk xs p<=K rk xs q
def Dn (rk:Keyed->Nat)(xs:Array Keyed)(i j:Nat):Prop:=∀p q,i<=p->p<=q->q < j->K rk xs q<=K rk xs p
def Sg.snoc {rk:Keyed->Nat}{xs:Array Keyed}{i j:Nat}(h:Sg rk xs i j)(hj:i < j->K rk xs (j - 1)<=K rk xs j):Sg rk xs i (j+1):=λp q h1 h2 h3=>by
 rcases Nat.lt_or_ge q j with hq | hq
 ·exact h p q h1 h2 hq
 ·obtain rfl:q=j:=by omega
  rcases Nat.lt_or_ge p q with hp | hp
  ·exact Nat.le_trans (h p (q - 1) h1 (by omega) (by omega)) (hj (by omega))
  ·rw[show p=q by omega];exact zak _
def Dn.snoc {rk:Keyed->Nat}{xs:Array Keyed}{i j:Nat}(h:Dn rk xs i j)(hj:i < j->K rk xs j<=K rk xs (j - 1)):Dn rk xs i (j+1):=λp q h1 h2 h3=>by
 rcases Nat.lt_or_ge q j with hq | hq
 ·exact h p q h1 h2 hq
 ·obtain rfl:q=j:=by omega
  rcases Nat.lt_or_ge p q with hp | hp
  ·exact Nat.le_trans (hj (by omega)) (h p (q - 1) h1 (by omega) (by omega))
  ·rw[show p=q by omega];exact zak _
def Sg.none {rk:Keyed->Nat}{xs:Array Keyed}{i:Nat}:Sg rk xs i i:=λp q _ _ _=>by omega
def Dn.none {rk:Keyed->Nat}{xs:Array Keyed}{i:Nat}:Dn rk xs i i:=λp q _ _ _=>by omega
def Sg.of {rk:Keyed->Nat}{xs ys:Array Keyed}{i j:Nat}(h:Sg rk xs i j)(e:∀k,i<=k->k < j->K rk ys k=K rk xs k):Sg rk ys i j:=λp q h1 h2 h3=>by
 rw[e p h1 (by omega),e q (by omega) h3];exact h p q h1 h2 h3
def Dn.of {rk:Keyed->Nat}{xs ys:Array Keyed}{i j:Nat}(h:Dn rk xs i j)(e:∀k,i<=k->k < j->K rk ys k=K rk xs k):Dn rk ys i j:=λp q h1 h2 h3=>by
 rw[e p h1 (by omega),e q (by omega) h3];exact h p q h1 h2 h3
structure Bs (κ:SortKind)(a₀:Array Keyed)(st:SortSt):Prop where
 perm:(arrOf st).Perm a₀
 kind:kindOf st=κ
 failed:failedOf st=none
def Bs.size {κ:SortKind}{a₀:Array Keyed}{st:SortSt}(h:Bs κ a₀ st):(arrOf st).size=a₀.size:=Array.Perm.size_eq h.perm
def Bs.put {κ:SortKind}{a₀:Array Keyed}{st:SortSt}(h:Bs κ a₀ st){xs:Array Keyed}(hp:xs.Perm (arrOf st)):Bs κ a₀ (setArr st xs):=⟨hp.trans h.perm,h.kind,h.failed⟩
def Bs.has {κ:SortKind}{a₀:Array Keyed}{st:SortSt}(h:Bs κ a₀ st){i:Nat}(hi:i < (arrOf st).size):(arrOf st)[i]∈a₀.toList :=
 ((Array.perm_iff_toList_perm.mp h.perm).mem_iff).mp (Array.getElem_mem_toList hi)
def Cmp (prog:Program)(w:World)(A:Around)(E:zEx)(s:Shared)(κ:SortKind)(a₀:Array Keyed)(rk:Keyed->Nat):Prop :=
 ∀ (x y:Keyed) (st:SortSt) (Q:Option Bool->SortSt->Prop),x∈a₀.toList->y∈a₀.toList->kindOf st=κ->Q (some (decide (rk x < rk y))) st->wpS (model prog w) A E s (lt' x y) Q st
structure Out (lo hi:Nat)(st st':SortSt):Prop where
 pend:pendingOf st'=pendingOf st
 out:∀k,k < lo∨hi<=k->(arrOf st')[k]?=(arrOf st)[k]?
def Out.refl {lo hi:Nat}{st:SortSt}:Out lo hi st st:=⟨rfl,λ_ _=>rfl⟩
def Out.trans {lo hi:Nat}{st st' st'':SortSt}(a:Out lo hi st st')(b:Out lo hi st' st''):Out lo hi st st'':=⟨b.pend.trans a.pend,λk h=>(b.out k h).trans (a.out k h)⟩
section
variable {prog:Program}{w:World}{A:Around}{E:zEx}{s:Shared}{a₀:Array Keyed}{κ:SortKind}{rk:Keyed->Nat}
def Jp {arr:Array Keyed}{i:Nat}{st:SortSt}{Q:Keyed->SortSt->Prop}(hi:i < arr.size)(h:Q arr[i] st):wpS (model prog w) A E s (elem' arr i) Q st:=by
 rw[elem'_eq,getElem?_pos arr i hi];exact zae h
def V6 {st:SortSt}{i j:Nat}{Q:Option Bool->SortSt->Prop}(hO:Cmp prog w A E s κ a₀ rk)(hB:Bs κ a₀ st)(hi:i < a₀.size)(hj:j < a₀.size)
 (h:Q (some (decide (K rk (arrOf st) i < K rk (arrOf st) j))) st):wpS (model prog w) A E s (ltAt' i j) Q st:=by
 have gi:i < (arrOf st).size:=by rw[hB.size];exact hi
 have gj:j < (arrOf st).size:=by rw[hB.size];exact hj
 rw[kaw gi,kaw gj]at h;rw[ltAt'_eq];exact zad (wpS_get (zad (Jp gi (zad (Jp gj (hO _ _ st Q (hB.has gi) (hB.has gj) hB.kind h))))))
def moved {st:SortSt}{lo k l:Nat}(hk:lo+k < (arrOf st).size)(hl:l<=k)(hs:Sg rk (arrOf st) lo (lo+k))(h1:∀i,i < l->K rk (arrOf st) (lo+i)<=K rk (arrOf st) (lo+k))(h2:∀i,l<=i->i < k->K rk (arrOf st) (lo+k) < K rk (arrOf st) (lo+i)) :
 Sg rk (bubble (arrOf st) (lo+k) (k - l)) lo (lo+(k+1)):=by
 have e:∀j,lo<=j->j < lo+(k+1)->∃i,lo<=i/\i<=lo+k/\K rk (bubble (arrOf st) (lo+k) (k - l)) j=K rk (arrOf st) i/\(j < lo+l->i=j)/\(j=lo+l->i=lo+k)/\(lo+l < j->i+1=j):=λj a b=>by
  have g:=getElem?_bubble hk (k - l) (by omega) j
  rcases Nat.lt_trichotomy j (lo+l) with c | c | c
  ·rw[if_neg (by omega),if_neg (by omega)]at g;exact⟨j,a,by omega,Jw g,λ_=>rfl,by omega,by omega⟩
  ·rw[if_pos (by omega)]at g;exact⟨lo+k,by omega,zak _,Jw g,by omega,λ_=>rfl,by omega⟩
  ·rw[if_neg (by omega),if_pos (by omega)]at g;exact⟨j - 1,by omega,by omega,Jw g,by omega,by omega,by omega⟩
 have lo1:∀i,lo<=i->i < lo+l->K rk (arrOf st) i<=K rk (arrOf st) (lo+k):=λi a b=>by
  have:=h1 (i - lo) (by omega);rwa [Nat.add_sub_cancel' a]at this
 have hi1:∀i,lo+l<=i->i < lo+k->K rk (arrOf st) (lo+k) < K rk (arrOf st) i:=λi a b=>by
  have:=h2 (i - lo) (by omega) (by omega);rwa [Nat.add_sub_cancel' (by omega)]at this
 intro p q hp hpq hq;obtain⟨i,i1,i2,ei,c1,c2,c3⟩:=e p hp (by omega);obtain⟨j,j1,j2,ej,d1,d2,d3⟩:=e q (by omega) hq;rw[ei,ej]
 rcases Nat.lt_trichotomy q (lo+l) with c | c | c
 ·exact hs i j i1 (by have:=c1 (by omega);have:=d1 c;omega) (by have:=d1 c;omega)
 ·rw[d2 c]
  rcases Nat.lt_or_ge p q with z | z
  ·exact lo1 i i1 (by have:=c1 (by omega);omega)
  ·rw[c2 (by omega)];exact zak _
 ·rcases Nat.lt_trichotomy p (lo+l) with z | z | z
  ·exact hs i j i1 (by have:=c1 z;have:=d3 c;omega) (by have:=d3 c;omega)
  ·rw[c2 z];exact Nat.le_of_lt (hi1 j (by have:=d3 c;omega) (by have:=d3 c;omega))
  ·exact hs i j i1 (by have:=c3 z;have:=d3 c;omega) (by have:=d3 c;omega)
def kji:Nat->Nat->Nat->StateT SortSt Sem Bool:=sortPriv% PySem.Builtin.binarySort
def keW {st:SortSt}{lo n ok:Nat}{Q:Bool->SortSt->Prop}(hO:Cmp prog w A E s κ a₀ rk)(hn:lo+n<=a₀.size)(hok:1<=ok)(hon:ok<=n)(hB:Bs κ a₀ st)(hs:Sg rk (arrOf st) lo (lo+ok))
 (h:∀st',Bs κ a₀ st'->Out lo (lo+n) st st'->Sg rk (arrOf st') lo (lo+n)->Q true st'):wpS (model prog w) A E s (kji lo n ok) Q st:=by
 let J:=λ(k:Nat) (st':SortSt)=>Bs κ a₀ st'/\Out lo (lo+n) st st'/\Sg rk (arrOf st') lo (lo+k)
 refine zad (wpS_mono (wpS_forRange (λk c st'=>c.1=none/\k<=n/\J k st') (Q:=λc st'=>c.1=none/\J n st') ?turn (λc st' z=>?last) ⟨rfl,by omega,hB,.refl,by rw[show max ok 1=ok by omega];exact hs⟩) ?rest)
 case last=>
  obtain⟨z1,z2,z3⟩:=z;exact⟨z1,by rwa [show max (max ok 1) n=n by omega]at z3⟩
 case rest=>
  rintro⟨r,u⟩ st' ⟨e,b,o,sg⟩;obtain rfl:r=none:=e;exact zae (h st' b o sg)
 case turn=>
  rintro k ⟨r,u⟩ st' hk1 hk2 ⟨e,_,b,o,sg⟩;obtain rfl:r=none:=e
  let F:=λ(l r:Nat)=>l<=r/\r<=k/\(∀i,i < l->K rk (arrOf st') (lo+i)<=K rk (arrOf st') (lo+k))/\∀i,r<=i->i < k->K rk (arrOf st') (lo+k) < K rk (arrOf st') (lo+i)
  refine zad (wpS_mono (wpS_forRange (λx c st2=>st2=st'/\c.1=none/\F c.2.1 c.2.2/\c.2.2 - c.2.1+x<=k) (Q:=λc st2=>st2=st'/\c.1=none/\F c.2.1 c.2.1) ?half (λc st2 z=>?stop) ⟨rfl,rfl,⟨by simp,by simp,by simp,by simp;omega⟩,by simp⟩) ?found)
  case stop=>
   obtain⟨z1,z2,z3,z4⟩:=z;have:c.2.1=c.2.2:=by have:=z3.1;omega
   exact⟨z1,z2,by rw[<- this]at z3;exact z3⟩
  case half=>
   rintro x ⟨r,l,u⟩ st2 _ hx ⟨rfl,e,⟨f1,f2,f3,f4⟩,f5⟩;obtain rfl:r=none:=e;dsimp only at f1 f2 f3 f4 f5 ⊢
   by_cases hge:l ≥ u
   ·rw[if_pos hge];obtain rfl:l=u:=by omega
    exact zae ⟨rfl,rfl,f1,f2,f3,f4⟩
   rw[if_neg hge];have hmid:l<=(l+u) / 2/\(l+u) / 2 < u:=by omega
   generalize (l+u) / 2=m at hmid ⊢;refine zad (V6 hO b (by omega) (by omega) ?_)
   by_cases c:K rk (arrOf st2) (lo+k) < K rk (arrOf st2) (lo+m)
   ·rw[decide_eq_true c];refine zae ⟨rfl,rfl,⟨hmid.1,(by show m<=k;omega),f3,λi a1 a2=>?_⟩,(by show m - l+(x+1)<=k;omega)⟩;have a1:m<=i:=a1;exact Nat.lt_of_lt_of_le c (sg _ _ (by omega) (by omega) (by omega))
   ·rw[decide_eq_false c];refine zae ⟨rfl,rfl,⟨(by show m+1<=u;omega),f2,λi a1=>?_,f4⟩,(by show u - (m+1)+(x+1)<=k;omega)⟩;have a1:i < m+1:=a1;exact Nat.le_trans (sg _ (lo+m) (by omega) (by omega) (by omega)) (Nat.le_of_not_lt c)
  case found=>
   rintro⟨r,l,u⟩ st2 ⟨rfl,e,f1,f2,f3,f4⟩;obtain rfl:r=none:=e;dsimp only at f2 f3 f4;have hks:lo+k < (arrOf st2).size:=by rw[b.size];omega
   have ed:lo+k - (lo+l)=k - l:=by omega
   refine zad (wpS_modify (zae ⟨rfl,by omega,b.put (bubble_perm _ _ _),o.trans ⟨rfl,λj hj=>?_⟩,?_⟩))
   ·refine (getElem?_bubble hks _ (by omega) j).trans ?_;rw[if_neg (by omega),if_neg (by omega)]
   ·have:=moved hks f2 sg f3 f4;rw[<- ed]at this;exact this
end
def rev (st:SortSt)(i j:Nat):SortSt:=setArr st (mirror (arrOf st) i j ((j - i) / 2))
def kbe {rk:Keyed->Nat}{st:SortSt}{i j:Nat}(hj:j<=(arrOf st).size)(k:Nat):K rk (arrOf (rev st i j)) k=K rk (arrOf st) (if i<=k/\k < j then i+j - 1 - k else k):=by
 have g:=getElem?_mirror_all (i:=i) hj k;split
 ·rename_i c;rw[if_pos c]at g;exact Jw g
 ·rename_i c;rw[if_neg c]at g;exact Jw g
def Yx {rk:Keyed->Nat}{st:SortSt}{i j:Nat}(hj:j<=(arrOf st).size){c:Nat}(h:∀k,i<=k->k < j->K rk (arrOf st) k=c)(k:Nat):K rk (arrOf (rev st i j)) k=K rk (arrOf st) k:=by
 rw[kbe hj];split
 ·rw[h _ (by omega) (by omega),h k (by omega) (by omega)]
 ·rfl
def khc {rk:Keyed->Nat}{st:SortSt}{i j:Nat}(hj:j<=(arrOf st).size)(h:Dn rk (arrOf st) i j):Sg rk (arrOf (rev st i j)) i j:=λp q h1 h2 h3=>by
 rw[kbe hj,kbe hj,if_pos (by omega),if_pos (by omega)];exact h _ _ (by omega) (by omega) (by omega)
def Zm {κ:SortKind}{a₀:Array Keyed}{st:SortSt}{i j:Nat}(h:Bs κ a₀ st):Bs κ a₀ (rev st i j):=h.put (mirror_perm _ _ _ _)
def Xv {lo hi i j:Nat}{st:SortSt}(hj:j<=(arrOf st).size)(h1:lo<=i)(h2:j<=hi):Out lo hi st (rev st i j):=⟨rfl,λk h=>by
 refine (getElem?_mirror_all (i:=i) hj k).trans ?_
 rw[if_neg (by omega)]⟩
section
variable {prog:Program}{w:World}{A:Around}{E:zEx}{s:Shared}{a₀:Array Keyed}{κ:SortKind}{rk:Keyed->Nat}
def XC {st:SortSt}{i j:Nat}{Q:Unit->SortSt->Prop}(h:Q () (rev st i j)):wpS (model prog w) A E s (reverseSlice' i j) Q st:=wpS_reverse h
def runN:Nat->Nat->StateT SortSt Sem (Option Nat):=sortPriv% PySem.Builtin.countRun
def ifJ {α:Type}{M:Model}{A:Around}{E:zEx}{s:Shared}{c:Prop}[Decidable c]{x y:StateT SortSt Sem α}{Q:α->SortSt->Prop}{st:SortSt}(I:SortSt->Prop)(tail:∀st',I st'->wpS M A E s y Q st')
 (ht:(∀st',I st'->wpS M A E s y Q st')->c->wpS M A E s x Q st) (hf:¬ c->I st):wpS M A E s (if c then x else y) Q st:=by
 by_cases h:c
 ·rw[if_pos h];exact ht tail h
 ·rw[if_neg h];exact tail st (hf h)
def ke9 {st:SortSt}{lo nrem:Nat}{Q:Option Nat->SortSt->Prop}(hO:Cmp prog w A E s κ a₀ rk)(hn:lo+nrem<=a₀.size)(h1:1<=nrem)(hB:Bs κ a₀ st)
 (h:∀m st',Bs κ a₀ st'->Out lo (lo+nrem) st st'->1<=m->m<=nrem->Sg rk (arrOf st') lo (lo+m)->Q (some m) st'):wpS (model prog w) A E s (runN lo nrem) Q st:=by
 refine zad (wpS_mono (wpS_forRange (λx c st2=>st2=st/\c.1=none/\c.2=x/\x<=nrem/\Sg rk (arrOf st) lo (lo+x))
  (Q:=λc st2=>st2=st/\c.1=none/\1<=c.2/\c.2<=nrem/\Sg rk (arrOf st) lo (lo+c.2)/\(c.2=nrem∨K rk (arrOf st) (lo+c.2) < K rk (arrOf st) (lo+c.2 - 1))) ?up ?top ⟨rfl,rfl,rfl,h1,Sg.none.snoc (by omega)⟩) ?rest)
 case top=>exact λc st2 ⟨z1,z2,z3,z4,z5⟩=>⟨z1,z2,by omega,by omega,by rw[z3];exact z5,.inl (by omega)⟩
 case up=>
  rintro x ⟨r,n⟩ st2 _ hx ⟨rfl,e,e2,_,sg⟩;obtain rfl:r=none:=e;obtain rfl:n=x:=e2;refine zad (V6 hO hB (by dsimp only;omega) (by dsimp only;omega) ?_);dsimp only
  by_cases c:K rk (arrOf st2) (lo+n) < K rk (arrOf st2) (lo+n - 1)
  ·rw[decide_eq_true c];exact zae ⟨rfl,rfl,by dsimp only;omega,by dsimp only;omega,sg,.inr c⟩
  ·rw[decide_eq_false c];exact zae ⟨rfl,rfl,rfl,hx,by rw[<- Nat.add_assoc];exact sg.snoc λ_=>Nat.le_of_not_lt c⟩
 case rest=>
  rintro⟨r,n⟩ st2 ⟨rfl,e,n1,n2,sg,alt⟩;obtain rfl:r=none:=e;dsimp only at n1 n2 sg alt ⊢
  by_cases hnn:n=nrem
  ·rw[if_pos (by simpa using hnn)];exact zae (h n _ hB .refl n1 n2 sg)
  rw[if_neg (by simpa using hnn)];have drop:K rk (arrOf st2) (lo+n) < K rk (arrOf st2) (lo+n - 1):=alt.resolve_left hnn;have hlt:n+1<=nrem:=by omega
  have hz2:lo+n<=(arrOf st2).size:=by rw[hB.size];omega
  refine ifJ (λstX=>Bs κ a₀ stX/\Out lo (lo+nrem) st2 stX/\Dn rk (arrOf stX) lo (lo+(n+1))) ?tail ?ht ?hf
  case hf=>
   intro hg;obtain rfl:n=1:=by omega
   exact⟨hB,.refl,Dn.snoc (Dn.snoc Dn.none (by omega)) λ_=>Nat.le_of_lt drop⟩
  case ht=>
   intro tl hg;refine zad (V6 hO hB (by omega) (by omega) ?_)
   by_cases c:K rk (arrOf st2) lo < K rk (arrOf st2) (lo+n - 1)
   ·rw[decide_eq_true c];exact zae (h n _ hB .refl n1 n2 sg)
   ·rw[decide_eq_false c]
    have flat:∀k,lo<=k->k < lo+n->K rk (arrOf st2) k=K rk (arrOf st2) (lo+n - 1):=λk a b=>by
     have:=sg lo k (zak _) a b;have:=sg k (lo+n - 1) a (by omega) (by omega);omega
    refine zad (XC ?_);refine tl _ ⟨Zm (i:=lo) (j:=lo+n) hB,Xv hz2 (zak _) (by omega),?_⟩;refine Dn.of (xs:=arrOf st2) (Dn.snoc (λp q a b z=>?_) λ_=>Nat.le_of_lt drop) λk _ _=>Yx hz2 flat k
    have z:q < lo+n:=z;rw[flat p a (by omega),flat q (by omega) z];exact zak _
  case tail=>
   intro stX ⟨bX,oX,dX⟩;refine zad (wpS_lift (wpAny_rule ⟨rfl,?_⟩))
   refine zad (wpS_mono (wpS_forRange (λx c st3=>c.1=none/\c.2.1=x/\x<=nrem/\Bs κ a₀ st3/\Out lo (lo+nrem) st2 st3/\Dn rk (arrOf st3) lo (lo+x)/\c.2.2 < x/\∀i,lo+x - (c.2.2+1)<=i->i < lo+x->K rk (arrOf st3) i=K rk (arrOf st3) (lo+x - 1))
    (Q:=λc st3=>c.1=none/\1<=c.2.1/\c.2.1<=nrem/\Bs κ a₀ st3/\Out lo (lo+nrem) st2 st3/\Dn rk (arrOf st3) lo (lo+c.2.1)/\c.2.2 < c.2.1/\∀i,lo+c.2.1 - (c.2.2+1)<=i->i < lo+c.2.1->K rk (arrOf st3) i=K rk (arrOf st3) (lo+c.2.1 - 1))
    ?dn (λc st3 ⟨z1,z2,z3,z4,z5,z6,z7,z8⟩=>⟨z1,by omega,by omega,z4,z5,by rw[z2];rwa [show max (n+1) nrem=nrem by omega]at z6 ⊢,by omega,by rw[z2];exact z8⟩) ⟨rfl,rfl,hlt,bX,oX,dX,by dsimp only;omega,λi a b=>by dsimp only at a;rw[show i=lo+(n+1) - 1 by omega]⟩) ?af)
   case af=>
    rintro⟨r,m,q⟩ st3 ⟨e,m1,m2,b3,o3,d3,q3,eq3⟩;obtain rfl:r=none:=e;dsimp only at m1 m2 d3 q3 eq3 ⊢;have hz:lo+m<=(arrOf st3).size:=by rw[b3.size];omega
    refine ifJ (λst4=>Bs κ a₀ st4/\Out lo (lo+nrem) st2 st4/\Dn rk (arrOf st4) lo (lo+m)) ?_ ?_ λ_=>⟨b3,o3,d3⟩
    ·intro st4 ⟨b4,o4,d4⟩;have hz4:lo+m<=(arrOf st4).size:=by rw[b4.size];omega
     refine zad (XC ?_);have bZ:=Zm (i:=lo) (j:=lo+m) b4;have oZ:=o4.trans (Xv hz4 (zak lo) (by omega));have sgZ:=khc hz4 d4;generalize rev st4 lo (lo+m)=sZ at bZ oZ sgZ ⊢
     refine zad (wpS_mono (wpS_forRange (λx c st5=>st5=sZ/\c.1=none/\c.2=x/\x<=nrem/\Sg rk (arrOf sZ) lo (lo+x))
      (Q:=λc st5=>st5=sZ/\c.1=none/\1<=c.2/\c.2<=nrem/\Sg rk (arrOf sZ) lo (lo+c.2)) ?_ (λc st5 ⟨z1,z2,z3,z4,z5⟩=>⟨z1,z2,by omega,by omega,by rw[z3];exact z5⟩) ⟨rfl,rfl,rfl,m2,sgZ⟩) ?_)
     ·rintro x ⟨r,k⟩ st5 hxm hx ⟨rfl,e,e2,_,sg5⟩;obtain rfl:r=none:=e;obtain rfl:k=x:=e2;refine zad (V6 hO bZ (by dsimp only;omega) (by dsimp only;omega) ?_);dsimp only
      by_cases c:K rk (arrOf st5) (lo+k) < K rk (arrOf st5) (lo+k - 1)
      ·rw[decide_eq_true c];exact zae ⟨rfl,rfl,by dsimp only;omega,by dsimp only;omega,sg5⟩
      ·rw[decide_eq_false c];exact zae ⟨rfl,rfl,rfl,hx,by rw[<- Nat.add_assoc];exact sg5.snoc λ_=>Nat.le_of_not_lt c⟩
     ·rintro⟨r,k⟩ st5 ⟨rfl,e,k1,k2,sg5⟩;obtain rfl:r=none:=e;exact zae (h k _ bZ oZ k1 k2 sg5)
    ·intro tl hq;refine zad (XC ?_);exact tl _ ⟨Zm b3,o3.trans (Xv hz (by omega) (by omega)),d3.of λk _ _=>Yx hz eq3 k⟩
   case dn=>
    rintro x ⟨r,m,q⟩ st3 hxn hx ⟨e,e2,_,b3,o3,d3,q3,eq3⟩;obtain rfl:r=none:=e;obtain rfl:m=x:=e2;dsimp only at q3 eq3;have hz:lo+m<=(arrOf st3).size:=by rw[b3.size];omega
    refine zad (V6 hO b3 (by dsimp only;omega) (by dsimp only;omega) ?_);dsimp only
    by_cases c:K rk (arrOf st3) (lo+m) < K rk (arrOf st3) (lo+m - 1)
    ·rw[decide_eq_true c];have d4:Dn rk (arrOf st3) lo (lo+(m+1)):=d3.snoc λ_=>Nat.le_of_lt c
     simp only[if_true]
     by_cases hq:q > 0
     ·rw[if_pos hq];exact zad (XC (zae ⟨rfl,rfl,hx,Zm b3,o3.trans (Xv hz (by omega) (by omega)),d4.of λk _ _=>Yx hz eq3 k,by dsimp only;omega,λi a b=>by dsimp only at a;rw[show i=lo+(m+1) - 1 by omega]⟩))
     ·rw[if_neg hq];exact zae ⟨rfl,rfl,hx,b3,o3,d4,by dsimp only;omega,λi a b=>by dsimp only at a;rw[show i=lo+(m+1) - 1 by omega]⟩
    ·rw[decide_eq_false c];simp only[Bool.false_eq_true,if_false];refine zad (V6 hO b3 (by omega) (by omega) ?_)
     by_cases c2:K rk (arrOf st3) (lo+m - 1) < K rk (arrOf st3) (lo+m)
     ·rw[decide_eq_true c2];exact zae ⟨rfl,by dsimp only;omega,by dsimp only;omega,b3,o3,d3,q3,eq3⟩
     ·rw[decide_eq_false c2];have em:K rk (arrOf st3) (lo+m)=K rk (arrOf st3) (lo+m - 1):=by omega
      refine zae ⟨rfl,rfl,hx,b3,o3,d3.snoc λ_=>Nat.le_of_eq em,by dsimp only;omega,λi a b=>?_⟩;dsimp only at a;rw[show lo+(m+1) - 1=lo+m by omega,em]
      rcases Nat.lt_or_ge i (lo+m) with z | z
      ·exact eq3 i (by omega) z
      ·rw[show i=lo+m by omega,em]
end
def uZ (R:Keyed->Keyed->Bool)(l:List Keyed)(x:Keyed):Nat:=l.countP λy=>R y x
structure Wk (R:Keyed->Keyed->Bool)(l:List Keyed):Prop where
 irr:∀x∈l,R x x=false
 tr:∀x∈l,∀y∈l,∀z∈l,R x y=true->R y z=true->R x z=true
 neg:∀x∈l,∀y∈l,∀z∈l,R x z=true->R x y=true∨R y z=true
def VS {α:Type}{p q:α->Bool}:∀ {l:List α},(∀y∈l,p y=true->q y=true)->l.countP p<=l.countP q
 | [],_=>zak _
 |y::l,h=>by
  have ih:=VS (p:=p) (q:=q) (l:=l) λz hz=>h z (zah _ hz)
  have:=h y zaj;rw[List.countP_cons,List.countP_cons];cases hp:p y
  ·simp;omega
  ·simp[this hp];omega
def XY {α:Type}{p q:α->Bool}{z:α}:∀ {l:List α},(∀y∈l,p y=true->q y=true)->z∈l->p z=false->q z=true->l.countP p < l.countP q
 |y::l,h,hz,h1,h2=>by
  have hr:∀y∈l,p y=true->q y=true:=λy hy=>h y (zah _ hy)
  rw[List.countP_cons,List.countP_cons]
  rcases List.mem_cons.mp hz with e | hz
  ·have:=VS hr
   rw[<- e,h1,h2];simp;omega
  ·have ih:=XY hr hz h1 h2
   have:=h y zaj;cases hp:p y
   ·simp;omega
   ·simp[this hp];omega
def Wk.rank {R:Keyed->Keyed->Bool}{l:List Keyed}(h:Wk R l){x y:Keyed}(hx:x∈l)(hy:y∈l):decide (uZ R l x < uZ R l y)=R x y:=by
 cases r:R x y with
 |true=>exact decide_eq_true (XY (λz hz q=>h.tr z hz x hx y hy q r) hx (h.irr x hx) r)
 |false=>
  refine decide_eq_false (Nat.not_lt.mpr (VS λz hz q=>?_))
  rcases h.neg z hz x hx y hy q with c | c
  ·exact c
  ·rw[r]at c;cases c
def Wb {vs:List Value}{p:Keyed}(h:p∈(pairsOf vs).toList):p=(p.2,p.2)/\p.1∈vs:=by
 rw[pairsOf_toList]at h;obtain⟨a,b⟩:=mem_zip_self h;exact⟨Prod.ext a rfl,b⟩
structure Told (rk:Keyed->Nat)(vs:List Value)(out:Array Value):Prop where
 perm:out.toList.Perm vs
 srt:out.toList.Pairwise λu v=>rk (u,u)<=rk (v,v)
def Told.of {rk:Keyed->Nat}{vs:List Value}{xs:Array Keyed}(hp:xs.Perm (pairsOf vs))(hs:Sg rk xs 0 (pairsOf vs).size):Told rk vs (xs.map Prod.snd):=by
 have pl:=Array.perm_iff_toList_perm.mp hp;constructor
 ·rw[Array.toList_map];refine (pl.map Prod.snd).trans (List.Perm.of_eq ?_);rw[pairsOf_toList];exact List.map_snd_zip (zak _)
 ·rw[Array.toList_map,List.pairwise_map,List.pairwise_iff_getElem];intro i j hi hj hij;have own:∀k (hk:k < xs.toList.length),((xs.toList[k]).2,(xs.toList[k]).2)=xs.toList[k]:=λk hk=>(Wb (pl.mem_iff.mp (List.getElem_mem hk))).1.symm
  rw[own i hi,own j hj];rw[zao]at hi hj;have:=hs i j (Nat.zero_le _) (Nat.le_of_lt hij) (by rw[<- hp.size_eq];exact hj);rw[kaw hi,kaw hj]at this;simpa using this
structure kgN (prog:Program)(w:World)(A:Around)(s:Shared)(κ:SortKind)(rk:Keyed->Nat)(vs:List Value):Prop where
 kind:∀ (E:zEx) (Q:SortKind->Shared->Prop),Q κ s->wpAny (model prog w) A (keyKind' vs.toArray) Q E s
 cmp:∀E,Cmp prog w A E s κ (pairsOf vs) rk
section
variable {prog:Program}{w:World}{A:Around}{E:zEx}{s:Shared}
def mid (h:Heap)(a:Addr)(vs:List Value):Heap:=((h.update a (Obj.mapSeq λ_=>#[])).push (seqObj "tuple" vs.toArray 0)).push (seqObj "list" #[] 0)
def kgh {h:Heap}{a b:Addr}{vs:List Value}{o:Obj}(hb:b≠a)(e:h.get? b=some o):(mid h a vs).get? b=some o :=
 zac _ (zac _ ((Heap.get?_update_ne _ _ _ _ hb).trans e))
def kfe {h:Heap}{a:Addr}{vs:List Value}{n:Nat}(e:h.get? a=some (seqObj "list" vs.toArray n)):∃m,(h.update a (Obj.mapSeq λ_=>#[])).get? a=some (seqObj "list" #[] m)/\(mid h a vs).get? a=some (seqObj "list" #[] m) :=
 ⟨_,get?_update_seq e _,zac _ (zac _ (get?_update_seq e _))⟩
end
end TS
namespace L3
open PySem PySem.Spec PyProof.Rows L2
open P (D Rs Out)
def kar (A:Around)(s:Shared)(x y:Value)(b:Bool):Prop :=
 ∀ (prog:Program) (w:World) (E:zEx) (Q:zEx),Q (.bool b) s->wpAny (model prog w) A (richCompare .Lt x y) Q E s
def Zs (A:Around)(s:Shared):List Value->List Value->Bool->Prop
 | [],[],b=>b=false
 | [],_::_,b=>b=true
 |_::_,[],b=>b=false
 |x::xs,y::ys,b=>(SeqAt.EqAt A s x y true/\Zs A s xs ys b)∨(SeqAt.EqAt A s x y false/\kar A s x y b)
section
open PySem.SeqAt
open PySem.AutoSeq1 (wpAny_loadPart')
open PySem.MeetsSeq PySem.MeetsSeq2 PySem.MeetsSeq3
def JJ (l b:Addr) (items items2:Array Value) (n n2:Nat) (dd dd2:Option Addr) (sl sl2:Array (Option Value)) (c:Bool) :
 Meets (Builtin.«tuple.__lt__» ⟨[.ref l,.ref b],[]⟩)
  (λA R s=>s.heap.get? l=some { cls:=.type "tuple",dict:=dd,data:=.seq items n,slots:=sl }/\s.heap.get? b=some { cls:=.type "tuple",dict:=dd2,data:=.seq items2 n2,slots:=sl2 } ∧
   Zs A.in1 s items.toList items2.toList c/\R (.ok (.ret (.bool c))) s) :=
 .of_wp λprog w A R s h=>by
  obtain⟨hp,g,d,tk,os⟩:=s;obtain⟨hl,hb,hx,h⟩:=h
  have f2:=AutoSeq1.sub_tuple_tuple
  wp_walk using wpAny_loadPart' hl,wpAny_loadPart' hb,wpAny_forIn_list _ (λrest b s'=>b.1=none/\s'=⟨hp,g,d,tk,os⟩/\∃ (vs ws:List Value),rest=vs.zip ws ∧
   vs.length+items2.size=ws.length+items.size/\Zs A.in1 ⟨hp,g,d,tk,os⟩ vs ws c) _
  case turn=>
   rintro⟨y,x⟩ rest b s' ⟨hb',rfl,vs,ws,hz,hlen,hx⟩
   cases vs with
   |nil=>rw[List.zip_nil_left]at hz;cases hz
   |cons v vs=>
    cases ws with
    |nil=>rw[List.zip_nil_right]at hz;cases hz
    |cons u ws=>
     rw[List.zip_cons_cons]at hz
     injection hz with hyx hrest
     injection hyx with hy hx'
     subst hy hx';simp only[zam]at hlen
     rcases hx with ⟨he,hx⟩ | ⟨he,hlt⟩
     ·refine zaa (he prog w _ _ ?_)
      wp_walk
      exact⟨rfl,rfl,_,_,hrest,by omega,hx⟩
     ·refine zaa (he prog w _ _ ?_)
      have hri:=λE Q hq=>hlt prog w E Q hq
      wp_walk using hri
      exact⟨_,rfl,by simpa using h⟩
  case fin=>
   rintro⟨b1,b2⟩ s' ⟨hb',rfl,vs,ws,hz,hlen,hx⟩;simp only at hb';subst hb'
   have hv:c=decide (items.size < items2.size):=by
    cases vs with
    |nil=>
     cases ws with
     |nil=>
      simp only[List.length_nil]at hlen;rw[show c=false from hx];exact (decide_eq_false (by omega)).symm
     |cons u ws=>
      simp only[List.length_nil,zam]at hlen;rw[show c=true from hx];exact (decide_eq_true (by omega)).symm
    |cons v vs=>
     cases ws with
     |nil=>
      simp only[List.length_nil,zam]at hlen;rw[show c=false from hx];exact (decide_eq_false (by omega)).symm
     |cons u ws=>
      rw[List.zip_cons_cons]at hz;cases hz
   rw[hv]at h
   wp_walk
   exact⟨_,rfl,by simpa [Builtin.Tuple.tupleCompareSizes] using h⟩
  case h=>
   exact⟨rfl,rfl,items.toList,items2.toList,rfl,by simp;omega,hx⟩
end
def uP (A:Around)(s:Shared)(a:Int)(t:Tok)(c:Int)(u:Tok):kar A s (.int a t) (.int c u) (decide (a < c)):=λprog w E Q h=>HT.kdt A s a t c u prog w E Q h
def kc8 {A:Around}{s:Shared}{l b:Addr}{o o2:Obj}{vs vs2:Array Value}{n n2:Nat}{c:Bool}(hl:s.heap.get? l=some o)(hc:o.cls = .type "tuple")(hd:o.data = .seq vs n)(hb:s.heap.get? b=some o2)(hc2:o2.cls = .type "tuple")(hd2:o2.data = .seq vs2 n2)
 (hu:A.units < cLine) (hx:Zs A.in1 s vs.toList vs2.toList c):kar A s (.ref l) (.ref b) c:=λprog w E Q h=>by
 obtain⟨cls,dd,data,sl⟩:=o;obtain⟨cls2,dd2,data2,sl2⟩:=o2;simp only at hc hd hc2 hd2;subst hc hd hc2 hd2
 exact richCompare_meets_room (op:=.Lt) ⟨_,hl,rfl⟩ ⟨_,hb,rfl⟩ PySem.F.slot_tuple_lt PySem.F.entry_tuple_lt (PySem.F.args_tuple_lt_2 _ _) (JJ l b vs vs2 n n2 dd dd2 sl sl2 c)
  ⟨hl,hb,hx,show Value.bool c≠Value.notImplemented/\Q (.bool c) s from ⟨(λx=>nomatch x),h⟩⟩ hu
mutual
def YD:∀ {n:Nat} {d e:D} {A:Around} {s:Shared} {u v:Value} {as bs:List Addr},d.pl n=true->e.pl n=true->D.cmp d e=true->Reads s.heap u (py d) as->Reads s.heap v (py e) bs->A.units+n < cLine->kar A s u v (D.kl d e)
 |n,.int a,.int b,A,s,u,v,as,bs,_,_,_,ra,rb,_=>by
  cases ra with
  |int _ t=>cases rb with
   |int _ t'=>rw[D.kl];exact uP A s a t b t'
 |0,.tup xs,e,A,s,u,v,as,bs,h1,_,_,ra,rb,_=>by simp[D.pl]at h1
 |n+1,.tup xs,.tup ys,A,s,u,v,as,bs,h1,h2,hc,ra,rb,hu=>by
  cases ra with
  |tuple o1 o2 o3 o4=>cases rb with
   |tuple p1 p2 p3 p4=>
    rw[D.kl];refine kc8 o1 o2 o3 p1 p2 p3 (by omega) ?_;exact ju h1 h2 (by simpa [D.cmp] using hc) o4 p4 (by show A.units+1+n < cLine;omega)
 |n+1,.tup xs,.int _,_,_,_,_,_,_,_,_,hc,_,_,_=>by simp[D.cmp]at hc
 |n+1,.tup xs,.non,_,_,_,_,_,_,_,_,hc,_,_,_=>by simp[D.cmp]at hc
 |n+1,.tup xs,.bl _,_,_,_,_,_,_,_,_,hc,_,_,_=>by simp[D.cmp]at hc
 |n+1,.tup xs,.str _,_,_,_,_,_,_,_,_,hc,_,_,_=>by simp[D.cmp]at hc
 |n+1,.tup xs,.lst _,_,_,_,_,_,_,_,_,hc,_,_,_=>by simp[D.cmp]at hc
 |n+1,.tup xs,.lsf _,_,_,_,_,_,_,_,_,hc,_,_,_=>by simp[D.cmp]at hc
 |n+1,.tup xs,.dic _ _,_,_,_,_,_,_,_,_,hc,_,_,_=>by simp[D.cmp]at hc
 |n+1,.tup xs,.dil _ _,_,_,_,_,_,_,_,_,hc,_,_,_=>by simp[D.cmp]at hc
 |_,.int _,.tup _,_,_,_,_,_,_,_,_,hc,_,_,_=>by simp[D.cmp]at hc
 |_,.int _,.non,_,_,_,_,_,_,_,_,hc,_,_,_=>by simp[D.cmp]at hc
 |_,.int _,.bl _,_,_,_,_,_,_,_,_,hc,_,_,_=>by simp[D.cmp]at hc
 |_,.int _,.str _,_,_,_,_,_,_,_,_,hc,_,_,_=>by simp[D.cmp]at hc
 |_,.int _,.lst _,_,_,_,_,_,_,_,_,hc,_,_,_=>by simp[D.cmp]at hc
 |_,.int _,.lsf _,_,_,_,_,_,_,_,_,hc,_,_,_=>by simp[D.cmp]at hc
 |_,.int _,.dic _ _,_,_,_,_,_,_,_,_,hc,_,_,_=>by simp[D.cmp]at hc
 |_,.int _,.dil _ _,_,_,_,_,_,_,_,_,hc,_,_,_=>by simp[D.cmp]at hc
 |_,.non,_,_,_,_,_,_,_,_,_,hc,_,_,_=>by simp[D.cmp]at hc
 |_,.bl _,_,_,_,_,_,_,_,_,_,hc,_,_,_=>by simp[D.cmp]at hc
 |_,.str _,_,_,_,_,_,_,_,_,_,hc,_,_,_=>by simp[D.cmp]at hc
 |_,.lst _,_,_,_,_,_,_,_,_,_,hc,_,_,_=>by simp[D.cmp]at hc
 |_,.lsf _,_,_,_,_,_,_,_,_,_,hc,_,_,_=>by simp[D.cmp]at hc
 |_,.dic _ _,_,_,_,_,_,_,_,_,_,hc,_,_,_=>by simp[D.cmp]at hc
 |_,.dil _ _,_,_,_,_,_,_,_,_,_,hc,_,_,_=>by simp[D.cmp]at hc
def ju:∀ {n:Nat} {xs ys:List D} {A:Around} {s:Shared} {us vs:List Value} {as bs:List Addr},D.pls n xs = true -> D.pls n ys = true -> D.QM xs ys = true -> ReadsAll s.heap us (pys xs) as -> ReadsAll s.heap vs (pys ys) bs -> A.units + n < cLine →
 Zs A s us vs (D.kls xs ys)
 |n,[],[],A,s,us,vs,as,bs,_,_,_,ra,rb,_=>by
  cases ra;cases rb
  show D.kls [] []=false;rw[D.kls]
 |n,[],y::ys,A,s,us,vs,as,bs,_,_,_,ra,rb,_=>by
  cases ra
  cases rb with
  |cons r1 r2=>show D.kls [] (y::ys)=true;rw[D.kls]
 |n,x::xs,[],A,s,us,vs,as,bs,_,_,_,ra,rb,_=>by
  cases rb
  cases ra with
  |cons r1 r2=>show D.kls (x::xs) []=false;rw[D.kls]
 |n,x::xs,y::ys,A,s,us,vs,as,bs,h1,h2,hc,ra,rb,hu=>by
  have h1:=(Bool.and_eq_true _ _ ▸ (show (D.pl n x&&D.pls n xs)=true from h1):_/\_);have h2:=(Bool.and_eq_true _ _ ▸ (show (D.pl n y&&D.pls n ys)=true from h2):_/\_)
  cases ra with
  |cons r1 r2=>cases rb with
   |cons q1 q2=>
    obtain⟨l1,d1⟩:=yf _ _ h1.1;obtain⟨l2,d2⟩:=yf _ _ h2.1
    have k:=SeqAt.eqAt_reads (py x) (py y) A s _ _ _ _ r1 q1 l1 l2 (by
     have:min (py x).depth (py y).depth<=(py x).depth:=Nat.min_le_left _ _
     omega)
    rw[Vg _ _ _ _ h1.1 h2.1]at k;rw[D.QM]at hc;rw[Vj]
    by_cases e:D.eq x y=true
    ·rw[if_pos e]at hc ⊢
     rw[e]at k;exact .inl ⟨k,ju h1.2 h2.2 hc r2 q2 hu⟩
    ·rw[if_neg e]at hc ⊢
     rw[show D.eq x y=false by simpa using e]at k;exact .inr ⟨k,YD h1.1 h2.1 hc r1 q1 hu⟩
end
section
variable {X:Cx}
def yu (hu:X.A.units+64 < cLine):OpS X (compareOp .Lt) P.oLt:=by
 refine⟨λx y c h=>?_,λpins s σ H x y v u Q I rx ry ⟨B,dx,dy,d,r1,r2,bt,hg,q⟩=>?_⟩
 ·unfold P.oLt at h;split at h
  ·cases h
  ·split at h <;> cases h
  ·cases h
 ·unfold P.oLt at hg;split at hg
  ·cases hg;rename_i i j;obtain rfl:x = .int i:=r1;obtain rfl:y = .int j:=r2;obtain⟨t,rfl⟩:=rx;obtain⟨t',rfl⟩:=ry;exact uP X.A s i t j t' _ _ _ _ ⟨.bl _,H,I,rfl,q _ H (kB.refl _) rfl⟩
  ·split at hg
   ·rename_i xs ys hp;cases hg;simp only[Bool.and_eq_true]at hp;have h1:(D.tup xs).pl 41=true:=hp.1.2.1;have h2:(D.tup ys).pl 41=true:=hp.1.2.2;obtain⟨as,ra⟩:=reads I h1 r1 rx;obtain⟨bs,rb⟩:=reads I h2 r2 ry;have:=YD (A:=X.A) h1 h2 (by rw[D.cmp];exact hp.2) ra rb (by omega) X.prog X.w X.xe (EP X pins σ Q) ⟨.bl _,H,I,rfl,q _ H (kB.refl _) (by rw[D.kl];exact rfl)⟩;exact this
   ·cases hg
  ·cases hg
def yT:Boo P.oLt:=λx y d h=>by
 unfold P.oLt at h;split at h
 ·cases h;exact⟨_,rfl⟩
 ·split at h <;> cases h;exact⟨_,rfl⟩
 ·cases h
end
mutual
def JI:PyData->D
 |.int i=>.int i
 |.tuple xs=>.tup (Zf xs)
 |_=>.non
def Zf:List PyData->List D
 | []=>[]
 |x::xs=>JI x::Zf xs
end
mutual
def kah:∀ {d:D},d.nk=true->JI (py d)=d
 |.int i,_=>by simp[py,JI]
 |.tup xs,h=>by rw[py,JI,jP (P.V9 h)]
 |.non,h=>by simp[D.nk]at h
 |.bl _,h=>by simp[D.nk]at h
 |.str _,h=>by simp[D.nk]at h
 |.lst _,h=>by simp[D.nk]at h
 |.lsf _,h=>by simp[D.nk]at h
 |.dic _ _,h=>by simp[D.nk]at h
 |.dil _ _,h=>by simp[D.nk]at h
def jP:∀ {ds:List D},D.nks ds=true->Zf (pys ds)=ds
 | [],_=>by simp[pys,Zf]
 |x::xs,h=>by rw[pys,Zf,kah (yr h).1,jP (yr h).2]
end
mutual
def Zc {h h':Heap}(k:∀b o,h.get? b=some o->h'.get? b=some o):∀ {d:D} {u:Value} {as:List Addr},Reads h u (py d) as->Reads h' u (py d) as
 |.non,_,_,r=>by cases r;exact .none
 |.bl _,_,_,r=>by cases r;exact .bool _
 |.int _,_,_,r=>by cases r;exact .int _ _
 |.str _,_,_,r=>by cases r;exact .str _ _
 |.lst xs,_,_,r=>by
  cases r with
  |list a b c d=>exact .list (k _ _ a) b c (zO k d)
 |.lsf xs,_,_,r=>by
  cases r with
  |list a b c d=>exact .list (k _ _ a) b c (zO k d)
 |.tup xs,_,_,r=>by
  cases r with
  |tuple a b c d=>exact .tuple (k _ _ a) b c (zO k d)
 |.dic _ _,_,_,r=>by cases r;exact .none
 |.dil _ _,_,_,r=>by cases r;exact .none
def zO {h h':Heap}(k:∀b o,h.get? b=some o->h'.get? b=some o):∀ {ds:List D} {us:List Value} {as:List Addr},ReadsAll h us (pys ds) as->ReadsAll h' us (pys ds) as
 | [],_,_,r=>by cases r;exact .nil
 |d::ds,_,_,r=>by
  cases r with
  |cons a b=>exact .cons (Zc k a) (zO k b)
end
inductive RdL (h:Heap):List Value->List D->Prop
 |nil:RdL h [] []
 |cons {u:Value} {us:List Value} {d:D} {ds:List D} {as:List Addr}:Reads h u (py d) as->RdL h us ds->RdL h (u::us) (d::ds)
def RdL.of {h:Heap}:∀ {us:List Value} {ds:List D} {as:List Addr},ReadsAll h us (pys ds) as->RdL h us ds
 |_,[],_,r=>by cases r;exact .nil
 |_,d::ds,_,r=>by
  cases r with
  |cons a b=>exact .cons a (RdL.of b)
def RdL.mono {h h':Heap}(k:∀b o,h.get? b=some o->h'.get? b=some o):∀ {us:List Value} {ds:List D},RdL h us ds->RdL h' us ds
 |_,_,.nil=>.nil
 |_,_,.cons r t=>.cons (Zc k r) (t.mono k)
def RdL.mem {h:Heap}:∀ {us:List Value} {ds:List D},RdL h us ds->∀u∈us,∃d as,d∈ds/\Reads h u (py d) as
 |_,_,.nil,u,hu=>by cases hu
 |_,_,.cons r t,u,hu=>by
  rcases List.mem_cons.mp hu with rfl | hu
  ·exact⟨_,_,zaj,r⟩
  ·obtain⟨d,as,h1,h2⟩:=t.mem u hu
   exact⟨d,as,zah _ h1,h2⟩
def RdL.khL {h h':Heap}:∀ {us:List Value} {ds:List D},RdL h us ds->RdL h' us ds->∀u∈us,∃d as bs,d∈ds/\Reads h u (py d) as/\Reads h' u (py d) bs
 |_,_,.nil,_,u,hu=>by cases hu
 |_,_,.cons r t,.cons r' t',u,hu=>by
  rcases List.mem_cons.mp hu with rfl | hu
  ·exact⟨_,_,_,zaj,r,r'⟩
  ·obtain⟨d,as,bs,h1,h2,h3⟩:=t.khL t' u hu
   exact⟨d,as,bs,zah _ h1,h2,h3⟩
def RdL.length {h:Heap}:∀ {us:List Value} {ds:List D},RdL h us ds->us.length=ds.length
 |_,_,.nil=>rfl
 |_,_,.cons r t=>by simp[t.length]
def keyOf (h:Heap)(u:Value):D:=JI (Ym h u)
def Vx {h:Heap}{u:Value}{d:D}{as:List Addr}(r:Reads h u (py d) as)(hk:d.nk=true)(hl:(py d).canLay0=true):keyOf h u=d:=by
 unfold keyOf;rw[UW r hl,kah hk]
def WE {n:Nat}{d:D}(h:d.pl n=true):(py d).canLay0=true:=(yf n d h).1
def YC (h:Heap)(x y:Keyed):Bool:=D.kl (keyOf h x.1) (keyOf h y.1)
section
variable {prog:Program}{w:World}{A:Around}{E:zEx}{s:Shared}
def yO {d:D}(h:d.isI=true):∃i,d = .int i:=by cases d <;> simp[D.isI]at h;exact⟨_,rfl⟩
def WK {d:D}(h:d.ti=true):∃i xs,d = .tup (.int i::xs):=by
 cases d with
 |tup xs=>cases xs with
  |nil=>simp[D.ti]at h
  |cons x xs=>cases x <;> simp[D.ti]at h;exact⟨_,_,rfl⟩
 |_=>simp[D.ti]at h
def Yg {d:D}(h:d.tt=true):∃ys xs,d = .tup (.tup ys::xs):=by
 cases d with
 |tup xs=>cases xs with
  |nil=>simp[D.tt]at h
  |cons x xs=>cases x <;> simp[D.tt]at h;exact⟨_,_,rfl⟩
 |_=>simp[D.tt]at h
def YH:∀ {us:List Value} {ds:List D},RdL s.heap us ds->ds.all D.isI=true->∃ns,IntsAre us ns
 |_,_,.nil,_=>⟨[],.nil⟩
 |_,_,.cons (d:=d) r t,h=>by
  rw[List.all_cons,Bool.and_eq_true]at h;obtain⟨i,rfl⟩:=yO h.1;obtain⟨ns,q⟩:=YH t h.2
  cases r with
  |int _ t=>exact⟨i::ns,.cons i t q⟩
def jL:∀ {us:List Value} {ds:List D},RdL s.heap us ds->ds.all D.ti=true->∃fs,PySem.W.KatTups s.heap us fs/\fs.length=us.length/\∀v∈fs,PySem.W.Looks (model prog w) s.heap (typeOf v) (.type "int")
 |_,_,.nil,_=>⟨[],.nil,rfl,λv hv=>by cases hv⟩
 |_,_,.cons (d:=d) r t,h=>by
  rw[List.all_cons,Bool.and_eq_true]at h;obtain⟨i,xs,rfl⟩:=WK h.1;obtain⟨fs,q,l,ty⟩:=jL t h.2
  cases r with
  | @tuple _ o vs n _ _ o1 o2 o3 o4=>
   have o4:ReadsAll s.heap vs.toList (PyData.int i::pys xs) _:=o4;generalize hv:vs.toList=vl at o4
   cases o4 with
   |cons q1 q2=>
    cases q1 with
    |int _ t=>
     have e:vs[0]?=some (.int i t):=by rw[<- Array.getElem?_toList,hv];rfl
     refine⟨.int i t::fs,.cons o1 o2 o3 e q,by simp[l],λv hv=>?_⟩
     rcases List.mem_cons.mp hv with rfl | hv
     ·exact PySem.W.Looks.of_pure rfl
     ·exact ty v hv
def jJ:∀ {us:List Value} {ds:List D},RdL s.heap us ds->ds.all D.tt=true->∃fs,PySem.W.KatTups s.heap us fs/\fs.length=us.length/\∀v∈fs,PySem.W.Looks (model prog w) s.heap (typeOf v) (.type "tuple")
 |_,_,.nil,_=>⟨[],.nil,rfl,λv hv=>by cases hv⟩
 |_,_,.cons (d:=d) r t,h=>by
  rw[List.all_cons,Bool.and_eq_true]at h;obtain⟨ys,xs,rfl⟩:=Yg h.1;obtain⟨fs,q,l,ty⟩:=jJ t h.2
  cases r with
  | @tuple _ o vs n _ _ o1 o2 o3 o4=>
   have o4:ReadsAll s.heap vs.toList (PyData.tuple (pys ys)::pys xs) _:=o4;generalize hv:vs.toList=vl at o4
   cases o4 with
   |cons q1 q2=>
    cases q1 with
    | @tuple a _ _ _ _ _ p1 p2 p3 p4=>
     have e:vs[0]?=some (.ref a):=by rw[<- Array.getElem?_toList,hv];rfl
     refine⟨.ref a::fs,.cons o1 o2 o3 e q,by simp[l],λv hv=>?_⟩
     rcases List.mem_cons.mp hv with rfl | hv
     ·have:=(PySem.W.Looks.ld (M:=model prog w) p1 (part:=none)).andThen (f:=λo=>(pure o.cls:Sem Value)) .now
      rw[p2]at this;exact this
     ·exact ty v hv
def Zq (ds:List D):SortKind:=if ds.all D.isI=true then oneType' else tuples' (ds.all D.ti)
def kfo {us:List Value}{ds:List D}(r:RdL s.heap us ds)(hs:P.sortable ds=true)(h2:2<=us.length){Q:SortKind->Shared->Prop}(h:Q (Zq ds) s):wpAny (model prog w) A (keyKind' us.toArray) Q E s:=by
 unfold Zq at h;unfold P.sortable at hs
 by_cases hi:ds.all D.isI=true
 ·rw[if_pos hi]at h
  obtain⟨ns,q⟩:=YH r hi
  obtain⟨v1,v2,rest,rfl⟩:∃v1 v2 rest,us=v1::v2::rest:=by
   match us,h2 with
   |v1::v2::rest,_=>exact⟨v1,v2,rest,rfl⟩
  rw[keyKind_ints q];exact zab h
 ·rw[if_neg hi]at h
  rcases (Bool.or_eq_true _ _).mp hs with q | q
  ·exact absurd q hi
  rcases (Bool.or_eq_true _ _).mp ((Bool.and_eq_true _ _).mp q).1 with t | t
  ·obtain⟨fs,k,l,ty⟩:=jL (prog:=prog) (w:=w) r t
   rw[t]at h;exact PySem.W.kat_kind k (by omega) ty (by decide) (by rw[show (Value.type "int" != Value.type "tuple")=true by decide];exact h)
  ·obtain⟨fs,k,l,ty⟩:=jJ (prog:=prog) (w:=w) r t
   have tf:ds.all D.ti=false:=by
    cases ds with
    |nil=>have:=r.length;rw[List.length_nil]at this;omega
    |cons d ds=>
     rw[List.all_cons,Bool.and_eq_true]at t;obtain⟨ys,xs,rfl⟩:=Yg t.1;simp[D.ti]
   rw[tf]at h;exact PySem.W.kat_kind k (by omega) ty (by decide) (by rw[show (Value.type "tuple" != Value.type "tuple")=false by decide];exact h)
def jt {b:Bool} {n:Nat} {Q:Bool -> Shared -> Prop} (hu:A.units + n < cLine):∀ {xs ys:List D} {us vs:List Value} {as bs:List Addr} {i:Nat} {fin:Bool},D.pls n xs = true -> D.pls n ys = true -> D.QM xs ys = true →
 ReadsAll s.heap us (pys xs) as->ReadsAll s.heap vs (pys ys) bs->(b=true->i=0->∀x∈xs.head?,∀y∈ys.head?,x.isI=true/\y.isI=true)->fin=decide (us.length < vs.length)->Q (D.kls xs ys) s->PySem.W.KatLex prog w A b fin Q (us.zip vs) i s
 | [],ys,us,vs,as,bs,i,fin,_,_,_,ra,rb,_,hf,q=>by
  cases ra;rw[List.zip_nil_left];show Q fin s
  cases ys with
  |nil=>cases rb;rw[hf];rw[D.kls]at q;exact q
  |cons y ys=>
   cases rb with
   |cons q1 q2=>rw[hf];rw[D.kls]at q;exact q
 |x::xs,[],us,vs,as,bs,i,fin,_,_,_,ra,rb,_,hf,q=>by
  cases rb;rw[List.zip_nil_right];show Q fin s
  cases ra with
  |cons q1 q2=>rw[hf];rw[D.kls]at q;exact q
 |x::xs,y::ys,us,vs,as,bs,i,fin,h1,h2,hc,ra,rb,hb,hf,q=>by
  have h1:=(Bool.and_eq_true _ _ ▸ (show (D.pl n x&&D.pls n xs)=true from h1):_/\_);have h2:=(Bool.and_eq_true _ _ ▸ (show (D.pl n y&&D.pls n ys)=true from h2):_/\_)
  cases ra with
  |cons r1 r2=>cases rb with
   |cons q1 q2=>
    obtain⟨l1,d1⟩:=yf _ _ h1.1;obtain⟨l2,d2⟩:=yf _ _ h2.1
    have k:=SeqAt.eqAt_reads (py x) (py y) A s _ _ _ _ r1 q1 l1 l2 (by
     have:min (py x).depth (py y).depth<=(py x).depth:=Nat.min_le_left _ _
     omega)
    rw[Vg _ _ _ _ h1.1 h2.1]at k;rw[D.QM]at hc;rw[Vj]at q;rw[List.zip_cons_cons];refine PySem.W.kat_cons (k prog w _ _ ?_)
    by_cases e:D.eq x y=true
    ·rw[if_pos e]at hc q
     rw[e];refine PySem.W.kat_yes (jt hu h1.2 h2.2 hc r2 q2 (λ_ hi=>by omega) ?_ q);rw[hf];simp
    ·rw[if_neg e]at hc q
     rw[show D.eq x y=false by simpa using e];refine PySem.W.kat_no ?_
     by_cases hbi:(b&&i==0)=true
     ·rw[hbi]
      rw[Bool.and_eq_true]at hbi;obtain⟨i1,i2⟩:=hb hbi.1 (by simpa using hbi.2) x (by simp) y (by simp);obtain⟨a,rfl⟩:=yO i1;obtain⟨c,rfl⟩:=yO i2
      cases r1 with
      |int _ t=>cases q1 with
       |int _ t'=>
        rw[D.kl]at q;exact oneLt_int q
     ·rw[show (b&&i==0)=false by simpa using hbi]
      exact PySem.W.kat_one _ _ (YD h1.1 h2.1 hc r1 q1 hu prog w _ _ q)
def kgr {h0:Heap}{us:List Value}{ds:List D}(r0:RdL h0 us ds)(r:RdL s.heap us ds)(hs:P.sortable ds=true)(hu:A.units+64 < cLine):TS.Cmp prog w A E s (Zq ds) (pairsOf us) (TS.uZ (YC h0) (pairsOf us).toList):=by
 have hnk:=Qi hs
 have hpl:∀d∈ds,∃n,d.pl n=true:=λd hd=>by
  unfold P.sortable at hs
  rcases (Bool.or_eq_true _ _).mp hs with q | q
  ·obtain⟨i,rfl⟩:=yO (List.all_eq_true.mp q d hd)
   exact⟨40,by simp⟩
  ·simp only[Bool.and_eq_true]at q
   rw[zj]at q;exact⟨40,List.all_eq_true.mp q.2.2.1 d hd⟩
 have key:∀u∈us,∃d as,d∈ds/\Reads s.heap u (py d) as/\keyOf h0 u=d:=λu hu=>by
  obtain⟨d,as,bs,hd,ra,rb⟩:=r0.khL r u hu;obtain⟨n,hn⟩:=hpl d hd;exact⟨d,bs,hd,rb,Vx ra (hnk d hd) (WE hn)⟩
 have wk:TS.Wk (YC h0) (pairsOf us).toList:=by
  have kn:∀x∈(pairsOf us).toList,(keyOf h0 x.1).nk=true:=λx hx=>by
   obtain⟨d,as,hd,_,e⟩:=key x.1 (TS.Wb hx).2;rw[e];exact hnk d hd
  exact⟨λx hx=>P.Qs (kn x hx),λx hx y hy z hz=>P.Wx (kn x hx) (kn y hy) (kn z hz),λx hx y hy z hz=>P.uK (kn x hx) (kn y hy) (kn z hz)⟩
 intro x y st Q hx hy hk q;rw[wk.rank hx hy]at q;obtain⟨dx,as,hdx,rx,ex⟩:=key x.1 (TS.Wb hx).2;obtain⟨dy,bs,hdy,ry,ey⟩:=key y.1 (TS.Wb hy).2;unfold YC at q;rw[ex,ey]at q;rw[lt'_eq];refine zad (wpS_get ?_);rw[hk];unfold Zq;unfold P.sortable at hs
 by_cases hi:ds.all D.isI=true
 ·rw[if_pos hi]
  obtain⟨i,rfl⟩:=yO (List.all_eq_true.mp hi dx hdx);obtain⟨j,rfl⟩:=yO (List.all_eq_true.mp hi dy hdy);obtain⟨x1,x2⟩:=x;obtain⟨y1,y2⟩:=y;dsimp only at rx ry
  cases rx with
  |int _ t=>cases ry with
   |int _ t'=>
    rw[keyLt'_oneType];rw[D.kl]at q;exact zad (wpS_lift (wpAny_attempt (oneLt_int ⟨rfl,zae q⟩)))
 ·rw[if_neg hi]
  rcases (Bool.or_eq_true _ _).mp hs with t | t
  ·exact absurd t hi
  simp only[Bool.and_eq_true]at t;have hc:D.cmp dx dy=true:=List.all_eq_true.mp (List.all_eq_true.mp t.2.2.2 dx hdx) dy hdy
  have pl:∀d∈ds,d.pl 40=true:=by
   have:=t.2.2.1;rw[zj]at this;exact List.all_eq_true.mp this
  have tu:∀d∈ds,∃z zs,d = .tup (z::zs):=λd hd=>by
   rcases (Bool.or_eq_true _ _).mp t.1 with a | a
   ·obtain⟨i,xs,rfl⟩:=WK (List.all_eq_true.mp a d hd)
    exact⟨_,_,rfl⟩
   ·obtain⟨i,xs,rfl⟩:=Yg (List.all_eq_true.mp a d hd)
    exact⟨_,_,rfl⟩
  obtain⟨z1,zs1,rfl⟩:=tu dx hdx;obtain⟨z2,zs2,rfl⟩:=tu dy hdy;have p1:=pl _ hdx;have p2:=pl _ hdy;obtain⟨x1,x2⟩:=x;obtain⟨y1,y2⟩:=y;dsimp only at rx ry
  cases rx with
  |tuple a1 a2 a3 a4=>cases ry with
   |tuple b1 b2 b3 b4=>
    refine zad (wpS_lift (wpAny_attempt (PySem.W.kat_lt a1 a3 b1 b3 ?_)));rw[D.cmp]at hc;rw[D.kl]at q;refine jt (n:=39) (by omega) p1 p2 hc a4 b4 (λhb _ u hu v hv=>?_) (by simp) ⟨rfl,zae q⟩;have d1:=List.all_eq_true.mp hb _ hdx;have d2:=List.all_eq_true.mp hb _ hdy;obtain⟨i,xs,e1⟩:=WK d1;obtain⟨j,ys,e2⟩:=WK d2;cases e1;cases e2
    cases hu;cases hv
    exact⟨rfl,rfl⟩
end
mutual
def drD:D->Nat
 |.tup xs=>Yt xs+1
 |_=>1
def Yt:List D->Nat
 | []=>0
 |x::xs=>drD x+Yt xs
end
def Wr {n:Nat}{d:D}(h:d.nk=true)(hp:d.pl n=true):(∃i,d = .int i)∨∃m xs,n=m+1/\d = .tup xs/\D.nks xs=true/\D.pls m xs=true:=by
 cases d with
 |int i=>exact .inl ⟨i,rfl⟩
 |tup xs=>
  cases n with
  |zero=>simp[D.pl]at hp
  |succ m=>exact .inr ⟨m,xs,rfl,rfl,P.V9 h,hp⟩
 |_=>simp[D.nk]at h
def Ue {n:Nat}{x:D}{xs:List D}(h:D.pls n (x::xs)=true):D.pl n x=true/\D.pls n xs=true:=(Bool.and_eq_true _ _ ▸ h:_/\_)
section
variable {prog:Program}{w:World}
def ka4:∀ (n:Nat) {d:D} {u:Value} {as:List Addr} {A:Around} {E:Value -> Shared -> Prop} {s:Shared} {Q:Int -> Shared -> Prop},d.nk = true -> d.pl n = true -> Reads s.heap u (py d) as -> A.units + n < cLine →
 Q (Zu d) { s with toks:=s.toks+drD d }->wpAny (model prog w) A (pyHash u) Q E s:=by
 intro n
 induction n with
 |zero=>
  intro d u as A E s Q hk hp r hu q
  rcases Wr hk hp with ⟨i,rfl⟩ | ⟨m,xs,e,_⟩
  ·cases r with
   |int _ t=>exact wpAny_pyHash_int q
  ·cases e
 |succ n ih=>
  intro d u as A E s Q hk hp r hu q
  rcases Wr hk hp with ⟨i,rfl⟩ | ⟨m,xs,e,rfl,hk,hp⟩
  ·cases r with
   |int _ t=>exact wpAny_pyHash_int q
  ·cases e
   cases r with
   | @tuple a o vs k _ _ o1 o2 o3 o4=>
    have all:=RdL.of o4;refine PySem.W.pyHash_slot ⟨_,o1,o2⟩ F.slot_tuple_hash F.entry_tuple_hash (F.args_tuple_hash_1 _) (beq_builtin_none _) (.inr (by omega)) ?_;refine zaa (m:=Builtin.Tuple.tupleItemsOf (.ref a)) (wpAny_tupleItemsOf o1 o3 (zaa ?_));rw[<- Array.forIn_toList]
    refine wpAny_forIn_list _ (λrest (b:Array Int) s'=>∃ds c,RdL s.heap rest ds/\D.nks ds=true/\D.pls n ds=true/\s'={ s with toks:=s.toks+c }/\b.toList++Vt ds=Vt xs/\c+Yt ds=Yt xs) _ ?_ ?_ _ _
     ⟨xs,0,all,hk,hp,rfl,by simp,by simp⟩
    ·rintro y rest b s' ⟨ds,c,hr,h1,h2,rfl,e1,e2⟩
     cases hr with
     | @cons _ _ d ds _ rd rr=>
      obtain⟨k1,k2⟩:=yr h1;obtain⟨p1,p2⟩:=Ue h2;refine zaa (ih k1 p1 rd (by rw[in1_units];omega) ?_)
      wp_walk
      refine⟨ds,c+drD d,rr,k2,p2,by simp[Nat.add_assoc],?_,?_⟩
      ·rw[<- e1];simp[Vt]
      ·rw[<- e2];simp[Yt,Nat.add_assoc]
    ·rintro b s' ⟨ds,c,hr,_,_,rfl,e1,e2⟩
     cases hr;have e1:b.toList=Vt xs:=by simpa [Vt] using e1
     have e2:c=Yt xs:=by simpa [Yt] using e2
     wp_walk
     rw[e1,e2];exact⟨_,_,rfl,by simpa [Zu,drD,Nat.add_assoc] using q⟩
def Uq:∀ (n m:Nat) {d:D} {u:Value} {as:List Addr} {A:Around} {E:Value -> Shared -> Prop} {s:Shared} {Q:Bool -> Shared -> Prop},n <= m -> d.nk = true -> d.pl n = true -> Reads s.heap u (py d) as -> Q true s →
 wpAny (model prog w) A (eqIsQuiet m u) Q E s:=by
 intro n
 induction n with
 |zero=>
  intro m d u as A E s Q hm hk hp r q
  rcases Wr hk hp with ⟨i,rfl⟩ | ⟨m,xs,e,_⟩
  ·cases r with
   |int _ t=>exact wpAny_of_eq (eqIsQuiet_byValue m rfl) q
  ·cases e
 |succ n ih=>
  intro m d u as A E s Q hm hk hp r q
  rcases Wr hk hp with ⟨i,rfl⟩ | ⟨m',xs,e,rfl,hk,hp⟩
  ·cases r with
   |int _ t=>exact wpAny_of_eq (eqIsQuiet_byValue m rfl) q
  ·cases e
   obtain⟨m,rfl⟩:∃k,m=k+1:=⟨m - 1,by omega⟩
   cases r with
   | @tuple a o vs k _ _ o1 o2 o3 o4=>
    have all:=RdL.of o4;have hT:s.TypeIs (.ref a) "tuple":=⟨_,o1,o2⟩;unfold eqIsQuiet;refine zaa (wpAny_specialOf hT F.slot_tuple_eq.lookup (zaa (m:=isInstance (.ref a) (.type "tuple")) (wpAny_isInstance hT isSubtype_tuple_tuple (zaa (m:=seqItems? (.ref a)) (wpAny_seqItems o1 o3 (zaa ?_))))));rw[Option.getD_some,<- Array.forIn_toList];refine wpAny_forIn_list _ (λrest b s'=>b.1=none/\s'=s/\∃ds,RdL s.heap rest ds/\D.nks ds=true/\D.pls n ds=true) _ ?_ ?_ _ _ ⟨rfl,rfl,xs,all,hk,hp⟩
    ·rintro y rest b s' ⟨hb,rfl,ds,hr,h1,h2⟩
     cases hr with
     | @cons _ _ d ds _ rd rr=>
      refine zaa (ih m (by omega) (yr h1).1 (Ue h2).1 rd ?_)
      wp_walk
      exact⟨rfl,rfl,ds,rr,(yr h1).2,(Ue h2).2⟩
    ·rintro⟨b1,b2⟩ s' ⟨hb,rfl,_⟩
     cases hb
     wp_walk
     exact q
end
mutual
/-- what is read stands,if the things it is read from do -/
def Zj {h h':Heap}(k:∀b o vs n,h.get? b=some o->o.data = .seq vs n->h'.get? b=some o):∀ {d:D} {u:Value} {as:List Addr},Reads h u (py d) as->Reads h' u (py d) as
 |.non,_,_,r=>by cases r;exact .none
 |.bl _,_,_,r=>by cases r;exact .bool _
 |.int _,_,_,r=>by cases r;exact .int _ _
 |.str _,_,_,r=>by cases r;exact .str _ _
 |.dic _ _,_,_,r=>by cases r;exact .none
 |.dil _ _,_,_,r=>by cases r;exact .none
 |.lst xs,_,_,r=>by
  cases r with
  |list a b c d=>exact .list (k _ _ _ _ a c) b c (zM k d)
 |.lsf xs,_,_,r=>by
  cases r with
  |list a b c d=>exact .list (k _ _ _ _ a c) b c (zM k d)
 |.tup xs,_,_,r=>by
  cases r with
  |tuple a b c d=>exact .tuple (k _ _ _ _ a c) b c (zM k d)
def zM {h h':Heap}(k:∀b o vs n,h.get? b=some o->o.data = .seq vs n->h'.get? b=some o):∀ {ds:List D} {us:List Value} {as:List Addr},ReadsAll h us (pys ds) as->ReadsAll h' us (pys ds) as
 | [],_,_,r=>by cases r;exact .nil
 |d::ds,_,_,r=>by
  cases r with
  |cons a b=>exact .cons (Zj k a) (zM k b)
end
instance decD:DecidableEq D:=λa b=>Classical.propDecidable (a=b)
def kbm {a b:D}(ha:a.nk=true)(hb:b.nk=true):D.eq a b=decide (a=b):=by
 by_cases e:a=b
 ·subst e;rw[P.eq_self ha];simp
 ·rw[P.keI ha hb e];simp[e]
def xq (prog:Program)(w:World):HeapKind prog w D:=by
 refine
 { is:=λh d a=>d.nk=true/\d.pl 7=true/\∃as,Reads h (.ref a) (py d) as
   hash:=Zu
   draws:=drD
   room:=λA=>A.units+8 < cLine
   inj:=λ{h a x y} ⟨k1,p1,as,r1⟩ ⟨k2,p2,bs,r2⟩=>?_
   keeps:=λ{h h' k a d o es ep} ⟨k1,p1,as,r1⟩ ho hd hs=>⟨k1,p1,as,Zj (λb o' vs n e1 e2=>?_) r1⟩
   pyHash:=λhu ⟨k1,p1,as,r1⟩ q=>ka4 7 k1 p1 r1 (by omega) q
   eqBool:=λ{A E s x y a b Q} hu ⟨k1,p1,as,r1⟩ ⟨k2,p2,bs,r2⟩ q=>?_
   quiet:=λ⟨k1,p1,as,r1⟩ q=>Uq 7 8 (by decide) k1 p1 r1 q }
 ·rw[<- Vx r1 k1 (WE p1),Vx r2 k2 (WE p2)]
 ·refine (hs.2 b λe=>?_).trans e1
  subst e;rw[ho]at e1;cases e1;rw[hd]at e2;cases e2
 ·refine SeqAt.eqAt_reads _ _ _ _ _ _ _ _ r1 r2 (WE p1) (WE p2) ?_ prog w E Q ?_
  ·have:=(yf _ _ p1).2
   have:min (py x).depth (py y).depth<=(py x).depth:=Nat.min_le_left _ _;omega
  ·rw[Vg _ _ _ _ p1 p2,kbm k1 k2]
   exact q
def toV (y:D×Addr×Value):D×Value×Value:=(y.1,.ref y.2.1,y.2.2)
def Jo {d:D}(h:d.tk=true):∃xs,d = .tup xs/\D.nks xs=true/\D.pls 6 xs=true:=by
 cases d with
 |tup xs=>simp only[D.tk,Bool.and_eq_true]at h;exact⟨xs,rfl,h.1,h.2⟩
 |_=>simp[D.tk]at h
def Xu {d:D}(h:d.tk=true):d.nk=true/\d.pl 7=true:=by
 obtain⟨xs,rfl,h1,h2⟩:=Jo h;exact⟨by simpa [D.nk] using h1,h2⟩
def ZP {k:D}(hk:k.nk=true):∀ {ks:List D},(∀x∈ks,x.nk=true)->D.mem k ks=decide (k∈ks)
 | [],_=>by simp[D.mem]
 |x::ks,h=>by
  rw[D.mem,ZP hk λy hy=>h y (zah _ hy),kbm (h x zaj) hk]
  by_cases e:x=k
  ·subst e;simp
  ·have e':¬ k=x:=λq=>e q.symm
   simp[e,e']
section
variable {X:Cx}{pins:List (Addr×Obj)}{σ:L2.St}{H:Hp}{s:Shared}{B:List Addr}
def Inv.big (I:L2.Inv X pins σ H s):sysModules < s.heap.objs.size:=by
 have h:mainGlobals < s.heap.objs.size:=(I.mod.glob.keeps I.bk).lt;exact Nat.lt_trans (by decide) h
def key_is (I:L2.Inv X pins σ H s){k:D}{v:V}{u:Value}(hk:k.tk=true)(r:wK X.K B H k v)(ru:RelV v u):∃a,u = .ref a/\v = .ref a/\(xq X.prog X.w).is s.heap k a:=by
 obtain⟨h1,h2⟩:=Xu hk;obtain⟨as,rd⟩:=reads I h2 r ru;obtain⟨xs,rfl,_⟩:=Jo hk;obtain⟨a,vs,rfl,_⟩:=r;obtain rfl:u=Value.ref a:=ru;exact⟨a,rfl,rfl,h1,h2,as,rd⟩
def WY (I:L2.Inv X pins σ H s):∀ {xs:List (D × Value × Value)} {ks:List D} {kv:List V},xs.map (·.1) = ks -> (∀ k ∈ ks,k.tk = true) -> Vals kv (xs.map (·.2.1)) -> kE X.K B H ks kv →
 ∃ys:List (D×Addr×Value),xs=ys.map toV/\(∀y∈ys,(xq X.prog X.w).is s.heap y.1 y.2.1)/\kv=ys.map λy=>V.ref y.2.1
 | [],ks,kv,e,_,r,_=>by
  cases r;exact⟨[],rfl,λy hy=>(by cases hy),rfl⟩
 |x::xs,ks,kv,e,hk,r,rr=>by
  subst e
  cases r with
  |cons r1 r2=>
   obtain⟨v,t,e,q1,q2⟩:=rr;cases e;obtain⟨a,e1,e2,is⟩:=key_is I (hk x.1 (by simp)) q1.top r1;obtain⟨ys,e3,h,e4⟩:=WY I rfl (λk hk'=>hk k (zah _ hk')) r2 q2;refine⟨(x.1,a,x.2.2)::ys,?_,λy hy=>?_,?_⟩
   ·rw[zat,<- e3]
    obtain⟨x1,x2,x3⟩:=x;simp only at e1;rw[e1];rfl
   ·rcases List.mem_cons.mp hy with rfl | hy
    ·exact is
    ·exact h y hy
   ·rw[zat,<- e4,e2]
def ZL {a:Addr}{ys:List (D×Addr×Value)}(hd:vc a (ys.map toV) s.heap)(his:∀y∈ys,(xq X.prog X.w).is s.heap y.1 y.2.1)(hn:(ys.map (·.1)).Nodup):s.heap.DictOfH (xq X.prog X.w) a ys:=by
 obtain⟨o,es,ep,h1,h2,h3,h4⟩:=hd;refine⟨o,es,ep,h1,h2,h3,?_,his,hn⟩;rw[h4,List.map_map];rfl
def Yz (ys:List (D×Addr×Value)):(ys.map toV).map (·.1)=ys.map (·.1):=by rw[List.map_map];rfl
def Yy (ys:List (D×Addr×Value)):(ys.map toV).map (·.2.2)=ys.map (·.2.2):=by rw[List.map_map];rfl
def uM (ys:List (D×Addr×Value)):(ys.map toV).map (·.2.1)=ys.map λy=>Value.ref y.2.1:=by rw[List.map_map];rfl
def W3 {ys:List (D×Addr×Value)}{k:D}:(atKey ys k).isSome=decide (k∈ys.map (·.1)):=by
 induction ys with
 |nil=>simp[atKey]
 |cons y ys ih=>
  by_cases e:y.1=k
  ·subst e;simp[atKey]
  ·have e':¬ k=y.1:=λq=>e q.symm
   have:atKey (y::ys) k=atKey ys k:=by simp[atKey,List.find?_cons,e]
   rw[this,ih];simp[e']
def ux {k:D} {v:Value} {dv:D} {wv:V} (hk:k.nk = true) (rv:RelV wv v) (rd:Rep X.K B H dv wv):∀ {ys:List (D × Addr × Value)} {vs:List D} {ws:List V},(∀ y ∈ ys,y.1.nk = true) -> k ∈ ys.map (·.1) -> (ys.map (·.1)).Nodup -> Vals ws (ys.map (·.2.2)) -> kE X.K B H vs ws →
 ∃ws',Vals ws' ((ys.map (putAt k v)).map (·.2.2))/\kE X.K B H (xu (ys.map (·.1)) vs k dv) ws'
 | [],_,_,_,hm,_,_,_=>by simp at hm
 |y::ys,vs,ws,hn,hm,nd,r,rr=>by
  rw[zat]at r hm nd;rw[List.nodup_cons]at nd
  cases r with
  | @cons w0 _ ws0 _ r1 r2=>
   cases vs with
   |nil=>exact absurd rr (by simp[kE])
   |cons v0 vs=>
    obtain⟨a,b,e,q1,q2⟩:=rr;cases e
    by_cases e:y.1=k
    ·subst e
     refine⟨wv::ws0,?_,?_⟩
     ·rw[zat,map_putAt_of_not_mem ys y.1 v nd.1,zat]
      exact .cons (by simpa [putAt] using rv) r2
     ·show kE X.K B H (xu (y.1::ys.map (·.1)) (v0::vs) y.1 dv) _
      rw[xu,if_pos (P.eq_self hk)];exact⟨wv,ws0,rfl,rd,q2⟩
    · have hm':k ∈ ys.map (·.1):=by
        rcases List.mem_cons.mp hm with q | q
        ·exact absurd q.symm e
        ·exact q
      obtain⟨ws',r3,r4⟩:=ux hk rv rd (λy hy=>hn y (zah _ hy)) hm' nd.2 r2 q2;refine⟨w0::ws',?_,?_⟩
      ·rw[zat,zat]
       exact .cons (by simpa [putAt,e] using r1) r3
      ·show kE X.K B H (xu (y.1::ys.map (·.1)) (v0::vs) k dv) _
       rw[xu,if_neg (by rw[P.keI (hn y zaj) hk e];simp)];exact⟨w0,ws',rfl,q1,r4⟩
def jC {k dv:D}:∀ {ks vs:List D},vs.length=ks.length->D.mem k ks=false->xu ks vs k dv=vs++[dv]
 | [],[],_,_=>rfl
 | [],_::_,h,_=>by simp at h
 |_::_,[],h,_=>by simp at h
 |k'::ks,v'::vs,h,hm=>by
  rw[D.mem,Bool.or_eq_false_iff]at hm;rw[xu,if_neg (by rw[hm.1];simp),jC (by simpa using h) hm.2];rfl
def kdQ {A:Around}{E:zEx}{Q:Unit->Shared->Prop}{p:Addr}{xs:List (D×Value×Value)}{ks vs:List D}{kv ws:List V}{k dv:D}{vk vv:V}{uk uv:Value}(hu:A.units+9 < cLine)(I:L2.Inv X pins σ H s)
 (e:H p=some (.ext (vc p xs))) (hd:DOk p xs ks) (rk:Vals kv (xs.map (·.2.1))) (rw':Vals ws (xs.map (·.2.2))) (r1:kE X.K B H ks kv) (r2:kE X.K B H vs ws) (htk:k.tk=true) (hl:ks.length < sizeLine)
 (q1:Rep X.K B H k vk) (e1:RelV vk uk) (q2:Rep X.K B H dv vv) (e2:RelV vv uv)
 (h:∀s' xs' kv' ws',L2.Inv X pins σ (upd H p (.ext (vc p xs'))) s'->DOk p xs' (xy ks k)->Vals kv' (xs'.map (·.2.1))->Vals ws' (xs'.map (·.2.2))->kE X.K B H (xy ks k) kv'->kE X.K B H (xu ks vs k dv) ws'->Q () s') :
 wpAny (model X.prog X.w) A (setItem (.ref p) uk uv) Q E s:=by
 obtain⟨ys,rfl,his,ekv⟩:=WY I hd.keys hd.ok rk r1;obtain⟨a,rfl,ea,is⟩:=key_is I htk q1.top e1;obtain⟨hdi,_,_⟩:=I.hok _ _ e;have ek:ys.map (·.1)=ks:=by rw[<- Yz];exact hd.keys
 have hn:(ys.map (·.1)).Nodup:=by rw[ek];exact hd.nd
 have hz:ys.length<=sizeLine:=by have:=hd.len;rwa [zai]at this
 have hks:ks.length=ys.length:=by rw[<- ek,zai]
 have hnk:∀x∈ks,x.nk=true:=λx hx=>(Xu (hd.ok x hx)).1
 have hmem:D.mem k ks=(atKey ys k).isSome:=by rw[ZP (Xu htk).1 hnk,W3,ek]
 refine wpAny_setItem_heap (hsz:=hz) (knd:=xq X.prog X.w) (show A.units+1+8 < cLine by omega) is (ZL hdi his hn) λh' dd' hs=>?_
 obtain⟨o',es',ep',g1,g2,g3,g4,_,g6⟩:=dd';have gi:vc p ((storedH ys k a uv).map toV) h':=⟨o',es',ep',g1,g2,g3,by rw[g4,List.map_map];rfl⟩
 have lenK:(storedH ys k a uv).length<=sizeLine:=by
  unfold storedH
  split <;> simp <;> omega
 have ekS:(storedH ys k a uv).map (·.1)=xy ks k:=by
  unfold storedH xy;rw[hmem];split
  ·rw[keys_map_putAt,ek]
  ·rw[List.map_append,ek];rfl
 have inv:L2.Inv X pins σ (upd H p (.ext (vc p ((storedH ys k a uv).map toV)))) { s with heap:=h',toks:=s.toks+(xq X.prog X.w).draws k }:=by
  refine I.write (x:=p) (e:=p) (by rw[e];exact True.intro) (.inl rfl) (λb q hb z=>(hs.2 b hb).trans z) ⟨o',g1⟩ ⟨gi,⟨o',g1⟩,λh1 h2 hφ hk=>?_⟩;obtain⟨o,es,ep,z1,z2⟩:=hφ;exact⟨o,es,ep,hk _ z1,z2⟩
 have dok:DOk p ((storedH ys k a uv).map toV) (xy ks k):=by
  refine⟨hd.sys,by rw[zai];exact lenK,by rw[Yz];exact ekS,by rw[<- ekS];exact g6,λx hx=>?_⟩;unfold xy at hx;split at hx
  ·exact hd.ok x hx
  ·rcases List.mem_append.mp hx with q | q
   ·exact hd.ok x q
   ·rw[List.mem_singleton.mp q];exact htk
 rw[Yy]at rw'
 have refsV:∀zs:List (D×Addr×Value),Vals (zs.map λy=>V.ref y.2.1) (zs.map λy=>Value.ref y.2.1):=λzs=>by
  induction zs with
  |nil=>exact .nil
  |cons z zs ih=>exact .cons rfl ih
 by_cases hm:(atKey ys k).isSome=true
 ·have eS:storedH ys k a uv=ys.map (putAt k uv):=by unfold storedH;rw[if_pos hm]
  have eK:xy ks k=ks:=by unfold xy;rw[hmem,if_pos hm]
  obtain⟨ws',t1,t2⟩:=ux (Xu htk).1 e2 q2 (ys:=ys) (λy hy=>hnk y.1 (by rw[<- ek];exact List.mem_map_of_mem hy)) (by rw[W3]at hm;exact of_decide_eq_true hm) hn rw' r2;rw[ek]at t2
  have er:(storedH ys k a uv).map (λy=>y.2.1)=ys.map λy=>y.2.1:=by
   rw[eS,List.map_map];refine List.map_congr_left λy _=>?_
   show (putAt k uv y).2.1=y.2.1;unfold putAt
   split <;> rfl
  refine h _ ((storedH ys k a uv).map toV) kv ws' inv dok ?_ (by rw[Yy,eS];exact t1) (by rw[eK];exact r1) t2;rw[uM,ekv];have:=refsV ys
  have e3:((storedH ys k a uv).map λy=>Value.ref y.2.1)=ys.map λy=>Value.ref y.2.1:=by
   have:=congrArg (List.map Value.ref) er
   rwa [List.map_map,List.map_map]at this
  rw[e3];exact this
 ·have hm':(atKey ys k).isSome=false:=by simpa using hm
  have eS:storedH ys k a uv=ys++[(k,a,uv)]:=by unfold storedH;rw[if_neg hm]
  have eK:xy ks k=ks++[k]:=by unfold xy;rw[hmem,hm'];simp
  have eV:xu ks vs k dv=vs++[dv]:=jC (by
   have a1:=r2.length;have a2:=rw'.length;rw[zai]at a2
   omega) (by rw[hmem,hm'])
  refine h _ ((storedH ys k a uv).map toV) (kv++[vk]) (ws++[vv]) inv dok ?_ ?_ ?_ ?_
  ·rw[uM,eS,List.map_append,ekv,ea];exact (refsV ys).append (.cons rfl .nil)
  ·rw[Yy,eS,List.map_append];exact rw'.append (.cons e2 .nil)
  ·rw[eK];exact kE.append r1 ⟨vk,[],rfl,q1,rfl⟩
  ·rw[eV];exact kE.append r2 ⟨vv,[],rfl,q2,rfl⟩
end
def WO (h:Heap)(d:Addr)(es:Array DictEntry)(ep:Nat):Prop:=∃o,h.get? d=some o/\o.ExactDict/\o.data = .dict es ep
section
variable {prog:Program}{w:World}{A:Around}{E:zEx}{s:Shared}{it d:Addr}{es:Array DictEntry}{ep i:Nat}
def U3 {R:Option Value -> Shared -> Prop} (a:s.heap.IsKeyIter it d i es.size ep) (b:WO s.heap d es ep)
 (go:∀e,es[i]?=some e->∀h',h'.IsKeyIter it d (i+1) es.size ep->Heap.SameBut it s.heap h'->R (some e.key) { s with heap:=h' })
 (stop:es[i]?=none->A.handled=none/\∀h',Heap.ExtBut it s.heap h'->R none { s with heap:=h' }):wpAny (model prog w) A (pyNext (.ref it)) R E s:=by
 obtain⟨o1,g1,c1,d1⟩:=id a;obtain⟨o2,g2,x2,d2⟩:=b
 wp_delta
 refine zaa (wpAny_attempt (wpAny_callSpecial?_slot (name:="__next__") a.typeIs F.slot_dict_keyiterator_next (wpAny_call_entry F.slot_dict_keyiterator_next a.typeIs F.entry_dict_keyiterator_next ?_ (F.args_dict_keyiterator_next_1 _))))
 wp_walk using wpAny_typeNameOfWhole_keyiter a.typeIs,wpAny_typeNameOf_keyiter a.typeIs,wpAny_fieldsOf g1 d1,wpAny_dictEntries g2 d2,wpAny_dictEpoch g2 d2,wpAny_isOneOf_keyiter a.typeIs
 rw[if_neg (show ¬ (i:Int) < 0 by omega),Int.toNat_natCast]
 cases q:es[i]? with
 |some e=>
  refine zaa (thn (Q:=λb s'=>b=0/\s'=s) ?_ λb s' z=>?_)
  ·wp_walk using wpAny_typeNameOfWhole_keyiter a.typeIs,wpAny_typeNameOf_keyiter a.typeIs
   exact⟨rfl,rfl⟩
  obtain⟨rfl,rfl⟩:=z;refine zaa (wpAny_isOneOf_keyiter a.typeIs (zaa (m:=setField (.ref it) 1 (rawInt ((i:Int)+1))) (wpAny_setField g1 d1 (by simp) ?_)))
  have n:(s'.heap.update it (Obj.mapFields λx=>x.setIfInBounds 1 (rawInt ((i:Int)+1)))).IsKeyIter it d (i+1) es.size ep:=by
   refine⟨_,Heap.get?_update_self _ g1 (Obj.isFreed_of_fields (Obj.data_mapFields d1 _)),(Obj.cls_mapFields ..).trans c1,?_⟩;rw[Obj.data_mapFields d1];rfl
  have z:=go e q _ n (Heap.SameBut.update ..);generalize s'.heap.update it (Obj.mapFields λx=>x.setIfInBounds 1 (rawInt ((i:Int)+1)))=h' at n z ⊢
  wp_walk using wpAny_isOneOf_keyiter (s:={ s' with heap:=h' }) n.typeIs
  exact⟨_,rfl,zab z⟩
 |none=>
  obtain⟨hh,hE⟩:=stop q;have hh':A.in1.handled=none:=hh;have hst:=isSubtype_stop
  wp_walk using wpAny_typeNameOfWhole_keyiter a.typeIs,wpAny_typeNameOf_keyiter a.typeIs,wpAny_isOneOf_keyiter a.typeIs,wpAny_setField g1 d1 (by simp <;> decide),wpAny_raiseNew_none hh'
  refine hE _ λb o hb e=>?_
  exact zac _ (zac _ (((Heap.SameBut.update ..).2 b hb).trans e))
def WO.typeIs (b:WO s.heap d es ep):s.TypeIs (.ref d) "dict":=let ⟨o,h,x,_⟩:=b;⟨o,h,x.1⟩
def WO.mono {h h':Heap}(b:WO h d es ep)(k:∀o,h.get? d=some o->h'.get? d=some o):WO h' d es ep:=let ⟨o,e,r⟩:=b;⟨o,k o e,r⟩
def keH (d:Addr)(n ep:Nat):Obj:={ cls:=.type "dict_keyiterator",data:=.fields #[.ref d,.int 0 0,.int n 0,.int ep 0] }
def kdg {Q:zEx}(hd:(d==sysModules)=false)(b:WO s.heap d es ep)(q:Q (.ref s.heap.objs.size) { s with heap:=s.heap.push (keH d es.size ep) }):wpAny (model prog w) A (pyIter (.ref d)) Q E s:=by
 have hT:=b.typeIs;obtain⟨o,g,x,dt⟩:=b;refine wpAny_pyIter_slot hT F.slot_dict_iter (wpAny_call_entry F.slot_dict_iter hT F.entry_dict_iter ?_ (F.args_dict_iter_1 _));refine zaa (thn (Q:=λv s'=>v = .ref d/\s'=s) ?_ λv s' z=>?_)
 ·wp_walk using wpAny_notOrdered_dict hT
  exact⟨rfl,rfl⟩
 obtain⟨rfl,rfl⟩:=z
 wp_walk using wpAny_dictEntries g dt,wpAny_dictEpoch g dt
 exact⟨_,rfl,"dict_keyiterator",_,⟨_,zag _ rfl,rfl⟩,F.slot_dict_keyiterator_next.lookup,q⟩
def kd7 (hh:A.handled=none)(hn:d≠it):Walks prog w A it [it,d] [it] es.size (λi v=>∃e,es[i]?=some e/\v=e.key) (λi h=>h.IsKeyIter it d i es.size ep/\WO h d es ep):=by
 refine⟨λb hb=>by simp_all,λi h h' ⟨⟨o,e,r⟩,b⟩ k=>⟨⟨o,k it (by simp) o e,r⟩,b.mono λo e=>k d (by simp) o e⟩,λi s Q E hi ⟨a,b⟩ q=>?_,λs Q E ⟨a,b⟩ q=>?_,λi s Q E ⟨a,b⟩ q=>wpAny_pyIter_keyiter a q⟩
 ·refine U3 a b (λe he h' a' k=>q e.key h' s.toks ⟨e,he,rfl⟩ ⟨a',b.mono λo z=>(k.2 d hn).trans z⟩ λc o hc z=>(k.2 c λy=>hc (by simp[y])).trans z) λz=>absurd z (by simp[hi])
 ·exact U3 a b (λe he=>absurd he (by simp)) λ_=>⟨hh,λh' k=>q h' s.toks λc o hc z=>k c o (λy=>hc (by simp[y])) z⟩
def kft (hd:(d==sysModules)=false):PySem.W.KdlSrc prog w "dict" d d es.size (λi v=>∃e,es[i]?=some e/\v=e.key) (λh=>WO h d es ep):=by
 refine⟨λs b=>b.typeIs,λh b=>?_,λh h' b k=>b.mono λo e=>k d (.inl rfl) o e,by decide,by decide,λA E s Q b q=>PySem.W.kdl_hint_dict b.typeIs q,λA s hh b=>?_⟩
 ·obtain⟨o,g,_⟩:=b;exact⟨zaf g,zaf g⟩
 ·have hl:d < s.heap.objs.size:=let ⟨o,g,_⟩:=b;zaf g
  exact⟨keH d es.size ep,_,λE Q q=>kdg hd b q,kd7 hh (zas hl),⟨_,zag _ rfl,rfl,rfl⟩,b.mono λo e=>zac _ e⟩
end
def kcl {α β:Type}{f:α->β}{l m:List β}(h:l.Perm m):∀ {zs:List α},zs.map f=m->∃ys:List α,ys.Perm zs/\ys.map f=l:=by
 induction h with
 |nil=>
  intro zs e;exact⟨zs,.refl _,e⟩
 |cons x _ ih=>
  intro zs e
  cases zs with
  |nil=>cases e
  |cons z zs=>
   injection e with e1 e2
   obtain⟨ys,p,q⟩:=ih e2;exact⟨z::ys,p.cons z,by rw[zat,q,e1]⟩
 |swap x y l=>
  intro zs e
  match zs,e with
  |a::b::zs,e=>
   injection e with e1 e2
   injection e2 with e2 e3
   exact⟨b::a::zs,.swap a b zs,by simp[e1,e2,e3]⟩
  | [_],e=>simp at e
  | [],e=>simp at e
 |trans _ _ ih1 ih2=>
  intro zs e;obtain⟨ys,p,q⟩:=ih2 e;obtain⟨xs,p',q'⟩:=ih1 q;exact⟨xs,p'.trans p,q'⟩
structure Tri (K:zFr)(B:List Addr)(H:Hp)(h:Heap)(z:D×V×Value):Prop where
 rep:Rep K B H z.1 z.2.1
 rel:RelV z.2.1 z.2.2
 rd:∃as,Reads h z.2.2 (py z.1) as
def kcB {K:zFr}{B:List Addr}{H:Hp}{h:Heap}:∀ {ds:List D} {vv:List V} {us:List Value},kE K B H ds vv->Vals vv us->RdL h us ds->∃zs:List (D×V×Value),zs.map (·.1)=ds/\zs.map (·.2.2)=us/\∀z∈zs,Tri K B H h z
 | [],_,_,r,v,l=>by
  rw[show _=[] from r]at v;cases v;exact⟨[],rfl,rfl,λz hz=>(by cases hz)⟩
 |d::ds,_,_,r,v,l=>by
  obtain⟨v0,t,rfl,q,r⟩:=r
  cases v with
  |cons v1 v2=>
   cases l with
   |cons l1 l2=>
    obtain⟨zs,e1,e2,h⟩:=kcB r v2 l2;refine⟨(d,v0,_)::zs,by rw[zat,e1],by rw[zat,e2],λz hz=>?_⟩
    rcases List.mem_cons.mp hz with e | hz
    ·rw[e];exact⟨q,v1,_,l1⟩
    ·exact h z hz
def kb9 {K:zFr}{B:List Addr}{H:Hp}{h:Heap}:∀ {zs:List (D×V×Value)},(∀z∈zs,Tri K B H h z)->kE K B H (zs.map (·.1)) (zs.map (·.2.1))/\Vals (zs.map (·.2.1)) (zs.map (·.2.2))
 | [],_=>⟨rfl,.nil⟩
 |z::zs,h=>by
  obtain⟨a,b⟩:=kb9 λy hy=>h y (zah _ hy)
  have c:=h z zaj;exact⟨⟨_,_,rfl,c.rep,a⟩,.cons c.rel b⟩
def Vm {ds:List D}(h:P.sortable ds=true):D.pls 40 ds=true:=by
 unfold P.sortable at h
 rcases (Bool.or_eq_true _ _).mp h with q | q
 ·rw[zj,List.all_eq_true];intro d hd;obtain⟨i,rfl⟩:=yO (List.all_eq_true.mp q d hd);simp
 ·simp only[Bool.and_eq_true]at q;exact q.2.2.1
def kiu {h0:Heap}{us:List Value}{ds:List D}(r:RdL h0 us ds)(hs:P.sortable ds=true):TS.Wk (YC h0) (pairsOf us).toList:=by
 have kn:∀x∈(pairsOf us).toList,(keyOf h0 x.1).nk=true:=λx hx=>by
  obtain⟨d,as,hd,rd⟩:=r.mem x.1 (TS.Wb hx).2;have pl:=Vm hs;rw[zj]at pl;have hk:=Qi hs d hd;rw[Vx rd hk (WE (List.all_eq_true.mp pl d hd))];exact hk
 exact⟨λx hx=>P.Qs (kn x hx),λx hx y hy z hz=>P.Wx (kn x hx) (kn y hy) (kn z hz),λx hx y hy z hz=>P.uK (kn x hx) (kn y hy) (kn z hz)⟩
def kbU {K:zFr}{B:List Addr}{H:Hp}{h0:Heap}{ds:List D}{vv:List V}{us:List Value}{out:Array Value}(r:kE K B H ds vv)(v:Vals vv us)(l:RdL h0 us ds)(hs:P.sortable ds=true)
 (t:TS.Told (TS.uZ (YC h0) (pairsOf us).toList) us out):∃ws,kE K B H (xx ds) ws/\Vals ws out.toList:=by
 have wk:=kiu l hs;obtain⟨zs,e1,e2,hz⟩:=kcB r v l;obtain⟨ys,p,e3⟩:=kcl t.perm (f:=λz:D×V×Value=>z.2.2) e2;have hy:∀z∈ys,Tri K B H h0 z:=λz m=>hz z (p.mem_iff.mp m)
 have pl:=Vm hs;rw[zj]at pl
 have key:∀z∈ys,z.1∈ds/\keyOf h0 z.2.2=z.1:=λz m=>by
  obtain⟨as,rd⟩:=(hy z m).rd;have hd:z.1∈ds:=by rw[<- e1];exact List.mem_map_of_mem (p.mem_iff.mp m)
  exact⟨hd,Vx rd (Qi hs _ hd) (WE (List.all_eq_true.mp pl _ hd))⟩
 have hmem:∀z∈ys,(z.2.2,z.2.2)∈(pairsOf us).toList:=λz m=>by
  have:z.2.2∈us:=by rw[<- e2];exact List.mem_map_of_mem (p.mem_iff.mp m)
  rw[pairsOf_toList];obtain⟨i,hi,e⟩:=List.getElem_of_mem this;refine List.mem_iff_getElem?.mpr ⟨i,?_⟩;simp[List.getElem?_zip_eq_some,hi,e]
 have es:xx ds=ys.map (·.1):=by
  refine P.kde (Qi hs) (by rw[<- e1];exact p.map _) ?_;have sr:=t.srt;rw[<- e3,List.pairwise_map]at sr;unfold P.WG;rw[List.pairwise_map];refine sr.imp_of_mem λ{a b} ma mb hab=>?_
  have:=wk.rank (hmem b mb) (hmem a ma);rw[decide_eq_false (by omega)]at this;unfold YC at this;rw[(key a ma).2,(key b mb).2]at this;exact this.symm
 obtain⟨a,b⟩:=kb9 hy;exact⟨_,by rw[es];exact a,by rw[<- e3];exact b⟩
section
variable {X:Cx}{pins:List (Addr×Obj)}{σ:L2.St}{H:Hp}{s:Shared}{B:List Addr}{Q:VK}
def Inv.dr {X:Cx}{pins:List (Addr×Obj)}{σ:L2.St}{H:Hp}{s:Shared}(I:L2.Inv X pins σ H s)(d:Drawn):L2.Inv X pins σ H { s with drawn:=d }:=⟨I.ok,I.os,I.bare,I.base,I.loc,I.cell,I.free,I.freeC,I.pin,I.hok,I.len⟩
end
section
variable {X:Cx}{own:List Bool}{A:List Addr}{E:Nat->Hp->Prop}{H₀:Hp}{pos:Pos}
variable {ek ev:Expr}{fk fv:P.FE}{x:Str}{i:Nat}{p1 p2:Pos}
def kfT (hu:X.A.units+9 < cLine)(hk:Snd X own A E false ek fk)(hv':Snd X own A E false ev fv)(ho:own[i]?=some true:=by rfl)(hN:X.N[i]?=some x:=by rfl)
 (hv:Vis X.env.scope x:=by first | exact Or.inl rfl | exact Or.inr (Or.inl rfl) | exact Or.inr (Or.inr rfl)) (hd:(x==("__debug__":Str))=false:=by decide)
 (hcd:(x==("__classdict__":Str))=false:=by decide) (hsw:swapsWith ev (some (.Subscript (.Name x p1) ek p2)) pos.line X.env=pure false:=by rfl) :
 yC X own A E H₀ (.Assign [.Subscript (.Name x p1) ek p2] ev pos) (jd i fk fv):=by
 intro pins s σ H DD I ⟨B,env,ok,st,h⟩;unfold jd at h;split at h
 case h_2=>exact h.elim
 rename_i ks vs q
 refine wpAny_Assign_Subscript (thn (hv' pins s σ H (λv H1=>∃d,kB H H1/\kY X.K own A B env σ H1/\StS A H₀ B H1/\Rep X.K B H1 d v/\Po X.K own A E H₀ B H1
  (fk env>>=λk=>if (k.tk&&decide (ks.length < kP))=true then Rs.ok (.next (env.set i (some (.dic (xy ks k) (xu ks vs k d))))) else .stuck) DD) I
  (Kd ok st h λd v H1 e1 s1 ok1 st1 r1 h1=>⟨d,s1,ok1,st1,r1,h1⟩)) λuv s1 y1=>?_) hsw
 obtain⟨v1,H1,I1,rv1,dv,sm1,ok1,st1,r1,h1⟩:=y1;obtain⟨p,hp,hb,hn,rO⟩:=ok1.owd i _ q ho;refine thn (xN hN hv hd hcd pins s1 σ H1 (λv H2=>v = .ref p/\H2=H1) I1 ⟨_,hp,rfl,rfl⟩) λuo s2 y2=>?_
 obtain⟨v2,H2,I2,rv2,e2,e2'⟩:=y2;subst e2 e2';cases rv2
 refine thn (hk pins s2 σ _ (λv H3=>∃k,kB H2 H3/\kY X.K own A B env σ H3/\StS A H₀ B H3/\Rep X.K B H3 k v/\Po X.K own A E H₀ B H3
  (if (k.tk&&decide (ks.length < kP))=true then Rs.ok (.next (env.set i (some (.dic (xy ks k) (xu ks vs k dv))))) else .stuck) DD) I2
  (Kd ok1 st1 h1 λd v H1 e1 s1 ok1 st1 r1 h1=>⟨d,s1,ok1,st1,r1,h1⟩)) λuk s3 y3=>?_
 obtain⟨v3,H3,I3,rv3,k,sm3,ok3,st3,r3,h3⟩:=y3;split at h3
 case isFalse=>exact h3.elim
 rename_i hc;rw[Bool.and_eq_true,decide_eq_true_eq]at hc;obtain⟨xs,kv,ws,e,dk,a1,a2,a3,a4⟩:=yP.same sm3 rO;refine kdQ hu I3 e dk a1 a2 a3 a4 hc.1 (by rw[szL];exact hc.2) r3 rv3 (Rep.kp (Kp.of_same sm3) r1) rv1 λs' xs' kv' ws' I' dk' b1 b2 b3 b4=>?_
 have kp:Kp B H3 (upd H3 p (.ext (vc p xs'))):=Kp.chg hb (ok3.bt p hb);have ok4:=ok3.kho (u:=.ext (vc p xs')) (dn:=.dic (xy ks k) (xu ks vs k dv)) ho q hp hb hn ⟨xs',kv',ws',k9,dk',b1,b2,kE.kp kp b3,kE.kp kp b4⟩;exact⟨σ,_,I',h3 B σ _ ok4 (st3.chg hb hn) ⟨kp,λ_ z=>.inl z⟩⟩
def Uo {prog:Program}{w:World}{A:Around}{E:zEx}{s:Shared}{d a:Addr}{k:D}{xs:List (D×Addr×Value)}{Q:Bool->Shared->Prop}(hu:A.units+9 < cLine)(hkey:(xq prog w).is s.heap k a)(hd:(d==sysModules)=false)
 (hm:s.heap.DictOfH (xq prog w) d xs) (h:Q (atKey xs k).isSome { s with toks:=s.toks+drD k }):wpAny (model prog w) A (contains (.ref d) (.ref a)) Q E s:=λΓ p hΓ=>by
 have z:=wpAny_in_heap (E:=E) (knd:=xq prog w) (Q:=λv s'=>∃b,v = .bool b/\Q b s') (show A.units+1+8 < cLine by omega) hkey hd hm ⟨_,rfl,h⟩ Γ p hΓ
 change Sem.wp _ Γ (contains (.ref d) (.ref a)>>=λb=>(pure (Value.bool b):Sem Value)) _ _ p s at z
 rw[Sem.wp_bind']at z;refine Sem.wp_mono _ Γ _ (λb p1 s1 h1=>?_) (λ_ _ _ h'=>h') _ _ z;rw[Sem.wp_pure']at h1;obtain⟨c,e,q⟩:=h1;cases e;exact q
def kkG:P.O2
 |x,.dic ks _=>P.kiZ x ks
 |_,_=>.stuck
def Jy:P.O2
 |x,.dic ks _=>WQ x ks
 |_,_=>.stuck
def kfV {pins:List (Addr×Obj)}{σ:L2.St}{H:Hp}{s:Shared}{B:List Addr}{x y:V}{v u:Value}{dx:D}{ks vs:List D}{Q:Bool->Shared->Prop}{E':zEx}(hu:X.A.units+9 < cLine)(I:L2.Inv X pins σ H s)(rx:RelV x v)(ry:RelV y u)
 (r1:wK X.K B H dx x) (r2:wK X.K B H (.dic ks vs) y) (hk:dx.tk=true) (q:∀s',L2.Inv X pins σ H s'->Q (D.mem dx ks) s'):wpAny (model X.prog X.w) X.A (contains u v) Q E' s:=by
 obtain⟨p,xs,kv,ws,rfl,e,dk,a1,a2,a3,a4⟩:=r2;cases ry;obtain⟨ys,rfl,his,ekv⟩:=WY I dk.keys dk.ok a1 a3;obtain⟨a,rfl,ea,is⟩:=key_is I hk r1 rx;obtain⟨hdi,_,_⟩:=I.hok _ _ e;have ek:ys.map (·.1)=ks:=by rw[<- Yz];exact dk.keys
 have hnk:∀x∈ks,x.nk=true:=λx hx=>(Xu (dk.ok x hx)).1
 have hmem:D.mem dx ks=(atKey ys dx).isSome:=by rw[ZP (Xu hk).1 hnk,W3,ek]
 refine Uo hu is dk.sys (ZL hdi his (by rw[ek];exact dk.nd)) ?_;rw[<- hmem];exact q _ (I.kept (t':=s.toks+drD dx) λb o z=>z)
def kdm (hu:X.A.units+9 < cLine):OpS X (compareOp .NotIn) Jy:=by
 refine⟨λx y c h=>?_,λpins s σ H x y v u Q I rx ry ⟨B,dx,dy,d,r1,r2,bt,hg,q⟩=>?_⟩
 ·cases y with
  |dic ks vs=>
   have h:WQ x ks = .exc c:=h;unfold WQ at h
   by_cases hk:x.tk=true
   ·rw[if_pos hk]at h;cases h
   ·rw[if_neg hk]at h;cases h
  |_=>cases h
 ·cases dy with
  |dic ks vs=>
   have hg:WQ dx ks = .ok d:=hg;unfold WQ at hg;split at hg
   ·rename_i hk
    cases hg;refine zaa (kfV hu I rx ry r1 r2 hk λs' I'=>zab ⟨.bl _,H,I',rfl,q _ H (kB.refl _) rfl⟩)
   ·cases hg
  |_=>cases hg
def kcW:Boo Jy:=λx y d h=>by
 cases y with
 |dic ks vs=>
  have h:WQ x ks = .ok d:=h;unfold WQ at h
  split at h <;> cases h
  exact⟨_,rfl⟩
 |_=>cases h
end
def _root_.L2.qU.u66 {k:Nat}{A:Around}(r:qU k A):A.units+66 < cLine:=by have:=r.un;omega
def _root_.L2.qU.u9 {k:Nat}{A:Around}(r:qU k A):A.units+9 < cLine:=by have:=r.un;omega
def qs.nox {X:Cx}(h:qs X):qs X.nox:=h
structure Fn1 (K:zFr)(mg:Str->Option Value)(x:Str)(st:Stmt)(ps:List Str)(a:Addr)(fd:FuncData):Prop where
 F:Fun K x x st a fd
 m:mg x=some (.ref a)
 b:Binds K fd ps []
section
variable {PP:Program}{w:World}{K:zFr}{mg:Str->Option Value}{base:Heap}{CX:CXT}{cls:Nat->Value}
def kfn {X:Cx}{E:XK}:Passes CX0 X E:=λ_ _ _ _ _ _ _ h=>h.elim
def v7 {N:Nat}(f:P.FS){n:Nat}(ds:List D)(_:ds.length=n):P.fnX N f ds = .stuck∨P.fnOf N (λenv=>(f env).nx) ds=P.fnX N f ds:=.inr (P.khK N f ds)
end
end L3
namespace L3
open PySem PySem.Spec PyProof.Rows L2
def jq {K:zFr}{B:List Addr}{H:Hp}:∀ns:List Int,kE K B H (ns.map .int) (ns.map V.int)
 | []=>rfl
 |n::ns=>⟨.int n,_,rfl,rfl,jq ns⟩
def ke2 {K:zFr}{cls:Nat->Value}{m:P.Fn}{H:Hp}{a:Addr}{ns:List Int}(hm:m [.lsf (ns.map .int)] = .ok (.bl true))(hO:kaQ H)(hS:SqL K H a (ns.map V.int)):spP K cls 1 m [.ref a] H (λv _=>v = .bl true) λ_ _ _=>False:=by
 refine⟨rfl,[],[.lsf (ns.map .int)],⟨_,[],rfl,⟨a,ns.map V.int,rfl,?_,?_⟩,rfl⟩,λb hb=>(by cases hb),?_⟩
 ·rcases hS with (h | ⟨o,h⟩) | h
  ·rcases hO a with z | ⟨o,xs,z⟩
   ·rw[z]at h;cases h
   ·rw[z]at h;cases h
  ·exact .inl ⟨o,h⟩
  ·exact .inr h
 ·exact jq ns
 ·rw[hm];exact λv H' _ r=>r
end L3
namespace L3
open PySem PySem.Spec PyProof.Rows L2
open P (D Rs Out)
section
variable {X:Cx}{own:List Bool}{A:List Addr}{E:Nat->Hp->Prop}{H₀:Hp}{e:Expr}{fa:P.FE}{pos:Pos}
def Wd:UnS X (unaryOp .USub) VT:=by
 refine⟨λx c h=>?_,λpins s σ H x u Q I r ⟨B,dx,d,rt,bt,hg,q⟩=>?_⟩
 ·unfold VT at h
  split at h <;> cases h
 unfold VT at hg;split at hg
 ·cases hg;exact khd pins s σ H x u Q I r ⟨_,rt,q _ H (kB.refl _) rfl⟩
 ·cases hg
end
section
variable {K:zFr}{x qual:Str}{st:Stmt}{f:Addr}{fd:FuncData}
def VU {α:Type}{n:Nat}{l:List α}(h:l.length=n+1):∃x r,l=x::r/\r.length=n:=by
 cases l with
 |nil=>cases h
 |cons x r=>exact⟨x,r,rfl,Nat.succ.inj h⟩
def len0 {α:Type}{l:List α}(h:l.length=0):l=[]:=by
 cases l with
 |nil=>rfl
 |cons x r=>cases h
def ve {p1:Str}(F:Fun K x qual st f fd)(h:∀ (kV doc pm:Value) (an:Option Addr) (cdv ct u1:Value),bindArgs (PySem.W.fnOf x qual (yc st) (xB st) (kL st) .none kV doc pm an cdv ct) ⟨[u1],[]⟩=pure [(p1,u1)]):Binds K fd [p1] [] :=
 F.binds λkV doc pm an cdv ct us hl=>by
  obtain⟨u1,r1,e1,h1⟩:=VU hl;rw[len0 h1]at e1;subst e1;exact h kV doc pm an cdv ct u1
def vf {p1 p2:Str}(F:Fun K x qual st f fd)(h:∀ (kV doc pm:Value) (an:Option Addr) (cdv ct u1 u2:Value),bindArgs (PySem.W.fnOf x qual (yc st) (xB st) (kL st) .none kV doc pm an cdv ct) ⟨[u1,u2],[]⟩=pure [(p1,u1),(p2,u2)]):Binds K fd [p1,p2] [] :=
 F.binds λkV doc pm an cdv ct us hl=>by
  obtain⟨u1,r1,e1,h1⟩:=VU hl;obtain⟨u2,r2,e2,h2⟩:=VU h1;rw[len0 h2]at e2;subst e2;subst e1;exact h kV doc pm an cdv ct u1 u2
def V2 {p1 p2 p3:Str}(F:Fun K x qual st f fd)(h:∀ (kV doc pm:Value) (an:Option Addr) (cdv ct u1 u2 u3:Value),bindArgs (PySem.W.fnOf x qual (yc st) (xB st) (kL st) .none kV doc pm an cdv ct) ⟨[u1,u2,u3],[]⟩=pure [(p1,u1),(p2,u2),(p3,u3)]):Binds K fd [p1,p2,p3] [] :=
 F.binds λkV doc pm an cdv ct us hl=>by
  obtain⟨u1,r1,e1,h1⟩:=VU hl;obtain⟨u2,r2,e2,h2⟩:=VU h1;obtain⟨u3,r3,e3,h3⟩:=VU h2;rw[len0 h3]at e3;subst e3;subst e2;subst e1;exact h kV doc pm an cdv ct u1 u2 u3
def Wc {p1 p2 p3 p4:Str}(F:Fun K x qual st f fd)(h:∀ (kV doc pm:Value) (an:Option Addr) (cdv ct u1 u2 u3 u4:Value),bindArgs (PySem.W.fnOf x qual (yc st) (xB st) (kL st) .none kV doc pm an cdv ct) ⟨[u1,u2,u3,u4],[]⟩=pure [(p1,u1),(p2,u2),(p3,u3),(p4,u4)]):Binds K fd [p1,p2,p3,p4] [] :=
 F.binds λkV doc pm an cdv ct us hl=>by
  obtain⟨u1,r1,e1,h1⟩:=VU hl;obtain⟨u2,r2,e2,h2⟩:=VU h1;obtain⟨u3,r3,e3,h3⟩:=VU h2;obtain⟨u4,r4,e4,h4⟩:=VU h3;rw[len0 h4]at e4;subst e4;subst e3;subst e2;subst e1;exact h kV doc pm an cdv ct u1 u2 u3 u4
end
def Df (K:zFr)(x:Str)(st:Stmt)(f:Addr):Prop:=PySem.W.nsIn K mainGlobals x=some (some (.ref f))/\∃oc od sl kV dc pm an cd ct,K.lookup f=some ⟨oc,od,.func (PySem.W.fnOf x x (yc st) (xB st) (kL st) .none kV dc pm an cd ct),sl⟩/\PySem.W.codeIn K cd x=true/\PySem.W.keepIn K (.ref f)=true
def Fk (PP:Program)(w:World)(K:zFr)(mg:Str->Option Value)(base:Heap)(cls:Nat->Value)(x:Str)(st:Stmt)(ps:List Str)(k:Nat)(m:P.Fn):Prop :=
 ∃a fd,Fn1 K mg x st ps a fd/\wg PP w K mg base CX0 k a fd ps (spP K cls ps.length m)
section
variable {PP:Program}{w:World}{K:zFr}{mg:Str->Option Value}{base:Heap}{cls:Nat->Value}{x:Str}{st:Stmt}{ps:List Str}{k:Nat}{m:P.Fn}
def kil {f:Addr}{oc kV dc pm cd ct:Value}{od an:Option Addr}{sl:Array (Option Value)}(a:PySem.W.nsIn K mainGlobals x=some (some (.ref f)))(l:K.lookup f=some ⟨oc,od,.func (PySem.W.fnOf x x (yc st) (xB st) (kL st) .none kV dc pm an cd ct),sl⟩)(c:PySem.W.codeIn K cd x=true)(k:PySem.W.keepIn K (.ref f)=true):∃f,Df K x st f :=
 ⟨f,a,_,_,_,_,_,_,_,_,_,l,c,k⟩
def kig {v:Int}{t:Tok}(a:PySem.W.nsIn K mainGlobals x=some (some (.int v t))):∃t,PySem.W.nsIn K mainGlobals x=some (some (.int v t)):=⟨t,a⟩
def XF {v:Int}{h:Heap}(X:K.In h)(Gn:h.Ns mainGlobals mg)(a:∃t,PySem.W.nsIn K mainGlobals x=some (some (.int v t))):∃t,mg x=some (.int v t):=let ⟨t,a⟩:=a;⟨t,PySem.W.mg_of X Gn a⟩
def qi {h:Heap}{f:Addr}(X:K.In h)(Gn:h.Ns mainGlobals mg)(d:Df K x st f)(b:∀fd,Fun K x x st f fd->Binds K fd ps []):∃fd,Fn1 K mg x st ps f fd:=by
 obtain⟨a,_,_,_,_,_,_,_,_,_,l,c,k⟩:=d;exact⟨_,uN l c k,PySem.W.mg_of X Gn a,b _ (uN l c k)⟩
def fk {f:Addr}{fd:FuncData}(c:Fn1 K mg x st ps f fd)(g:wg PP w K mg base CX0 k f fd ps (spP K cls ps.length m)):Fk PP w K mg base cls x st ps k m:=⟨f,fd,c,g⟩
end
section
variable {X:Cx}{own:List Bool}{A:List Addr}{E:Nat->Hp->Prop}{e:Expr}{es:List Expr}{fr:P.FA}{pos:Pos}{wk:Bool}
def qu {cls:Nat->Value}{k j:Nat}{st:Stmt}{ps:List Str}{m:P.Fn}{x:Str}{p:Pos}(c:Fk X.prog X.w X.K X.mg X.base cls x st ps k m)(hr:qU j X.A)(ha:Qf X own A E false (e::es) fr)(hkj:k<=j:=by decide)(hn:(e::es).length=ps.length:=by rfl)
 (hg:Gl X x:=by rfl) (hdb:(x==("__debug__":Str))=false:=by decide) (he:starEach (e::es) X.env=(false,eval e X.env)::starEach es X.env:=by rfl) (hpl:(backTo pos (starEach es X.env)).any (·.1)=false:=by rfl) :
 Snd X own A E wk (.Call (.Name x p) (e::es) [] pos) (kF m fr):=by
 obtain⟨a,fd,c1,g⟩:=c;exact uy g (hr.mono hkj) c1.m c1.F.kp c1.b kfn ha hn hg hdb he hpl
end
section
variable {X:Cx}{own:List Bool}{A:List Addr}{E:Nat->Hp->Prop}{scope:Scope}{cl:List (Str×Addr)}{ns free:List Str}{pick is:List Nat}{e tg iter:Expr}{ifs:List Expr}{pos:Pos}{it:P.FI}{g:P.FG}{ft:P.FT}{fe:P.FE}
def wJ (S:vK X scope cl ns free pick)(hc:X.calm=true)(hnd:pick.Nodup)(his:∀j∈is,j < ns.length)(hi:Xf X own A E true tg iter it)
 (hg:∀C s H fp pn,ZI (KR X scope cl (ns++free) C s H fp pn) (yR ns.length pick own) A is tg g) (ht:∀C s H fp pn,YU (KR X scope cl (ns++free) C s H fp pn) (yR ns.length pick own) A ifs ft)
 (he:∀C s H fp pn,Snd (KR X scope cl (ns++free) C s H fp pn) (yR ns.length pick own) A E0' false e fe) (hs:∀x,foldedSetIterable iter X.env x=pure x:=by intro _;rfl) :
 qF X own A E (.ListComp e [⟨tg,iter,ifs,0⟩] scope pos) (wU ns.length pick it g ft fe) :=
 kbR S hc hnd his hi (λX' ⟨C,s,H,fp,pn,z⟩=>z ▸ hg C s H fp pn) (λX' ⟨C,s,H,fp,pn,z⟩=>z ▸ ht C s H fp pn) (λX' ⟨C,s,H,fp,pn,z⟩=>z ▸ he C s H fp pn) hs
end
end L3
namespace P
def Wt (a:FE)(lo hi:Env->Rs (Option Int)):FE:=λenv=>a env>>=λx=>lo env>>=λl=>hi env>>=λh=>match x with
 |.tup xs=>.ok (.tup (cut xs l h))
 |.lst xs=>.ok (.lst (cut xs l h))
 |_=>.stuck
def kaq (a b:FE):FE:=λenv=>a env>>=λk=>b env>>=λv=>if k.tk then .ok (.dic [k] [v]) else .stuck
def j9:Fn
 | [.dic ks _]=>.ok (.int ks.length)
 |_=>.stuck
def Jh:Fn
 | [.int i]=>.ok (.int i)
 | [.bl b]=>.ok (.int (if b then 1 else 0))
 |_=>.stuck
def klP:O2
 |.int i,.int j=>if 0<=j/\j<=1000000/\i.natAbs < 2 ^ 64 then .ok (.int (i * 2 ^ j.toNat)) else .stuck
 |_,_=>.stuck
def Ub:O2
 |.lst xs,.int k=>if 0<=k/\k<=1000000/\xs.length * k.toNat<=kP then .ok (.lst (List.replicate k.toNat xs).flatten) else .stuck
 |_,_=>.stuck
def kgW (i:Nat)(env:Env)(xs:List D):D->Rs Out
 |.tup ys=>if xs.length+ys.length<=kP then .ok (.next (env.set i (some (.lst (xs++ys))))) else .stuck
 |_=>.stuck
def Jg (i:Nat)(a:FE):FS:=λenv=>match env[i]? with
 |some (some (.lst xs))=>a env>>=kgW i env xs
 |_=>.stuck
def V0:Fn
 | [.lst xs]=>if sortable xs&&decide (xs.length < 64) then .ok (.lst (xx xs)) else .stuck
 | [.tup xs]=>if sortable xs&&decide (xs.length < 64) then .ok (.lst (xx xs)) else .stuck
 | [.dic ks _]=>if sortable ks&&decide (ks.length < 64) then .ok (.lst (xx ks)) else .stuck
 |_=>.stuck
def kiI {xs:List D}(h:sortable xs=true)(hl:xs.length < 64):V0 [.lst xs] = .ok (.lst (xx xs)):=if_pos (by rw[h,decide_eq_true hl];rfl)
end P
open P (Wt kaq j9 Jh Ub Jg V0)
namespace TS
open PySem PyProof.Rows
section
variable {prog:Program}{w:World}{A:Around}{E:zEx}{s:Shared}{κ:SortKind}{a₀:Array Keyed}{rk:Keyed->Nat}
def ZY {st:SortSt}{Q:Unit->SortSt->Prop}(hO:Cmp prog w A E s κ a₀ rk)(hB:Bs κ a₀ st)(hp:pendingOf st=#[])(h2:2<=a₀.size)(h64:a₀.size < 64)
 (h:∀st',(arrOf st').Perm a₀->failedOf st'=none->Sg rk (arrOf st') 0 a₀.size->Q () st'):wpS (model prog w) A E s sortRuns' Q st:=by
 have mr:minRun' a₀.size a₀.size 0=a₀.size:=by
  obtain⟨k,hk⟩:∃k,a₀.size=k+1:=⟨a₀.size - 1,by omega⟩
  generalize a₀.size=n at *;subst hk;rw[minRun'_succ,if_pos h64]
 rw[sortRuns'_eq];refine zad (wpS_get ?_);dsimp only;simp only[hB.size]
 refine zad (wpS_mono (wpS_forRange
  (I:=λx c st'=>∃lo,c=(none,lo)/\Bs κ a₀ st'/\x<=lo/\(lo=0/\pendingOf st'=#[]∨lo=a₀.size/\Sg rk (arrOf st') 0 a₀.size/\(pendingOf st').size<=1))
  (Q:=λc st'=>c=(none,a₀.size)/\Bs κ a₀ st'/\Sg rk (arrOf st') 0 a₀.size/\(pendingOf st').size<=1) ?step ?fin ⟨0,rfl,hB,by omega,.inl ⟨rfl,hp⟩⟩) ?post)
 case fin=>
  rintro c st' ⟨lo,rfl,b',h3,h4 | ⟨rfl,h5,h6⟩⟩
  ·omega
  ·exact⟨rfl,b',h5,h6⟩
 case post=>
  rintro c st' ⟨rfl,b',s',l'⟩;dsimp only;refine zad (wpS_mono (wpS_forRange (I:=λx c st''=>c=(none,())/\st''=st') (Q:=λc st''=>c=(none,())/\st''=st') ?s2 (λ_ _ z=>z) ⟨rfl,rfl⟩) ?p2)
  case p2=>
   rintro c st'' ⟨rfl,rfl⟩;exact zae (h _ b'.perm b'.failed s')
  case s2=>
   rintro x c st'' _ hx ⟨rfl,rfl⟩;refine zad (wpS_get ?_);rw[if_pos l'];exact zae ⟨rfl,rfl⟩
 case step=>
  rintro x c st' _ hx ⟨lo,rfl,b',h3,h4⟩;dsimp only
  rcases h4 with ⟨rfl,hq⟩ | ⟨rfl,h5,h6⟩
  ·rw[if_neg (by omega)];refine zad (ke9 hO (by omega) (by omega) b' λm st2 b2 o2 hm1 hm2 s2=>?_);dsimp only;rw[mr]
   by_cases hmr:m < a₀.size
   ·rw[if_pos hmr];refine zad (wpS_lift (wpAny_rule ⟨rfl,?_⟩));refine zad (keW hO (by omega) hm1 (by omega) b2 s2 λst3 bS oS sS=>?_);simp only[Bool.not_true,Bool.false_eq_true,if_false];have q3:pendingOf st3=#[]:=by rw[oS.pend,o2.pend,hq]
    refine zad (wpS_get ?_);rw[show (pendingOf st3).back?=none from by rw[q3];rfl];dsimp only;have e:0+min (a₀.size - 0) a₀.size=a₀.size:=by omega
    refine zad (wpS_modify (zae ⟨0+min (a₀.size - 0) a₀.size,rfl,⟨bS.perm,bS.kind,bS.failed⟩,by omega,.inr ⟨e,?_,?_⟩⟩))
    ·rw[e]at sS;exact sS
    ·show ((pendingOf st3).push _).size<=1;rw[q3];exact zak _
   ·rw[if_neg hmr];have q2:pendingOf st2=#[]:=by rw[o2.pend,hq]
    refine zad (wpS_get ?_);rw[show (pendingOf st2).back?=none from by rw[q2];rfl];dsimp only;have e:0+m=a₀.size:=by omega
    refine zad (wpS_modify (zae ⟨0+m,rfl,⟨b2.perm,b2.kind,b2.failed⟩,by omega,.inr ⟨e,?_,?_⟩⟩))
    ·rw[e]at s2;exact s2
    ·show ((pendingOf st2).push _).size<=1;rw[q2];exact zak _
  ·rw[if_pos (zak _)];exact zae ⟨rfl,b',h5,h6⟩
end
section
variable {prog:Program}{w:World}{A:Around}{E:zEx}{s:Shared}
def JV {a:Addr}{vs:List Value}{n:Nat}{P:Fin->Shared->Prop}{κ:SortKind}{rk:Keyed->Nat}(ho:s.heap.get? a=some (seqObj "list" vs.toArray n))(h64:vs.length < 64)
 (hk:2<=vs.length->kgN prog w A { s with heap:=mid s.heap a vs } κ rk vs)
 (h:∀out,Told rk vs out->P (.done (.ret .none)) { s with heap:=sortedHeap s.heap a vs out }):wpAny (model prog w) A (Builtin.«list.sort» ⟨[.ref a],[]⟩) P E s:=by
 have hlen:vs.length<=sizeLine:=Nat.le_trans (Nat.le_of_lt h64) (by decide);obtain⟨m,e1,e2⟩:=kfe ho;have z:vs.toArray.size<=sizeLine:=by simpa using hlen
 have fin:∀ (st:SortSt) (Q:Unit->Shared->Prop),Told rk vs ((arrOf st).map Prod.snd)->Q () { s with heap:=sortedHeap s.heap a vs ((arrOf st).map Prod.snd) } →
  wpAny (model prog w) A (Builtin.List.listUpdate (.ref a) λ_=>(arrOf st).map Prod.snd) Q E { s with heap:=mid s.heap a vs }:=λst Q t q=>
  listUpdate_at e2 rfl q (Nat.zero_le _) (by
   have:=t.perm.length_eq;rw[zao]at this;show ((arrOf st).map Prod.snd).size<=sizeLine+1
   omega)
 rw[list_sort_plain];refine zaa (listItems_at ho rfl (zaa (listUpdate_at ho rfl (zaa (seqEpoch_at e1 rfl (zaa (wpAny_newTuple (zaa (wpAny_newList (wpAny_holding ?_))) (by simpa using hlen))))) z)));show wpAny (model prog w) A _ P E { s with heap:=mid s.heap a vs };dsimp only
 by_cases h2:vs.toArray.size < 2
 ·rw[if_pos h2,if_pos h2]
  have t:Told rk vs ((arrOf (SortSt.mk' general' (pairsOf vs) #[] 7 none)).map Prod.snd):=Told.of (xs:=pairsOf vs) (Array.Perm.refl _) λi j _ c d=>by
   rw[pairsOf_size]at d;rw[zal]at h2;rw[show i=j by omega];exact zak _
  refine zaa (zab ?_);rw[StateT.run_pure];refine zaa (zab (zaa (seqEpoch_at e2 rfl (zaa (fin (SortSt.mk' general' (pairsOf vs) #[] 7 none) _ t ?_)))));simp only[bne_self_eq_false,Bool.false_eq_true,if_false];exact zab (h _ t)
 ·rw[if_neg h2,if_neg h2];rw[zal]at h2;have k:=hk (by omega)
  refine zaa (k.kind _ _ (zaa (wpAny_mono (ZY (Q:=λ_ st=>failedOf st=none/\Told rk vs ((arrOf st).map Prod.snd)) (k.cmp _) (st:=SortSt.mk' κ (pairsOf vs) #[] 7 none) ⟨Array.Perm.refl _,rfl,rfl⟩ rfl (by rw[pairsOf_size];omega) (by rw[pairsOf_size];omega)
   λst c d f=>⟨d,Told.of c f⟩) (λr s' y=>?_) λ_ _ y=>y)))
  obtain⟨u,st⟩:=r;obtain⟨rfl,y1,y2⟩:=y;dsimp only at y1 y2 ⊢;refine zaa (seqEpoch_at e2 rfl (zaa (fin st _ y2 ?_)));rw[y1];simp only[bne_self_eq_false,Bool.false_eq_true,if_false];exact zab (h _ y2)
def kcc {x:Value}{vs:List Value}{Q:zEx}{κ:SortKind}{rk:Keyed->Nat}(G:Heap->Prop)(h64:vs.length < 64)
 (hc:∀Q':List Value->Shared->Prop,(∀h1 t1 d1,G h1->Q' vs { s with heap:=h1,drawn:=d1,toks:=t1 })->wpAny (model prog w) A.in1 (collect x) Q' E s)
 (hk:2<=vs.length->∀ (h1 h2:Heap) (t1:Nat) (d1:Drawn),G h1->(∀b o,h1.get? b=some o->h2.get? b=some o)->kgN prog w A.in1.in1 { s with heap:=h2,drawn:=d1,toks:=t1 } κ rk vs)
 (h:∀h1 t1 d1 out,G h1->Told rk vs out->Q (.ref h1.objs.size) { s with heap:=sortedHeap (h1.push (seqObj "list" vs.toArray 0)) h1.objs.size vs out,drawn:=d1,toks:=t1 }) :
 wpAny (model prog w) A (call (.builtin "sorted") [x]) Q E s:=by
 have hlen:vs.length<=sizeLine:=Nat.le_trans (Nat.le_of_lt h64) (by decide);refine Calls.call_function_entry kind_sorted plain_sorted entry_sorted (args_sorted1 _) (zaa (m:=checkCount "sorted" 1 1 _) (zab (zaa (hc _ λh1 t1 d1 g=>zaa (wpAny_newList ?_ (by simpa using hlen))))));have own:(h1.push (seqObj "list" vs.toArray 0)).get? h1.objs.size=some (seqObj "list" vs.toArray 0):=zag _ rfl;show wpAny _ _ _ _ _ { s with heap:=h1.push (seqObj "list" vs.toArray 0),drawn:=d1,toks:=t1 };refine zaa (wpAny_holding (wpAny_call_entry slot_list_sort ⟨_,own,rfl⟩ entry_list_sort (JV (s:={ s with heap:=h1.push (seqObj "list" vs.toArray 0),drawn:=d1,toks:=t1 }) own h64 (λq=>hk q h1 _ t1 d1 g λb o e=>?_) λout t=>⟨_,rfl,zab ⟨_,rfl,h h1 t1 d1 out g t⟩⟩) (args_list_sort _)))
 exact kgh (zas (zaf e)) (zac _ e)
end
end TS
namespace HT
open PySem PySem.Spec PyProof.Rows
def kba {prog:Program}{w:World}{A:Around}{E:zEx}{s:Shared}{t sl:Addr}{items:Array Value}{vl vu:Value}{lo hi:Option Int}{Q:zEx}(ht:IsTup s.heap t items)(hs:s.heap.IsSliceOf sl vl vu .none)(pl:IsPart vl lo)(pu:IsPart vu hi)
 (h0:sIx items.size 0 lo=0) (h1:sIx items.size items.size hi=items.size) (h:Q (.ref t) s):wpAny (model prog w) A (getItem (.ref t) (.ref sl)) Q E s:=by
 have hTs:s.TypeIs (.ref sl) "slice":=by obtain⟨os,hos,hcs,_⟩:=id hs;exact⟨os,hos,hcs⟩
 unfold getItem
 try with_reducible refine wpAny_holding ?_
 first | refine zaa (zab ?_) | skip
 refine zaa (wpAny_sequenceKey ht.typeIs (by decide) ?_)
 refine zaa (wpAny_callSpecial?_slot (name:=Str.ofString "__getitem__") ht.typeIs PyProof.Rows.slot_tuple_getitem
  (wpAny_call_entry PyProof.Rows.slot_tuple_getitem ht.typeIs entry_tuple_getitem ?_ (args_tuple_getitem _ _)))
 show wpAny _ _ (Builtin.Tuple.tupleItemsOf (.ref t)>>=_) _ _ s;refine zaa (tupleItemsOf_ ht ?_);refine zaa (wpAny_typeOf hTs ?_);rw[if_pos (by decide)];refine zaa (Vl hs pl pu ?_);have yes:(((sIx items.size 0 lo:Nat):Int)==0&&(1:Int)==1&&(sIx items.size items.size hi - sIx items.size 0 lo)==items.size)=true:=by rw[h0,h1];simp
 show wpAny _ _ (if (((sIx items.size 0 lo:Nat):Int)==0&&(1:Int)==1&&(sIx items.size items.size hi - sIx items.size 0 lo)==items.size)=true then _ else _) _ _ s;rw[if_pos yes];unfold Builtin.Tuple.tupleIsExact;refine zaa (zaa (wpAny_typeOf ht.typeIs (zab ?_)));rw[if_pos (by decide)];refine zaa (wpAny_rule ?_)
 first
  |exact zaa (zab ⟨_,rfl,zab h⟩)
  |exact zab ⟨_,rfl,zab h⟩
  |exact zaa (zab (zab ⟨_,rfl,zab h⟩))
end HT
namespace L2
open PySem PySem.Spec PyProof.Rows
def kjk (K:zFr):V->Option Int->Option Int->Hp->VK->Prop:=λx lo hi H Q=>∃a xs,x = .ref a/\SqT K H a xs/\HT.sIx xs.length 0 lo=0/\HT.sIx xs.length xs.length hi=xs.length/\Q (.ref a) H
def kdW {X:Cx}:SlR X (kjk X.K):=by
 intro pins s σ H x v vl vu lo hi sl Q I rx hs pl pu h;obtain⟨a,xs,rfl,hx,h0,h1,q⟩:=h;cases rx;obtain⟨its,r,ht,hz⟩:=I.tuple hx;have hlen:its.toArray.size=xs.length:=by rw[zal];exact r.length.symm
 refine⟨"tuple",_,PyProof.Rows.slot_tuple_getitem.lookup,ht.typeIs,?_⟩;exact HT.kba ht hs pl pu (by rw[hlen];exact h0) (by rw[hlen];exact h1) ⟨.ref a,H,I,rfl,q⟩
end L2
namespace L3
open PySem PySem.Spec PyProof.Rows L2
open P (D Rs Out)
section
variable {X:Cx}{own:List Bool}{A:List Addr}{E:Nat->Hp->Prop}{w:Bool}{a:Expr}{fa:P.FE}{pos p2:Pos}
def uE {lo hi:Option Expr}{fl fh:P.Env->Rs (Option Int)}(ha:Snd X own A E true a fa)(hl:kaN X own A E lo fl)(hh:kaN X own A E hi fh):Snd X own A E w (.Subscript a (.Slice lo hi none p2) pos) (Wt fa fl fh):=by
 refine Snd.any (PE.imp (kes (khE.or (kdW.or kfL)) ha hl hh) λσ H Q ⟨B,env,ok,h⟩=>?_)
 refine vG ok (show Pst false X.K B E H (fa env>>=λx=>fl env>>=λl=>fh env>>=λh=>match x with
  |.tup xs=>.ok (.tup (P.cut xs l h))
  |.lst xs=>.ok (.lst (P.cut xs l h))
  |_=>.stuck) Q from h) λx v H1 e1 s1 ok1 r1 h1=>?_
 refine⟨B,env,ok1,?_⟩
 cases q:fl env with
 |exc c=>rw[q]at h1;exact h1
 |stuck=>rw[q]at h1;exact h1
 |ok l=>
  rw[q]at h1;intro H2 s2;refine⟨B,env,ok1.same s2,?_⟩;have h2:=Pst.same s2 h1
  cases q2:fh env with
  |exc c=>rw[q2]at h2;exact h2
  |stuck=>rw[q2]at h2;exact h2
  |ok u=>
   rw[q2]at h2;intro H3 s3;have h3:=Pst.same s3 h2;have r3:=(r1.same s2).same s3
   have e:∀n d o,HT.sIx n d o=P.sIx n d o:=λn d o=>by cases o <;> rfl
   cases x with
   |tup xs=>
    obtain⟨p,vs,rfl,sq,rr⟩:=r3;have h3:Pst false X.K B E H3 (.ok (.tup (P.cut xs l u))) Q:=h3
    by_cases hw:P.sIx xs.length 0 l=0/\P.sIx xs.length xs.length u=xs.length
    ·refine .inr (.inl ⟨p,vs,rfl,sq,by rw[e,rr.length];exact hw.1,by rw[e,rr.length];exact hw.2,?_⟩)
     have ce:P.cut xs l u=xs:=by unfold P.cut;rw[hw.1,hw.2];simp
     rw[ce]at h3;exact h3 _ _ (kB.refl _) ⟨p,vs,rfl,sq,rr⟩
    ·refine .inl ⟨p,vs,rfl,sq,by rw[e,e,rr.length];exact hw,λp' hp'=>?_⟩
     exact h3 _ _ (kB.upd hp') ⟨p',_,rfl,SqT.of k9,kE.kp (Kp.of_same (kB.upd hp')) (kbE rr l u)⟩
   |lst xs=>
    obtain⟨p,vs,rfl,sq,rr⟩:=r3;refine .inr (.inr ⟨p,vs,rfl,SqL.of sq,λp' hp'=>?_⟩);refine h3 _ _ (kB.upd hp') ⟨p',_,rfl,?_,k9,kE.kp (Kp.of_same (kB.upd hp')) (kbE rr l u)⟩;exact ((ok1.same s2).same s3).new hp'
   |_=>exact h3.elim
end
def uG {P:Program}{w:World}{H:Hp}{h:Heap}{a:Addr}{o:HO}(x:x8 P w H h a o):∃u,h.get? a=some u:=by
 cases o with
 |lst xs=>obtain⟨_,_,_,_,e⟩:=x;exact⟨_,e⟩
 |tup xs=>obtain⟨_,_,_,_,e,_⟩:=x;exact⟨_,e⟩
 |dK kvs=>obtain⟨_,_,_,_,_,_,_,e,_⟩:=x;exact⟨_,e⟩
 |dT kvs=>obtain⟨_,_,_,_,_,_,_,e,_⟩:=x;exact⟨_,e⟩
 |set S n=>obtain⟨_,_,_,_,e,_⟩:=x;exact⟨_,e⟩
 |ins C dx fs=>obtain⟨_,_,_,e,_⟩:=x;exact⟨_,e⟩
 |own y=>obtain⟨_,e⟩:=x;exact⟨_,e⟩
 |xd fs=>obtain⟨_,⟨_,_,_,e,_⟩,_⟩:=x;exact⟨_,e⟩
 |rng lo hi=>obtain⟨_,_,_,e⟩:=x;exact⟨_,e⟩
 |frz ob u=>obtain⟨e,_⟩:=x;exact⟨_,e⟩
 |tbl ps=>exact⟨_,(show h.get? a=some _ from x)⟩
 |met f y=>exact⟨_,(show h.get? a=some _ from x)⟩
 |ext φ=>obtain⟨_,⟨_,e⟩,_⟩:=x;exact⟨_,e⟩
def Y3 {P:Program}{w:World}{H:Hp}{h h':Heap}(x:HOk P w H h)(k:∀b o u,H b=some o->h.get? b=some u->h'.get? b=some u):HOk P w H h':=λa o e=>
 (x a o e).stay (λb u c q=>by
  rcases c with rfl | c
  ·exact k _ _ _ e q
  ·exact k _ _ _ c q) (λ_ q=>q) λ_ _ q=>q
structure Fly (P:Program)(w:World)(outer:List Env)(H:Hp)(s:Shared)(C ea:Addr)(a0:Value)(B:Heap)(H':Hp)(s':Shared):Prop where
 os:s'.os=s.os
 bare:AllBare s'.gens
 un:Un (frs outer) [] H H' s.heap s'.heap
 hok:HOk P w H' s'.heap
 fl:Heap.FlyingW B outer ea (.ref C) a0 s'.heap
 tr:∀b o u,H' b=some o->s'.heap.get? b=some u->B.get? b=some u
 old:∀b o u,s.heap.get? b=some o->b∉frs outer->s'.heap.get? b=some u->B.get? b=some u
 ne:H' ea=none
 new:s.heap.get? ea=none
def CXr (P:Program)(w:World):CXT:=λouter H s E e s'=>∃ea C a0 B H',e = .ref ea/\Fly P w outer H s C ea a0 B H' s'/\E (.ref C) none H'
section
variable {PP:Program}{w:World}{K:zFr}{mg:Str->Option Value}{base:Heap}{N:List Str}{qual:Str}{scope:Scope}{f:Addr}{cd:Value}{A:Around}{outer:List Env}{s:Shared}{H:Hp}{E:XK}
def kfw {pins:List (Addr × Obj)} {σ:L2.St} {H1:Hp} {s1:Shared} {C e:Addr} {vs:List Value} {h':Heap} (I:Inv (KL (CXr PP w) PP w K mg base N qual scope f cd A outer s H E) pins σ H1 s1)
 (hx:Heap.MadeExcOf s1.heap h' e (.ref C) vs) (hE:E (.ref C) none H1):(KL (CXr PP w) PP w K mg base N qual scope f cd A outer s H E).xe (.ref e) { s1 with heap:=h' }:=by
 have stk:=I.stack;have sf:=I.jg;have hin:∀env∈(envOfC qual scope s.heap.objs.size f cd::outer),∀b,env.frame=some b->b∈frs (envOfC qual scope s.heap.objs.size f cd::outer):=λenv he b hb=>List.mem_filterMap.mpr ⟨env,he,hb⟩
 have memb:∀b,b∈frs (envOfC qual scope s.heap.objs.size f cd::outer)->b=s.heap.objs.size∨b∈frs outer:=λb hm=>by
  obtain⟨env,he,hf⟩:=List.mem_filterMap.mp hm
  rcases List.mem_cons.mp he with rfl | he
  ·exact .inl (Option.some.inj hf).symm
  ·exact .inr (List.mem_filterMap.mpr ⟨env,he,hf⟩)
 have sub:∀b,b∈frs outer->b∈frs (envOfC qual scope s.heap.objs.size f cd::outer):=λb hm=>by
  obtain⟨env,he,hf⟩:=List.mem_filterMap.mp hm;exact List.mem_filterMap.mpr ⟨env,zah _ he,hf⟩
 refine wpAny_leaves_madeW (base:=PySem.W.hideAll s1.heap (frs (envOfC qual scope s.heap.objs.size f cd::outer))) (outer:=outer) I.ok.frames rfl (λb o q=>PySem.W.of_hideAll _ q) (PySem.W.funFrames_hide stk hin) hx λh2 t x1 x2 x3 x4=>?_
 have stay:∀b o,s1.heap.get? b=some o->b∉frs (envOfC qual scope s.heap.objs.size f cd::outer)->h2.get? b=some o:=λb o q n=>x1.1 b o (PySem.W.hideAll_get _ q n)
 have slots:∀b o,s1.heap.get? b=some o->b∈frs (envOfC qual scope s.heap.objs.size f cd::outer)->∃sl,h2.get? b=some { o with slots:=sl }:=λb o q n=>by
  obtain⟨_,o',e',hd⟩:=stk.mem n;rw[q]at e';cases e';exact x4 b o (hx.keeps b o q) hd
 have neL:∀b o,s.heap.get? b=some o->b≠s.heap.objs.size:=λb o e=>zas (zaf e)
 have trk:∀b o,H1 b=some o->b∉frs (envOfC qual scope s.heap.objs.size f cd::outer):=λb o e hm=>by
  have z:=sf b hm;rw[e]at z;cases z
 have nin:∀b:Addr,b∉([]:List Addr):=λb=>by simp
 refine⟨e,C,.ref t,_,H1,rfl,⟨I.os,I.bare,⟨λb o q n nb _=>?_,λb o q n hb _=>?_,λb o q n _=>I.base.free b o q n (nin b),λb o q _=>?_,I.base.tups,I.base.frzs,I.base.tbls⟩,?_,x1,λb o u q z=>?_,λb o u q nb z=>?_,?_,?_⟩,hE⟩
 ·exact stay b o (I.base.keep b o q n nb (nin b)) λhm=>(memb b hm).elim (neL b o q) nb
 ·obtain⟨sl,q1⟩:=I.base.slot b o q n hb (nin b)
  obtain⟨sl2,q2⟩:=slots b _ q1 (sub b hb);exact⟨sl2,q2⟩
 ·obtain⟨o1,q1⟩:=I.base.there b o q (nin b)
  by_cases hm:b∈frs (envOfC qual scope s.heap.objs.size f cd::outer)
  ·obtain⟨sl,q2⟩:=slots b o1 q1 hm
   exact⟨_,q2⟩
  ·exact⟨o1,stay b o1 q1 hm⟩
 ·exact Y3 I.hok λb o u q z=>stay b u z (trk b o q)
 ·obtain⟨u1,q1⟩:=uG (I.hok b o q)
  have q2:=stay b u1 q1 (trk b o q);have z:h2.get? b=some u:=z;rw[q2]at z;cases z;exact PySem.W.hideAll_get _ q1 (trk b o q)
 ·obtain⟨o1,q1⟩:=I.base.there b o q (nin b)
  have nm:b∉frs (envOfC qual scope s.heap.objs.size f cd::outer):=λhm=>(memb b hm).elim (neL b o q) nb
  have q2:=stay b o1 q1 nm;have z:h2.get? b=some u:=z;rw[q2]at z;cases z;exact PySem.W.hideAll_get _ q1 nm
 ·cases q:H1 e with
  |none=>rfl
  |some o=>
   obtain⟨u1,q1⟩:=uG (I.hok e o q);rw[hx.new]at q1;cases q1
 ·cases q:s.heap.get? e with
  |none=>rfl
  |some o=>
   obtain⟨o1,q1⟩:=I.base.there e o q (nin e);rw[hx.new]at q1;cases q1
end
abbrev bmV:List Value:=[.type "ValueError",.type "Exception",.type "BaseException",.type "object"]
def kix {K:zFr}{h:Heap}{C:Addr}{bmB:List Value}{nid:String}(X:K.In h)(q:PySem.W.excIn K C bmB nid=true) :
 ∃bm M n1 n2 bs b1 l1 l2 b2 b3 dd a0 a1 a2 a3 a5 mN,h.get? C=some (excClassObj n1 n2 C M bs bm b1 l1 l2 b2 b3 dd a0 a1 a2 a3 a5 nid)/\h.Ns M mN/\mN "__init__" = none/\OwnTail h bmB bm:=by
 unfold PySem.W.excIn at q;split at q
 ·rename_i dd c1 sl look;split at q
  ·rename_i C2 bm a0 a1 a2 a3 nw a5 e8 e9;rw[Bool.and_eq_true,Bool.and_eq_true,Bool.and_eq_true,Bool.and_eq_true,Bool.and_eq_true]at q;obtain⟨⟨⟨⟨⟨z1,z2⟩,z3⟩,z4⟩,z5⟩,z6⟩:=q;have z1:=eq_of_beq z1;have z2:=eq_of_beq z2;subst z1 z2;obtain⟨n1,bs,mr,M,n2,b1,l1,l2,b2,b3,dl⟩:=c1;obtain⟨ls⟩:=sl;dsimp only at e8 e9 z3 z5 z6;subst e8 e9
   cases dl with
   |true=>cases z3
   |false=>exact⟨bm,M,n1,n2,bs,b1,l1,l2,b2,b3,dd,a0,a1,a2,a3,a5,_,X _ _ look,.of_isNs (PySem.W.isNs_of_in X z5),PySem.W.nsMap_none_of_in X z5 (eq_of_beq z6),PySem.W.tail_of_in X z4⟩
  ·cases q
 ·cases q
section
variable {PP:Program}{w:World}{K:zFr}{mg:Str->Option Value}{base:Heap}{N:List Str}{qual:Str}{scope:Scope}{f:Addr}{cd:Value}{A:Around}{outer:List Env}{s:Shared}{H:Hp}{E:XK}
def wZ {own:List Bool}{Ah:List Addr}{cls:Nat->Value}{c:Nat}{x:Str}{C:Addr}{msg:Str}{j:Nat}{p1 np cpos pos:Pos}(hm:mg x=some (.ref C))(hc:cls c = .ref C)(q:PySem.W.excIn K C bmV "ValueError.__new__" = true)
 (hg:Gl (KL (CXr PP w) PP w K mg base N qual scope f cd A outer s H E) x:=by rfl) (hdb:(x==("__debug__":Str))=false:=by decide) :
 yC (KL (CXr PP w) PP w K mg base N qual scope f cd A outer s H E) own Ah (λc H'=>E (cls c) none H') H (.Raise (some (.Call (.Name x np) [.Constant (.str msg) j p1] [] cpos)) none pos) (ya c):=by
 intro pins s1 σ H1 D I ⟨B,env,ok,st,h⟩;have hE:E (.ref C) none H1:=by rw[<- hc];exact h H1 st.same
 obtain⟨bm,M,n1,n2,bs,b1,l1,l2,b2,b3,dd,a0,a1,a2,a3,a5,mN,oC,nsM,ini,tl⟩:=kix I.mod.kin q
 refine wpAny_Raise_call_subU (C:=C) (nm:=n1) (q:=n2) (N:=M) (bs:=bs) (bm:=bm) (hdct:=b1) (sn:=l1) (sub:=l2) (ab:=b2) (col:=b3) (dd:=dd) (k0:=a0) (k1:=a1) (k2:=a2) (k3:=a3) (k5:=a5)
  PySem.F.excBase_ValueError (by rfl) PySem.F.excBase_ValueError (mN:=mN) (tl.hasType PySem.F.excBase_ValueError.hasBase) (I.ok.hd rfl) rfl ini (Vb I hg hm ⟨rfl,?_⟩ hdb)
 have pa:PA (KL (CXr PP w) PP w K mg base N qual scope f cd A outer s H E) [.Constant (.str msg) j p1] _:=qE kbp vS rfl;refine Calls.evalArgs_plain (wpAny_mono (pa cpos pins s1 σ H1 (λvs H2=>vs=[.str msg]/\H2=H1) I ⟨rfl,rfl⟩) (λus s2 ap=>?_) λ_ _ y=>y);obtain⟨vs,H2,I2,r2,e2,e3⟩:=ap;subst e2 e3;refine⟨rfl,?_,I2.bk _ _ oC,nsM.keeps I2.bk,tl.keeps I2.bk,λh' e hx=>kfw I2 hx hE⟩;show us.length<=sizeLine;rw[<- r2.length];show 1<=sizeLine;decide
end
end L3
namespace L3
open PySem PySem.Spec PyProof.Rows L2
open PySem.W (InstAt findIn mroIn looks_findIn looks_mroIn class_get)
def kf3 {prog:Program}{w:World}{A:Around}{hh:Heap}{g:Array GenState}{d:Drawn}{t:Nat}{os:OsState}{K:zFr}{x D:Addr}{tp:Value}{R:Result->Shared->Prop}(X:K.In hh)(I:∀M,PySem.W.Looks M hh (typeOf (.ref x)) (.ref D))
 (m1:mroIn K D (.type "object")=some true) (hq:R (.ok (.ret (.ref D))) ⟨hh,g,d,t,os⟩):codeAny (model prog w) A (.call (.builtin "getset_descriptor.__get__") ⟨[.builtin "object.__class__",.ref x,tp],[]⟩) R ⟨hh,g,d,t,os⟩:=by
 have L0:=I (model prog w);have L1:=looks_mroIn (M:=model prog w) X m1;have own:(".".intercalate ("object.__class__".cutAt '.').dropLast:String) = "object":=PySem.F.owner_object_class;have ty:(⟨hh,g,d,t,os⟩:Shared).TypeIs (.builtin "object.__class__") "getset_descriptor":=PySem.F.typeOf_object_class;rw[<- own]at L1;refine codeAny_call_builtin PySem.F.slot_gs_get.plain PySem.F.entry_gs_get ?_;refine PySem.F.slot_gs_get.check _ _ _ _ _ _ _ _ ty (PySem.F.args_gs_get _ _ _) ?_
 repeat (any_goals (first | assumption | with_reducible refine L0.at ?_ | with_reducible refine L1.at ?_ | wp_step))
 refine⟨Code.quiet_builtin _ (by decide +kernel),codeAny_builtin PySem.F.entry_object_class ?_⟩
 repeat (any_goals (first | assumption | with_reducible refine L0.at ?_ | wp_step))
def kcv {prog:Program}{w:World}{A:Around}{E:zEx}{hh:Heap}{g:Array GenState}{d:Drawn}{t:Nat}{os:OsState}{K:zFr}{x D:Addr}{tk:Tok}{Q:Fin->Shared->Prop}(X:K.In hh)(I:∀M,PySem.W.Looks M hh (typeOf (.ref x)) (.ref D))
 (g3:findIn K (.ref D) "__class__" = some (some (.builtin "object.__class__"))) (m1:mroIn K D (.type "object")=some true) (hq:Q (.done (.ret (.ref D))) ⟨hh,g,d,t,os⟩) :
 wpAny (model prog w) A (Builtin.«object.__getattribute__» ⟨[.ref x,.str "__class__" tk],[]⟩) Q E ⟨hh,g,d,t,os⟩:=by
 have L0:=I (model prog w);have L3:=looks_findIn (M:=model prog w) X g3;have hT5:(⟨hh,g,d,t,os⟩:Shared).TypeIs (.builtin "object.__class__") "getset_descriptor":=PySem.F.typeOf_object_class;have f5:=PySem.F.typeOf_object_class;have f6:=PySem.F.slot_gs_get.lookup;have f7:=PySem.F.slot_gs_set.lookup
 repeat (any_goals (first | assumption | with_reducible refine L0.at ?_ | with_reducible refine L3.at ?_ | wp_step))
 refine kf3 X I m1 ?_
 repeat (any_goals (first | assumption | wp_step))
def kbK {M:Model}{A:Around}{E:zEx}{hh:Heap}{g:Array GenState}{d:Drawn}{t:Nat}{os:OsState}{K:zFr}{x D:Addr}{nv:Value}{Q:Unit->Shared->Prop}(X:K.In hh)(I:∀M,PySem.W.Looks M hh (typeOf (.ref x)) (.ref D))
 (m2:mroIn K D (.type "BaseException")=some true) (hq:Q () ⟨hh,g,d,t,os⟩):wpAny M A (checkBuiltinCall "BaseException.__getattribute__" ⟨[.ref x,nv],[]⟩) Q E ⟨hh,g,d,t,os⟩:=by
 have L0:=I M;have L4:=looks_mroIn (M:=M) X m2;have hk:builtinKind "BaseException.__getattribute__" = some .slot:=by decide +kernel
 have hs:splitId "BaseException.__getattribute__" = some ("BaseException","__getattribute__"):=by decide +kernel
 have ha:=PySem.F.args_bexc_ga (.ref x) nv;simp only[checkBuiltinCall,hk,hs];refine zaa ?_;unfold isInstance
 repeat (first | with_reducible refine L0.at ?_ | with_reducible refine L4.at ?_ | wp_step)
 exact hq
def kca {prog:Program}{w:World}{A:Around}{E:zEx}{s:Shared}{K:zFr}{x D:Addr}{Q:Option Value->Shared->Prop}(X:K.In s.heap)(I:∀M,PySem.W.Looks M s.heap (typeOf (.ref x)) (.ref D))
 (g1:findIn K (.ref D) "__getattribute__" = some (some (.builtin "BaseException.__getattribute__"))) (g2:findIn K (.ref D) "__getattr__" = some none) (g3:findIn K (.ref D) "__class__" = some (some (.builtin "object.__class__")))
 (m1:mroIn K D (.type "object")=some true) (m2:mroIn K D (.type "BaseException")=some true) (h:Q (some (.ref D)) { s with toks:=s.toks+1 }):wpAny (model prog w) A (getAttr? (.ref x) "__class__") Q E s:=by
 obtain⟨hh,g,d,t,os⟩:=s;have L0:=I (model prog w);have L1:=looks_findIn (M:=model prog w) X g1;have L2:=looks_findIn (M:=model prog w) X g2;have f3:=PySem.F.attr_ValueError.ga.bind (.ref x);have e2:(Value.builtin "BaseException.__getattribute__" == Value.builtin "object.__getattribute__")=false:=by decide +kernel
 have e1:(onTheHeap (Value.ref D)&&Value.builtin "BaseException.__getattribute__" == Value.builtin "object.__getattribute__")=false:=by rw[e2];rfl
 unfold getAttr? getAttrBy? getAttrBy
 repeat (any_goals (first | assumption | with_reducible refine L0.at ?_ | with_reducible refine L1.at ?_ | with_reducible refine L2.at ?_ | wp_step))
 refine codeAny_call_builtin PySem.F.attr_ValueError.ga.plain PySem.F.entry_bexc_ga (kbK X I m2 (kcv X I g3 m1 ?_))
 repeat (any_goals (first | assumption | wp_step))
end L3
namespace L3
open PySem PySem.Spec PyProof.Rows L2
open P (D Rs Out)
structure zS (K:zFr)(C:Addr):Prop where
 ex:PySem.W.excIn K C bmV "ValueError.__new__" = true
 ks:PySem.W.ktsIn K C "BaseException" = true
 g1:PySem.W.findIn K (.ref C) "__getattribute__" = some (some (.builtin "BaseException.__getattribute__"))
 g2:PySem.W.findIn K (.ref C) "__getattr__" = some none
 g3:PySem.W.findIn K (.ref C) "__class__" = some (some (.builtin "object.__class__"))
 m1:PySem.W.mroIn K C (.type "object")=some true
 m2:PySem.W.mroIn K C (.type "BaseException")=some true
def jA {M:Model}{h:Heap}{x C:Addr}{ox:Obj}(p:h.get? x=some ox)(hc:ox.cls = .ref C):PySem.W.Looks M h (typeOf (.ref x)) (.ref C):=hc ▸ (PySem.W.Looks.ld p).andThen .now
def kee {K:zFr}{x C:Addr}{ox:Obj}(c:zS K C)(hc:ox.cls = .ref C):PySem.W.KitX K (.ref x) (.ref C) (λh=>h.get? x=some ox) where
 ty:=λM h _ p=>jA p hc
 it:=λM h X _=>by
  obtain⟨_,_,_,_,_,_,_,_,_,_,_,_,_,_,_,_,_,oC,_⟩:=PySem.W.kts_cls X c.ks;intro A2 Q2 E2 s2 k q;unfold isType loadHead;exact zaa (wpAny_loadPart (k _ _ oC) (zab q))
 ne:=λh tp dd its n sl X q=>by
  obtain⟨_,_,_,_,_,_,_,_,_,_,_,_,_,_,_,_,_,oC,_⟩:=PySem.W.kts_cls X c.ks;refine Bool.eq_false_iff.mpr λz=>?_
  have e:=Value.ref.inj (beq_iff_eq.mp z);subst e;rw[oC]at q;have z:=congrArg Obj.cls (Option.some.inj q);have z:Value.type "type" = Value.type "tuple":=z
  injection z with z
  exact absurd z (by decide)
 ca:=λX p k=>kca X (λM=>jA p hc) c.g1 c.g2 c.g3 c.m1 c.m2 k
def JA {Y:Cx}{ea C:Addr}{oe:Obj}{cv:V}{cu:Value}{b:Bool}(c:zS Y.K C)(hp:(ea,oe)∈Y.pn)(hc:oe.cls = .ref C)(hu:∀u,RelV cv u->u=cu)(hk:PySem.W.kitOne Y.K (.ref C) cu=some b) :
 Kv Y (.builtin "isinstance") (λxs H Q=>xs=[.ref ea,cv]/\Q (.bl b) H):=by
 intro pins s σ H xs us Q I r ⟨e,q⟩;subst e;obtain⟨u,v,rfl,ru,rc⟩:=vals2 r;cases (show u=Value.ref ea from ru);cases hu v rc;exact PySem.W.kia_one (kee c hc) I.kIn (I.pin _ (List.mem_append_left _ hp)).1 hk (λz=>nomatch z) λtk=>⟨.bl b,H,I.tok tk,rfl,q⟩
def tOf (i:Nat)(ea:Addr)(v:V):TE:=λσ H Q=>σ[i]?=some (some (.ref ea))/\Q v H
section
variable {Y:Cx}{ea C:Addr}{oe:Obj}{i:Nat}{n T:Str}{b:Bool}{p1 p2 p3 pos:Pos}
def qK {C2:Addr}(c:zS Y.K C)(hp:(ea,oe)∈Y.pn)(hc:oe.cls = .ref C)(hk:PySem.W.kitOne Y.K (.ref C) (.ref C2)=some b)(hm:Y.mg "isinstance" = none)(hT:Y.mg T=some (.ref C2))
 (hN:Y.N[i]?=some n:=by rfl) (hv:Vis Y.env.scope n:=by first | exact Or.inl rfl | exact Or.inr (Or.inl rfl) | exact Or.inr (Or.inr rfl)) (hd:(n==("__debug__":Str))=false:=by decide) (hcd:(n==("__classdict__":Str))=false:=by decide)
 (hb:bootBuiltins "isinstance" = some (.builtin "isinstance"):=by kernel_rfl) (hg:Gl Y "isinstance":=by rfl) (hgT:Gl Y T:=by rfl) (hdT:(T==("__debug__":Str))=false:=by decide)
 (he:starEach [.Name n p2,.Name T p3] Y.env=(false,eval (.Name n p2) Y.env)::starEach [.Name T p3] Y.env:=by rfl):PE Y (.Call (.Name "isinstance" p1) [.Name n p2,.Name T p3] [] pos) (tOf i ea (.bl b)):=by
 refine PE.imp (Wf (JA c hp hc (cv:=.ref C2) (λu r=>r) hk) hg hm hb (qE (xN hN hv hd hcd) (qE (Z2 (v:=.ref C2) hgT hT rfl hdT) vS) he) (he:=he)) λσ H Q ⟨e,q⟩=>?_
 exact⟨_,e,rfl,q⟩
def Xj {TT:String}(c:zS Y.K C)(hp:(ea,oe)∈Y.pn)(hc:oe.cls = .ref C)(hk:PySem.W.kitOne Y.K (.ref C) (.type TT)=some b)(hm:Y.mg "isinstance" = none)(hT:Y.mg T=none)(hbT:bootBuiltins T=some (.type TT):=by kernel_rfl)
 (hN:Y.N[i]?=some n:=by rfl) (hv:Vis Y.env.scope n:=by first | exact Or.inl rfl | exact Or.inr (Or.inl rfl) | exact Or.inr (Or.inr rfl)) (hd:(n==("__debug__":Str))=false:=by decide) (hcd:(n==("__classdict__":Str))=false:=by decide)
 (hb:bootBuiltins "isinstance" = some (.builtin "isinstance"):=by kernel_rfl) (hg:Gl Y "isinstance":=by rfl) (hgT:Gl Y T:=by rfl) (hnT:T ≠ "__name__":=by decide) (hdT:(T==("__debug__":Str))=false:=by decide)
 (he:starEach [.Name n p2,.Name T p3] Y.env=(false,eval (.Name n p2) Y.env)::starEach [.Name T p3] Y.env:=by rfl):PE Y (.Call (.Name "isinstance" p1) [.Name n p2,.Name T p3] [] pos) (tOf i ea (.bl b)):=by
 refine PE.imp (Wf (JA c hp hc (cv:=.ty TT) (λu r=>r) hk) hg hm hb (qE (xN hN hv hd hcd) (qE (kak (v:=.ty TT) hgT hT hbT rfl hnT hdT) vS) he) (he:=he)) λσ H Q ⟨e,q⟩=>?_
 exact⟨_,e,rfl,q⟩
end
abbrev _root_.L2.Cx.su (X:Cx)(p:List (Addr×Obj))(A':Around)(k:Bool)(E:zEx):Cx:={ X with pn:=p,xe:=E,A:=A',calm:=k }
def JO {X:Cx}{pins p:List (Addr×Obj)}{σ:L2.St}{H:Hp}{s:Shared}{A':Around}{k:Bool}{E:zEx}(I:Inv X pins σ H s)(hf:A'.frames=X.A.frames)(hd:k=true->A'.handled=none)
 (hp:∀q∈p,s.heap.get? q.1=some q.2/\H q.1=none/\q.1≠X.env.locals/\q.1∉X.fs/\∀v,q.2.data ≠ .cell v):Inv (X.su p A' k E) [] σ H s :=
 ⟨⟨I.ok.mod,I.ok.kind,I.ok.glob,I.ok.blt,I.ok.above,I.ok.inj,I.ok.has,I.ok.cab,hd,hf.trans I.ok.frames,I.ok.stk,I.ok.exf,I.ok.bs,I.ok.bsz,I.ok.noex,I.ok.exfs,I.ok.zZ,I.ok.frf⟩,
  I.os,I.bare,I.base,I.loc,I.cell,I.free,I.freeC,λq hq=>hp q (by rw[List.append_nil]at hq;exact hq),I.hok,I.len⟩
def Wa {X:Cx}{pins p pins':List (Addr×Obj)}{σ:L2.St}{H:Hp}{s:Shared}{A':Around}{k:Bool}{E:zEx}(I:Inv (X.su p A' k E) pins' σ H s)(ok:X.Ok)(hp:∀q∈X.pn++pins,q∈p):Inv X pins σ H s :=
 ⟨ok,I.os,I.bare,I.base,I.loc,I.cell,I.free,I.freeC,λq hq=>I.pin q (List.mem_append_left _ (hp q hq)),I.hok,I.len⟩
def Z0 {X:Cx}{pins:List (Addr×Obj)}{σ:L2.St}{H H':Hp}{s s':Shared}{C ea:Addr}{a0:Value}{B h:Heap}(I:Inv X pins σ H s)(F:Fly X.prog X.w X.stack H s C ea a0 B H' s')(hB:B.StaysIn h)(sm:s'.heap.UpToSlots h) :
 Inv X pins σ H' { s' with heap:=h }:=by
 have nin:∀b:Addr,b∉([]:List Addr):=λb=>by simp
 have slots:∀b o,s'.heap.get? b=some o->b∈frs X.stack->∃sl,h.get? b=some { o with slots:=sl }:=λb o q m=>by
  obtain⟨_,o',e',hd⟩:=F.fl.2.2.1.mem m;rw[q]at e';cases e';exact sm b o q hd
 refine I.keM (s':={ s' with heap:=h }) (ch:=[]) F.os ⟨λb o q n nb _=>?_,λb o q n hb _=>?_,F.un.free,λb o q _=>?_,F.un.tups,F.un.frzs,F.un.tbls⟩ (Y3 F.hok λb o u e q=>hB b u (F.tr b o u e q)) F.bare λb z=>absurd z (nin b)
 ·exact hB b o (F.old b o o q nb (F.un.keep b o q n nb (nin b)))
 ·obtain⟨sl,q1⟩:=F.un.slot b o q n hb (nin b);obtain⟨sl2,q2⟩:=slots b _ q1 hb;exact⟨sl2,q2⟩
 ·obtain⟨o1,q1⟩:=F.un.there b o q (nin b)
  by_cases m:b∈frs X.stack
  ·obtain⟨sl,q2⟩:=slots b o1 q1 m;exact⟨_,q2⟩
  ·exact⟨o1,hB b o1 (F.old b o o1 q m q1)⟩
def kdR {X:Cx}{pins:List (Addr×Obj)}{σ:L2.St}{H:Hp}{s:Shared}{h':Heap}{m':Str->Option Value}{t:Nat}(I:Inv X pins σ H s)(hn:h'.Ns X.env.locals m')(hs:Heap.SameBut X.env.locals s.heap h') :
 Inv X pins (List.replicate X.N.length none) H { s with heap:=h',toks:=t }:=by
 have neL:∀b o,X.s₀.heap.get? b=some o->b≠X.env.locals:=λb o e=>zas (Nat.lt_of_lt_of_le (zaf e) I.ok.above)
 refine⟨I.ok,I.os,I.bare,⟨λb o e n hb hx=>?_,λb o e n hb hx=>?_,I.base.free,λb o e hx=>?_,I.base.tups,I.base.frzs,I.base.tbls⟩,⟨m',hn,λi x v e1 e2=>?_⟩,λx c e=>?_,I.free,I.freeC,λp hp=>?_,Y3 I.hok λb o u e q=>?_,by simp⟩
 ·exact (hs.2 b (neL b o e)).trans (I.base.keep b o e n hb hx)
 ·obtain⟨sl,q⟩:=I.base.slot b o e n hb hx;exact⟨sl,(hs.2 b (neL b o e)).trans q⟩
 ·obtain⟨o',q⟩:=I.base.there b o e hx;exact⟨o',(hs.2 b (neL b o e)).trans q⟩
 ·rw[List.getElem?_replicate]at e2
  split at e2 <;> cases e2
 ·obtain⟨v,o,ho,hd⟩:=I.cell x c e;exact⟨v,o,(hs.2 c (I.cne x c e)).trans ho,hd⟩
 ·obtain⟨e,n,ne,nf,dd⟩:=I.pin p hp;exact⟨(hs.2 p.1 ne).trans e,n,ne,nf,dd⟩
 ·refine (hs.2 b λz=>?_).trans q;have:=I.free;rw[<- z,e]at this;cases this
abbrev CL (ca:Nat->Addr):Nat->Value:=λk=>.ref (ca k)
def FkX (PP:Program)(w:World)(K:zFr)(mg:Str->Option Value)(base:Heap)(cls:Nat->Value)(x:Str)(st:Stmt)(ps:List Str)(k:Nat)(m:P.Fn):Prop :=
 ∃a fd,Fn1 K mg x st ps a fd/\wg PP w K mg base (CXr PP w) k a fd ps (spP K cls ps.length m)
section
variable {PP:Program}{w:World}{K:zFr}{mg:Str->Option Value}{base:Heap}{cls cls':Nat->Value}{x:Str}{st:Stmt}{ps:List Str}{k:Nat}{m:P.Fn}
def fkx {f:Addr}{fd:FuncData}(c:Fn1 K mg x st ps f fd)(g:wg PP w K mg base (CXr PP w) k f fd ps (spP K cls ps.length m)):FkX PP w K mg base cls x st ps k m:=⟨f,fd,c,g⟩
def FkX.nox (h:FkX PP w K mg base cls x st ps k m):Fk PP w K mg base cls x st ps k (λds=>(m ds).nx):=by
 obtain⟨a,fd,c1,g⟩:=h;refine⟨a,fd,c1,λvs H Q E q=>q.1,λA outer s H args us vs Q E hr e0 hb r ⟨hl,Ah,ds,rr,bt,q⟩=>?_⟩;refine codeAny_mono (g.run A outer s H args us vs Q (λ_ _ _=>False) hr e0 hb r ⟨hl,Ah,ds,rr,bt,?_⟩) λres s' z=>?_
 · have q:match (m ds).nx with
     |.ok d=>∀v H',kB H H'->Rep K Ah H' d v->Q v H'
     |.exc c=>∀H',kB H H'->E (cls c) none H'
     |.stuck=>False:=q
   cases e:m ds with
   |ok d=>rw[e]at q;exact q
   |exc c=>rw[e]at q;exact q.elim
   |stuck=>rw[e]at q;exact q.elim
 ·cases res with
  |ok fl=>cases fl <;> exact z
  |error e=>
   obtain⟨_,_,_,_,_,_,_,y⟩:=z;exact y.elim
def kgq {a:Addr}{fd:FuncData}{CX:CXT}{n N:Nat}{f:P.FS}(F:wg PP w K mg base CX k a fd ps (spP K cls n (P.fnX N f))):wg PP w K mg base CX k a fd ps (spP K cls' n (P.fnX N f)) :=
 F.imp λvs H Q E ⟨hl,A,ds,rr,bt,q⟩=>⟨hl,A,ds,rr,bt,by
  have q:match (P.fnOf N f ds).nx with
   |.ok d=>∀v H',kB H H'->Rep K A H' d v->Q v H'
   |.exc c=>∀H',kB H H'->E (cls' c) none H'
   |.stuck=>False:=q
  show match (P.fnOf N f ds).nx with
   |.ok d=>∀v H',kB H H'->Rep K A H' d v->Q v H'
   |.exc c=>∀H',kB H H'->E (cls c) none H'
   |.stuck=>False
  cases e:P.fnOf N f ds with
  |ok d=>rw[e]at q;exact q
  |exc c=>rw[e]at q;exact q.elim
  |stuck=>rw[e]at q;exact q.elim⟩
end
section
variable {X:Cx}{own:List Bool}{A:List Addr}{E:Nat->Hp->Prop}{e:Expr}{es:List Expr}{fr:P.FA}{pos:Pos}{wk:Bool}
def qd {cls:Nat->Value}{k j:Nat}{st:Stmt}{ps:List Str}{m:P.Fn}{x:Str}{p:Pos}(c:FkX X.prog X.w X.K X.mg X.base cls x st ps k m)(hr:qU j X.A)(hp:Passes (CXr X.prog X.w) X (yb cls E))(ha:Qf X own A E false (e::es) fr)(hkj:k<=j:=by decide)(hn:(e::es).length=ps.length:=by rfl)
 (hg:Gl X x:=by rfl) (hdb:(x==("__debug__":Str))=false:=by decide) (he:starEach (e::es) X.env=(false,eval e X.env)::starEach es X.env:=by rfl) (hpl:(backTo pos (starEach es X.env)).any (·.1)=false:=by rfl) :
 Snd X own A E wk (.Call (.Name x p) (e::es) [] pos) (kF m fr):=by
 obtain⟨a,fd,c1,g⟩:=c;exact uy g (hr.mono hkj) c1.m c1.F.kp c1.b hp ha hn hg hdb he hpl
end
section
variable {K:zFr}{C:Addr}
def khQ (ex:PySem.W.excIn K C bmV "ValueError.__new__" = true)(ks:PySem.W.ktsIn K C "BaseException" = true)(g1:PySem.W.findIn K (.ref C) "__getattribute__" = some (some (.builtin "BaseException.__getattribute__")))
 (g2:PySem.W.findIn K (.ref C) "__getattr__" = some none) (g3:PySem.W.findIn K (.ref C) "__class__" = some (some (.builtin "object.__class__"))) (m1:PySem.W.mroIn K C (.type "object")=some true) (m2:PySem.W.mroIn K C (.type "BaseException")=some true):zS K C :=
 ⟨ex,ks,g1,g2,g3,m1,m2⟩
end
end L3
namespace L3
open P (D Rs Out)
def qX {N:Nat}(f:P.FS){n:Nat}(ds:List D)(_:ds.length=n):P.fnOf N f ds = .stuck∨P.fnOf N f ds=P.fnOf N f ds:=.inr rfl
end L3
namespace L3
open PySem PySem.Spec PyProof.Rows L2
open P (D Rs Out)
def kY.grow {K:zFr}{own:List Bool}{A B:List Addr}{env:P.Env}{σ:L2.St}{H H':Hp}{p:Addr}(ok:kY K own A B env σ H)(hp:H p=none)(s:kB H H')(hm:∃o,H' p=some o/\Mut (some o)):kY K own A (p::B) env σ H' where
 len:=ok.len
 val:=λj d' h1 h2=>by
  obtain⟨u,a,b⟩:=ok.val j d' h1 h2;exact⟨u,a,Rep.kp (Kp.of_same s) (Rep.more hp b)⟩
 owd:=λj d' h1 h2=>by
  obtain⟨q,a,b,n,c⟩:=ok.owd j d' h1 h2;exact⟨q,a,zah _ b,n,c.more hp s⟩
 ap:=ok.ap
 bt:=λb hb=>by
  rcases List.mem_cons.mp hb with e | hb
  ·rw[e];exact hm
  ·obtain⟨xs,q,m⟩:=ok.bt b hb;exact⟨xs,s _ _ q,m⟩
section
variable {X:Cx}{own:List Bool}{A:List Addr}{E:Nat->Hp->Prop}{H₀:Hp}{pos:Pos}{ek ev:Expr}{fk fv:P.FE}
def kbn (hu:X.A.units+9 < cLine)(hk:Snd X own A E false ek fk)(hv:Snd X own A E false ev fv):qF X own A E (.Dict [some ek] [ev] pos) (kaq fk fv):=by
 intro pins s σ H Q I ⟨B,env,ok,h⟩;have hfr:H s.heap.objs.size=none:=I.hok.fresh (zak _);have hb:=Inv.big I;have hd:vc s.heap.objs.size [] (s.heap.push { cls:=.type "dict",data:=.dict #[] }):=⟨_,#[],0,zag _ rfl,⟨rfl,rfl,rfl⟩,rfl,rfl⟩;generalize hp:s.heap.objs.size=p at hfr hd hb;have keepφ:∀ (xs:List (D×Value×Value)) (h1 h2:Heap),vc p xs h1->(∀o,h1.get? p=some o->h2.get? p=some o)->vc p xs h2:=λxs h1 h2 ⟨o,es,ep,z1,z2⟩ hk=>⟨o,es,ep,hk _ z1,z2⟩
 have I1:Inv X pins σ (upd H p (.ext (vc p []))) { s with heap:=s.heap.push { cls:=.type "dict",data:=.dict #[] } } :=
  I.laid (t':=s.toks) (λb o e=>zac _ e) (by omega) ⟨hd,(by obtain⟨o,_,_,e,_⟩:=hd;exact⟨o,e⟩),keepφ []⟩
 have ok1:kY X.K own A (p::B) env σ (upd H p (.ext (vc p []))):=ok.grow hfr (kB.upd hfr) ⟨_,k9,trivial⟩;refine wpAny_Dict_any rfl rfl (by simp) (by simp) (pairTrees_cons_walk ?_);rw[hp]
 have h:match (fk env>>=λk=>fv env>>=λv=>if k.tk then Rs.ok (D.dic [k] [v]) else .stuck) with
  |.ok d=>∀v H',kB H H'->FrL X.K B H H' d v->Q v H'
  |.exc c=>∀H',kB H H'->E c H'
  |.stuck=>False:=h
 have sm1:kB H (upd H p (.ext (vc p []))):=kB.upd hfr
 cases q1:fk env with
 |stuck=>rw[q1]at h;exact h.elim
 |exc c=>
  rw[q1]at h;refine thn (hk pins _ σ _ (λ_ _=>False) I1 ⟨p::B,env,ok1,?_⟩) λu s2 ⟨_,_,_,_,z⟩=>z.elim
  rw[q1];exact λH' z=>h H' (sm1.trans z)
 |ok k=>
  rw[q1]at h;refine thn (hk pins _ σ _ (λv H2=>kB (upd H p (.ext (vc p []))) H2/\Rep X.K (p::B) H2 k v) I1 ⟨p::B,env,ok1,by rw[q1];exact λv H' a b=>⟨a,b⟩⟩) λuk s2 y=>?_
  obtain⟨vk,H2,I2,rk,sm2,rep2⟩:=y;have ok2:=ok1.same sm2
  cases q2:fv env with
  |stuck=>
   have h:match (fv env>>=λv=>if k.tk then Rs.ok (D.dic [k] [v]) else .stuck) with
    |.ok d=>∀v H',kB H H'->FrL X.K B H H' d v->Q v H'
    |.exc c=>∀H',kB H H'->E c H'
    |.stuck=>False:=h
   rw[q2]at h;exact h.elim
  |exc c=>
   have h:match (fv env>>=λv=>if k.tk then Rs.ok (D.dic [k] [v]) else .stuck) with
    |.ok d=>∀v H',kB H H'->FrL X.K B H H' d v->Q v H'
    |.exc c=>∀H',kB H H'->E c H'
    |.stuck=>False:=h
   rw[q2]at h;refine thn (hv pins _ σ _ (λ_ _=>False) I2 ⟨p::B,env,ok2,?_⟩) λu s3 ⟨_,_,_,_,z⟩=>z.elim
   rw[q2];exact λH' z=>h H' ((sm1.trans sm2).trans z)
  |ok d=>
   have h:match (fv env>>=λv=>if k.tk then Rs.ok (D.dic [k] [v]) else .stuck) with
    |.ok d=>∀v H',kB H H'->FrL X.K B H H' d v->Q v H'
    |.exc c=>∀H',kB H H'->E c H'
    |.stuck=>False:=h
   rw[q2]at h
   have h:match (if k.tk then Rs.ok (D.dic [k] [d]) else .stuck) with
    |.ok d=>∀v H',kB H H'->FrL X.K B H H' d v->Q v H'
    |.exc c=>∀H',kB H H'->E c H'
    |.stuck=>False:=h
   cases tk:k.tk with
   |false=>rw[tk]at h;exact h.elim
   |true=>
    rw[tk]at h;have h:∀v H',kB H H'->FrL X.K B H H' (.dic [k] [d]) v->Q v H':=h
    refine thn (hv pins _ σ _ (λv H3=>kB H2 H3/\Rep X.K (p::B) H3 d v) I2 ⟨p::B,env,ok2,by rw[q2];exact λv H' a b=>⟨a,b⟩⟩) λuv s3 y=>?_
    obtain⟨vv,H3,I3,rv,sm3,rep3⟩:=y;have ep:H3 p=some (.ext (vc p [])):=sm3 _ _ (sm2 _ _ k9);have repk:Rep X.K (p::B) H3 k vk:=Rep.kp (Kp.of_same sm3) rep2;obtain⟨a,rfl,ea,is⟩:=key_is I3 tk repk.top rk;obtain⟨hdi,_,_⟩:=I3.hok _ _ ep;refine pairTrees_nil_walk ?_;unfold storeAll;rw[List.forIn_cons];refine zaa (zaa (wpAny_dictSet_heap (knd:=xq X.prog X.w) (show X.A.units+8 < cLine by omega) is (ZL (ys:=[]) hdi (λy hy=>nomatch hy) .nil) λh' dd' hs=>zab ?_));show wpAny _ _ (pure PUnit.unit) _ _ _;refine zab ?_;obtain⟨o',es',ep',g1,g2,g3,g4,_,g6⟩:=dd';have st:storedH ([]:List (D×Addr×Value)) k a uv=[(k,a,uv)]:=rfl
    rw[st]at g4 g6;have gi:vc p [(k,.ref a,uv)] h':=⟨o',es',ep',g1,g2,g3,by rw[g4];rfl⟩
    have I4:Inv X pins σ (upd H3 p (.ext (vc p [(k,.ref a,uv)]))) { s3 with heap:=h',toks:=s3.toks+(xq X.prog X.w).draws k } :=
     I3.write (x:=p) (e:=p) (by rw[ep];exact True.intro) (.inl rfl) (λb q hb z=>(hs.2 b hb).trans z) ⟨o',g1⟩ ⟨gi,⟨o',g1⟩,keepφ _⟩
    have np:∀b o,H b=some o->b≠p:=λb o e z=>by rw[z,hfr]at e;cases e
    have sm:kB H (upd H3 p (.ext (vc p [(k,.ref a,uv)]))):=λb o e=>by
     rw[qm (np b o e)];exact sm3 _ _ (sm2 _ _ (sm1 _ _ e))
    have kp:Kp (p::B) H3 (upd H3 p (.ext (vc p [(k,.ref a,uv)]))):=Kp.chg zaj ⟨_,ep,trivial⟩;have mk:kE X.K (p::B) (upd H3 p (.ext (vc p [(k,.ref a,uv)]))) [k] [vk]:=kE.kp kp ⟨vk,[],rfl,repk,rfl⟩;have mv:kE X.K (p::B) (upd H3 p (.ext (vc p [(k,.ref a,uv)]))) [d] [vv]:=kE.kp kp ⟨vv,[],rfl,rep3,rfl⟩;refine⟨.ref p,_,I4,rfl,h _ _ sm ⟨p,rfl,hfr,[(k,.ref a,uv)],[vk],[vv],k9,⟨beq_eq_false_iff_ne.mpr (Nat.ne_of_gt hb),(show 1<=sizeLine by decide),rfl,by simp,λz hz=>?_⟩,.cons ?_ .nil,.cons rv .nil,mk,mv⟩⟩
    ·rw[List.mem_singleton.mp hz];exact tk
    ·exact rk
end
end L3
namespace HT
open PySem PySem.Spec PyProof.Rows
end HT
namespace L3
open PySem PySem.Spec PyProof.Rows L2
open P (D Rs Out)
section
variable {X:Cx}{own:List Bool}{A:List Addr}{E:Nat->Hp->Prop}{H₀:Hp}{pos p2 p3 p4:Pos}{a:Expr}{fa:P.FE}{w:Bool}
def kfU {i k:Nat}{x y:Str}{p5:Pos}(hnd:X.N.Nodup)(ho:own[i]?=some true:=by rfl)(hk:own[k]?≠some true:=by decide)(hN:X.N[i]?=some x:=by rfl)(hK:X.N[k]?=some y:=by rfl)
 (hv:Vis X.env.scope x:=by first | exact Or.inl rfl | exact Or.inr (Or.inl rfl) | exact Or.inr (Or.inr rfl)) (hx:Loc X.env.scope y:=by first | exact Or.inl rfl | exact Or.inr rfl) (hd:(x==("__debug__":Str))=false:=by decide)
 (hcd:(x==("__classdict__":Str))=false:=by decide) (hbase:attributeBase (.Name x p2) "pop" X.env (eval (.Name x p2) X.env)=eval (.Name x p2) X.env:=by rfl) (hline:(p3.endLine==p4.line)=true:=by rfl)
 (hs:swapsWith (.Call (.Attribute (.Name x p2) "pop" p3) [] [] p4) (some (.Name y p5)) pos.line X.env=pure false:=by rfl) (hf:X.fn y=true∨X.env.scope.names.lookup y=some .local:=by first | exact .inl rfl | exact .inr rfl | assumption) :
 yC X own A E H₀ (.Assign [.Name y p5] (.Call (.Attribute (.Name x p2) "pop" p3) [] [] p4) pos) (kc7 k i):=by
 refine PS.ZS (YZ hnd hK hx (kgS PySem.F.plainAttrs_list PySem.F.slot_list_pop PySem.F.type_list_pop khR (xN hN hv hd hcd) hbase hline) hs hf) λD σ H hl ⟨B,env,ok,st,h⟩=>?_
 have hk':k < σ.length:=by rw[hl];exact (List.getElem?_eq_some_iff.mp hK).1
 unfold kc7 at h;split at h
 ·rename_i xs q;split at h
  ·rename_i d ed;obtain⟨p,hp,hb,hn,us,hH,r⟩:=ok.owd i _ q ho;have ne:xs≠[]:=by intro z;rw[z]at ed;cases ed
   have lx:0 < xs.length:=List.length_pos_iff.mpr ne;have eg:xs[xs.length - 1]?=some d:=by rw[<- List.getLast?_eq_getElem?];exact ed
   obtain⟨v,hv1,rv⟩:=kE.get r eg;have lu:us.length=xs.length:=r.length
   have rd:kE X.K B H xs.dropLast us.dropLast:=by
    rw[List.dropLast_eq_take,List.dropLast_eq_take,lu];exact kE.take _ r
   obtain⟨ok2,k2⟩:=ok.chg ho q hp hb hn ⟨us,hH⟩ rd;refine⟨_,hp,.inl ⟨rfl,us,SqL.of hH⟩,p,us,v,rfl,rfl,hH,by rw[lu];exact hv1,?_⟩;exact h B _ _ (ok2.set hk hk' (Rep.kp k2 rv)) (st.chg hb hn) ⟨k2,λ_ z=>.inl z⟩
  ·exact h.elim
 ·exact h.elim
end
section
variable {X:Cx}
def kco:Q3 X (.type "int") Jh:=by
 refine⟨λds c h=>?_,λpins s σ H vs us Q I r ⟨B,ds,d,rr,bt,hg,q⟩=>?_⟩
 ·unfold Jh at h
  split at h <;> cases h
 ·unfold Jh at hg;split at hg
  ·cases hg;obtain⟨v,rfl,rv⟩:=vX rr;exact jN pins s σ H _ us Q I r (.inl ⟨_,by rw[show v=_ from rv],q _ H (kB.refl _) rfl⟩)
  ·cases hg;obtain⟨v,rfl,rv⟩:=vX rr;exact jN pins s σ H _ us Q I r (.inr ⟨_,by rw[show v=_ from rv],q _ H (kB.refl _) rfl⟩)
  ·cases hg
def kdK {prog:Program}{w:World}{A:Around}{E:zEx}{s:Shared}{d:Addr}{xs:List (D×Value×Value)}{Q:zEx}(hd:(d==sysModules)=false)(hm:vc d xs s.heap)(hfit:(xs.length:Int) < 2 ^ 63)
 (h:Q (.int xs.length (s.toks+1)) { s with toks:=s.toks+1+1 }):wpAny (model prog w) A (call (.builtin "len") [.ref d]) Q E s:=by
 obtain⟨o,es,ep,ho,hc,hdat,hp⟩:=hm;have el:es.size=xs.length:=by rw[<- zao,hp,zai]
 have ty:s.TypeIs (.ref d) "dict":=⟨o,ho,hc.1⟩;refine Calls.call_function_entry kind_len plain_len entry_len (args_len1 _) (zaa (m:=oneArg "len" _) (zab (zaa (wpAny_callSpecial?_slot (name:="__len__") ty F.slot_dict_len (wpAny_call_entry F.slot_dict_len ty F.entry_dict_len ?_ (F.args_dict_len_1 _))))))
 wp_walk using wpAny_dictEntries ho hdat,wpAny_pendingCount_other hd
 refine⟨_,rfl,zaa (wpAny_holding (zab (zaa (wpAny_letGo ?_))))⟩;have ev:((es.size:Int)+((0:Nat):Int))=xs.length:=by rw[el];exact Int.add_zero _
 have lo:¬ ((xs.length:Nat):Int) < 0:=Int.not_lt.mpr (Int.natCast_nonneg _);have hi:¬ ((xs.length:Nat):Int) ≥ 2 ^ 63:=Int.not_le.mpr hfit;rw[ev];dsimp only;rw[if_neg lo,if_neg hi];exact zaa (wpAny_mkInt (zab ⟨.int xs.length (s.toks+1),rfl,h⟩))
def kaI:Q3 X (.builtin "len") j9:=by
 refine⟨λds c h=>?_,λpins s σ H vs us Q I r ⟨B,ds,d,rr,bt,hg,q⟩=>?_⟩
 ·unfold j9 at h
  split at h <;> cases h
 ·unfold j9 at hg
  split at hg
  ·rename_i ks vs
   cases hg;obtain⟨v,rfl,rv⟩:=vX rr;obtain⟨p,xs,kv,ws,rfl,e,dk,a1,a2,a3,a4⟩:=rv
   cases r with
   |cons r1 r2=>
    cases r2;cases r1;obtain⟨hdi,_,_⟩:=I.hok _ _ e;have el:xs.length=ks.length:=by rw[<- dk.keys,zai]
    have hz:=dk.len;refine kdK dk.sys hdi ?_ ?_
    ·have:sizeLine < 2 ^ 62:=by decide
     omega
    ·refine⟨.int _,H,I.tok (s.toks+1+1),⟨_,rfl⟩,?_⟩
     rw[el];exact q _ H (kB.refl _) rfl
  ·cases hg
end
section
variable {prog:Program}{w:World}{A:Around}{E:zEx}{s:Shared}
def YK (z TO i1 i2:Addr)(h h':Heap):Prop:=∀c o,c≠z->c≠TO->c≠i1->c≠i2->h.get? c=some o->h'.get? c=some o
def kfb {z TI TO i1 i2 l1 l2:Addr}{k:Nat}{xs ys:Array Value}{u v:Value}{R:zEx}(W:ZipApart z TI TO i1 i2 l1 l2)(hz:IsZip s.heap z TI TO .none)(pI:IsPair s.heap TI (.ref i1) (.ref i2))(pO:IsPair s.heap TO u v)
 (q1:s.heap.IsTupleIter i1 l1 k) (q2:s.heap.IsTupleIter i2 l2 k) (t1:s.heap.IsTuple l1 xs) (t2:s.heap.IsTuple l2 ys)
 (go:∀x y,xs[k]?=some x->ys[k]?=some y->∀h',IsZip h' z TI TO (rawInt s.heap.objs.size)->IsPair h' TO x y->h'.IsTupleIter i1 l1 (k+1)->h'.IsTupleIter i2 l2 (k+1)->IsPair h' s.heap.objs.size x y->YK z TO i1 i2 s.heap h'->R (.ref s.heap.objs.size) { s with heap:=h' })
 (stop:xs[k]?=none∨ys[k]?=none->A.handled=none/\∀h' e,YK z TO i1 i2 s.heap h'->(∃o,h'.get? e=some o/\o.cls = .type "StopIteration")->E (.ref e) { s with heap:=h' }) :
 wpAny (model prog w) A (Builtin.«zip.__next__» ⟨[.ref z],[]⟩) (λfin s'=>∃r,fin = .done (.ret r)/\R r s') E s:=by
 refine zaa (m:=field (.ref z) 2) (wpAny_field hz rfl (x:=.bool false) rfl (zaa (m:=field (.ref z) 3) (wpAny_field hz rfl (x:=.ref TI) rfl (zaa (wpAny_seqItems pI rfl ?_)))));refine zaa (m:=Builtin.SmallTypes.ownedTupleIsFree (.ref z)) ?_;unfold Builtin.SmallTypes.ownedTupleIsFree;refine zaa (wpAny_field hz rfl (x:=.none) rfl (zab (zaa (wpAny_rule (zaa (wpAny_field hz rfl (x:=.ref TO) rfl (zaa (wpAny_setField_rec hz (by simp) λh1 z1 k1=>?_))))))));have z1:IsZip h1 z TI TO .ellipsis:=z1;refine zaa ?_;rw[show (#[Value.ref i1,.ref i2]:Array Value).toList.zipIdx=[(.ref i1,0),(.ref i2,1)] from rfl]
 simp only[List.forIn_nil,List.forIn_cons];refine zaa (zaa (wpAny_onRaise (zaa (m:=Builtin.SmallTypes.nextOf (.ref i1)) (XG (q1.extBut k1.extBut W.i1z) (t1.extBut k1.extBut W.l1z) (λx hx h2 q1' k2=>zab ?_) λhx=>?_))))
 ·have pO2:IsPair h2 TO u v:=k2.extBut _ _ W.TOi1 (k1.extBut _ _ W.TOz pO);refine zaa (wpAny_seqItems pO2 rfl (zaa (wpAny_updateSeq_pair pO2 λh3 pO3 k3=>zaa (wpAny_letGo (zab ?_)))));have pO3:IsPair h3 TO x v:=pO3;refine zaa (zaa (wpAny_onRaise (zaa (m:=Builtin.SmallTypes.nextOf (.ref i2)) (XG (((q2.extBut k1.extBut W.i2z).extBut k2.extBut W.i12.symm).extBut k3.extBut W.TOi2.symm) (((t2.extBut k1.extBut W.l2z).extBut k2.extBut W.l2i1).extBut k3.extBut W.l2TO) (λy hy h4 q2' k4=>zab ?_) λhy=>?_))))
  ·have pO4:IsPair h4 TO x v:=k4.extBut _ _ W.TOi2 pO3;refine zaa (wpAny_seqItems pO4 rfl (zaa (wpAny_updateSeq_pair pO4 λh5 pO5 k5=>zaa (wpAny_letGo (zab ?_)))));have pO5:IsPair h5 TO x y:=pO5;refine zab (zaa (wpAny_seqItems pO5 rfl (zaa (wpAny_newTuple (zaa (m:=Builtin.SmallTypes.ownedTupleHandOut (.ref z) (.ref h5.objs.size)) ?_)))));have ez:h5.objs.size=s.heap.objs.size:=by rw[k5.1,k4.1,k3.1,k2.1,k1.1]
   have z5:IsZip h5 z TI TO .ellipsis:=k5.extBut _ _ W.TOz.symm (k4.extBut _ _ W.i2z.symm (k3.extBut _ _ W.TOz.symm (k2.extBut _ _ W.i1z.symm z1)));have keep5:YK z TO i1 i2 s.heap h5:=λc o c1 c2 c3 c4 e=>k5.extBut _ _ c2 (k4.extBut _ _ c4 (k3.extBut _ _ c2 (k2.extBut _ _ c3 (k1.extBut _ _ c1 e))))
   have a1:h5.IsTupleIter i1 l1 (k+1):=((q1'.extBut k3.extBut W.TOi1.symm).extBut k4.extBut W.i12).extBut k5.extBut W.TOi1.symm;have a2:h5.IsTupleIter i2 l2 (k+1):=q2'.extBut k5.extBut W.TOi2.symm;have lz:z < h5.objs.size:=zaf z5;unfold Builtin.SmallTypes.ownedTupleHandOut;have z6:IsZip (h5.push { cls:=.type "tuple",data:=.seq #[x,y] }) z TI TO .ellipsis:=zac _ z5;refine zaa (wpAny_setField_rec z6 (by simp) λh7 z7 k7=>?_);have z7:IsZip h7 z TI TO (rawInt h5.objs.size):=z7;refine wpAny_setField_rec z7 (by simp) λh8 z8 k8=>zab ⟨_,rfl,?_⟩
   have z8:IsZip h8 z TI TO (rawInt h5.objs.size):=z8;have up:∀c o,c≠z->h5.get? c=some o->h8.get? c=some o:=λc o c1 e=>k8.extBut _ _ c1 (k7.extBut _ _ c1 (zac _ e))
   have new8:IsPair h8 h5.objs.size x y:=k8.extBut _ _ (Nat.ne_of_gt lz) (k7.extBut _ _ (Nat.ne_of_gt lz) (zag _ rfl));rw[ez]at z8 new8;show R (.ref h5.objs.size) { s with heap:=h8 };rw[ez];exact go x y hx hy h8 z8 (up _ _ W.TOz pO5) (a1.extBut (λb o hb e=>up b o hb e) W.i1z) (a2.extBut (λb o hb e=>up b o hb e) W.i2z) new8 λc o c1 c2 c3 c4 e=>up c o c1 (keep5 c o c1 c2 c3 c4 e)
  ·obtain⟨hh,hE⟩:=stop (.inr hy);refine⟨hh,λh4 e k4 ⟨oe,ge,ce⟩=>?_⟩;have z4:IsZip h4 z TI TO .ellipsis:=k4 _ _ W.i2z.symm (k3.extBut _ _ W.TOz.symm (k2.extBut _ _ W.i1z.symm z1));have ne:e≠z:=λq=>by rw[q,z4]at ge;cases ge;simp at ce
   exact wpAny_setField_rec z4 (by simp) λh5 _ k5=>hE h5 e (λc o c1 c2 c3 c4 q=>k5.extBut _ _ c1 (k4 _ _ c4 (k3.extBut _ _ c2 (k2.extBut _ _ c3 (k1.extBut _ _ c1 q))))) ⟨oe,k5.extBut _ _ ne ge,ce⟩
 ·obtain⟨hh,hE⟩:=stop (.inl hx);refine⟨hh,λh2 e k2 ⟨oe,ge,ce⟩=>?_⟩;have z2:IsZip h2 z TI TO .ellipsis:=k2 _ _ W.i1z.symm z1;have ne:e≠z:=λq=>by rw[q,z2]at ge;cases ge;simp at ce
  exact wpAny_setField_rec z2 (by simp) λh3 _ k3=>hE h3 e (λc o c1 _ c3 _ q=>k3.extBut _ _ c1 (k2 _ _ c3 (k1.extBut _ _ c1 q))) ⟨oe,k3.extBut _ _ ne ge,ce⟩
def UL {z TI TO i1 i2 l1 l2:Addr}{k:Nat}{xs ys:Array Value}{u v:Value}{R:Option Value->Shared->Prop}(W:ZipApart z TI TO i1 i2 l1 l2)(hz:IsZip s.heap z TI TO .none)(pI:IsPair s.heap TI (.ref i1) (.ref i2))(pO:IsPair s.heap TO u v)
 (q1:s.heap.IsTupleIter i1 l1 k) (q2:s.heap.IsTupleIter i2 l2 k) (t1:s.heap.IsTuple l1 xs) (t2:s.heap.IsTuple l2 ys)
 (go:∀x y,xs[k]?=some x->ys[k]?=some y->∀h',IsZip h' z TI TO (rawInt s.heap.objs.size)->IsPair h' TO x y->h'.IsTupleIter i1 l1 (k+1)->h'.IsTupleIter i2 l2 (k+1)->IsPair h' s.heap.objs.size x y->YK z TO i1 i2 s.heap h'->R (some (.ref s.heap.objs.size)) { s with heap:=h' })
 (stop:xs[k]?=none∨ys[k]?=none->A.in1.handled=none/\∀h',YK z TO i1 i2 s.heap h'->R none { s with heap:=h' }) :
 wpAny (model prog w) A (pyNext (.ref z)) R E s:=by
 have ty:s.TypeIs (.ref z) "zip":=⟨_,hz,rfl⟩;unfold pyNext
 refine zaa (wpAny_attempt (wpAny_callSpecial?_slot (name:="__next__") ty F.slot_zip_next (wpAny_call_entry F.slot_zip_next ty F.entry_zip_next
  (kfb W hz pI pO q1 q2 t1 t2 (λx y hx hy h' a b c d e f=>zab (go x y hx hy h' a b c d e f)) λq=>?_) (F.args_zip_next_1 _))))
 obtain⟨hh,hQ⟩:=stop q;refine⟨hh,λh' e kp ⟨o,ho,hc⟩=>zaa (wpAny_isInstance (b:=true) (T:="StopIteration") ⟨o,ho,hc⟩ isSubtype_stop (zab (hQ _ kp)))⟩
structure YJ (h h':Heap)(l1 l2:Addr):Prop where
 zi:IsZip h' (h.objs.size+4) (h.objs.size+2) (h.objs.size+3) .none
 pI:IsPair h' (h.objs.size+2) (.ref h.objs.size) (.ref (h.objs.size+1))
 pO:IsPair h' (h.objs.size+3) .none .none
 q1:h'.IsTupleIter h.objs.size l1 0
 q2:h'.IsTupleIter (h.objs.size+1) l2 0
 keep:∀b o,h.get? b=some o->h'.get? b=some o
def kgE {h a b c d f:Heap}{l1 l2:Addr}(ea:a=h.push { cls:=.type "tuple_iterator",data:=.fields #[.ref l1,.int 0 0] })(eb:b=a.push { cls:=.type "tuple_iterator",data:=.fields #[.ref l2,.int 0 0] })
 (ec:c=b.push { cls:=.type "tuple",data:=.seq #[.ref h.objs.size,.ref a.objs.size] }) (ed:d=c.push { cls:=.type "tuple",data:=.seq #[.none,.none] })
 (ef:f=d.push { cls:=.type "zip",data:=.fields #[.none,.bool false,.bool false,.ref b.objs.size,.ref c.objs.size] }):YJ h f l1 l2/\d.objs.size=h.objs.size+4:=by
 have sa:a.objs.size=h.objs.size+1:=by rw[ea];exact Heap.size_push ..
 have sb:b.objs.size=h.objs.size+2:=by rw[eb,Heap.size_push,sa]
 have sc:c.objs.size=h.objs.size+3:=by rw[ec,Heap.size_push,sb]
 have sd:d.objs.size=h.objs.size+4:=by rw[ed,Heap.size_push,sc]
 have ga:a.get? h.objs.size=some { cls:=.type "tuple_iterator",data:=.fields #[.ref l1,.int 0 0] }:=by rw[ea];exact zag _ rfl
 have gb:b.get? a.objs.size=some { cls:=.type "tuple_iterator",data:=.fields #[.ref l2,.int 0 0] }:=by rw[eb];exact zag _ rfl
 have gc:c.get? b.objs.size=some { cls:=.type "tuple",data:=.seq #[.ref h.objs.size,.ref a.objs.size] }:=by rw[ec];exact zag _ rfl
 have gd:d.get? c.objs.size=some { cls:=.type "tuple",data:=.seq #[.none,.none] }:=by rw[ed];exact zag _ rfl
 have gf:f.get? d.objs.size=some { cls:=.type "zip",data:=.fields #[.none,.bool false,.bool false,.ref b.objs.size,.ref c.objs.size] }:=by rw[ef];exact zag _ rfl
 have uf:∀x o,d.get? x=some o->f.get? x=some o:=λx o e=>by rw[ef];exact zac _ e
 have ud:∀x o,c.get? x=some o->f.get? x=some o:=λx o e=>uf x o (by rw[ed];exact zac _ e)
 have uc:∀x o,b.get? x=some o->f.get? x=some o:=λx o e=>ud x o (by rw[ec];exact zac _ e)
 have ub:∀x o,a.get? x=some o->f.get? x=some o:=λx o e=>uc x o (by rw[eb];exact zac _ e)
 have ua:∀x o,h.get? x=some o->f.get? x=some o:=λx o e=>ub x o (by rw[ea];exact zac _ e)
 have kf:=gf;have kd:=uf _ _ gd;have kc:=ud _ _ gc;have kb:=uc _ _ gb;rw[sb,sc,sd]at kf;rw[sc]at kd;rw[sa,sb]at kc;rw[sa]at kb;exact⟨⟨kf,kc,kd,⟨_,ub _ _ ga,rfl,rfl⟩,⟨_,kb,rfl,rfl⟩,ua⟩,sd⟩
def kgO (l1 l2:Addr):Meets (Builtin.«zip.__new__» ⟨[.type "zip",.ref l1,.ref l2],[]⟩) (λ_ R s=>(∃us,s.heap.IsTuple l1 us)/\(∃us,s.heap.IsTuple l2 us)/\∀h',YJ s.heap h' l1 l2->R (.ok (.ret (.ref (s.heap.objs.size+4)))) { s with heap:=h' }):=by
 refine .of_wp λprog w A R s ⟨⟨us,T1⟩,⟨us2,T2⟩,h⟩=>?_
 have hsub:=sub_zip
 have T2':Heap.IsTuple (Shared.heap { s with heap:=s.heap.push { cls:=.type "tuple_iterator",data:=.fields #[.ref l1,.int 0 0] } }) l2 us2:=by
  obtain⟨o,e,r⟩:=T2;exact⟨o,zac _ e,r⟩
 have fin:∀h' r,YJ s.heap h' l1 l2->r = .ref (s.heap.objs.size+4)->R (.ok (.ret r)) { s with heap:=h' }:=λh' r z e=>by
  rw[e];exact h h' z
 wp_walk using wpAny_pyIter_tuple T1,wpAny_pyIter_tuple T2'
 obtain⟨n,e⟩:=kgE (h:=s.heap) (l1:=l1) (l2:=l2) rfl rfl rfl rfl rfl;exact⟨_,rfl,fin _ _ n (congrArg Value.ref e)⟩
def keZ {l1 l2:Addr}{us us2:Array Value}{Q:zEx}(T1:s.heap.IsTuple l1 us)(T2:s.heap.IsTuple l2 us2)(h:∀h',YJ s.heap h' l1 l2->Q (.ref (s.heap.objs.size+4)) { s with heap:=h' }):wpAny (model prog w) A (call (.type "zip") [.ref l1,.ref l2]) Q E s :=
 callType_new F.called_zip (by decide) (F.typeCall_zip_2 _ _) (F.newCall_zip_2 _ _) (λobj=>F.args_object_init_3 obj _ _) F.entry_zip_new (kgO l1 l2) ⟨⟨us,T1⟩,⟨us2,T2⟩,λh' z=>⟨⟨_,z.zi,rfl⟩,h h' z⟩⟩
end
def kf9 {X:Cx}{pins:List (Addr×Obj)}{σ:L2.St}{H:Hp}{s:Shared}{h':Heap}{ch:List Addr}(I:Inv X pins σ H s)(hch:∀b∈ch,wN X pins H b)(k:∀b u,b∉ch->s.heap.get? b=some u->h'.get? b=some u):Inv X pins σ H { s with heap:=h' }:=by
 have nt:∀b u,H b=some u->b∉ch:=λb u e z=>by rw[(hch b z).1]at e;cases e
 refine I.step (g':=s.gens) (d':=s.drawn) (t':=s.toks) (ch:=ch) (λb hb=>⟨(hch b hb).2.2.2.1,(hch b hb).2.1,(hch b hb).2.2.2.2.1,(hch b hb).2.2.2.2.2⟩) (λb u _ _ hc e _=>k b u hc e) (λb u _ _ hc e _=>⟨u.slots,k b u hc e⟩)
  (λb u _ e n=>n) (λb u hc e=>⟨u,k b u hc e⟩) (λb xs e=>e) (λb u xs e=>e) (λb ps e=>⟨#[],by rw[e];simp⟩) (λm hm=>?_) (λb u e=>?_) I.bare
 ·obtain⟨ol,es,ep,ho,r⟩:=hm;exact⟨ol,es,ep,k _ ol (λz=>(hch _ z).2.1 rfl) ho,r⟩
 ·refine (I.hok b u e).stay (λc v hc q=>k c v ?_ q) (λc q=>q) λc xs q=>q
  rcases hc with rfl | hc
  ·exact nt _ _ e
  ·exact nt _ _ hc
def Itz (K:zFr)(a b:Addr):It :=
 ⟨λi H=>∃xs ys x y,SqT K H a xs/\SqT K H b ys/\xs[i]?=some x/\ys[i]?=some y,λi H v H'=>∃x y p,(∀xs,SqT K H a xs->xs[i]?=some x)/\(∀ys,SqT K H b ys->ys[i]?=some y)/\H p=none/\v = .ref p/\H'=upd H p (.tup [x,y]),λi H=>∃xs ys,SqT K H a xs/\SqT K H b ys/\(xs[i]?=none∨ys[i]?=none)⟩
def kdT {P:Program}{w:World}{K:zFr}{elts:List Expr}{x1:Nat}{tp:Pos}{a b z TI TO i1 i2:Addr}(W:ZipApart z TI TO i1 i2 a b) :
 Turn P w K (.Tuple elts x1 tp) (Itz K a b) [z,TI,TO,i1,i2] z (λi h=>IsZip h z TI TO .none/\IsPair h TI (.ref i1) (.ref i2)/\(∃u v,IsPair h TO u v)/\h.IsTupleIter i1 a i/\h.IsTupleIter i2 b i) where
 mem:=by simp
 obj:=λi h st c hc=>by
  obtain⟨hz,pI,⟨u,v,pO⟩,⟨o1,g1,c1,d1⟩,o2,g2,c2,d2⟩:=st;simp only[List.mem_cons,List.not_mem_nil,or_false]at hc
  rcases hc with rfl | rfl | rfl | rfl | rfl
  ·exact⟨_,hz,λv z=>nomatch z⟩
  ·exact⟨_,pI,λv z=>nomatch z⟩
  ·exact⟨_,pO,λv z=>nomatch z⟩
  ·exact⟨o1,g1,λv z=>by rw[d1]at z;cases z⟩
  ·exact⟨o2,g2,λv z=>by rw[d2]at z;cases z⟩
 keep:=λi h h' st k=>by
  obtain⟨hz,pI,⟨u,v,pO⟩,⟨o1,g1,r1⟩,o2,g2,r2⟩:=st;exact⟨k z (by simp) _ hz,k TI (by simp) _ pI,⟨u,v,k TO (by simp) _ pO⟩,⟨o1,k i1 (by simp) _ g1,r1⟩,o2,k i2 (by simp) _ g2,r2⟩
 item:=by
  intro X hP hw hK hc i pins s σ H E I hf st hg;subst hP hw hK;obtain⟨xs,ys,x,y,hx,hy,ex,ey⟩:=hg;obtain⟨us,rx,tx,_⟩:=I.tuple hx;obtain⟨vs,ry,ty,_⟩:=I.tuple hy;obtain⟨u,hu,ru⟩:=rx.get ex;obtain⟨v,hv,rv⟩:=ry.get ey;obtain⟨hz,pI,⟨u0,v0,pO⟩,q1,q2⟩:=st;refine UL W hz pI pO q1 q2 tx ty (λx' y' hx' hy' h' z' pO' q1' q2' new kp=>?_) λq=>?_
  ·have e1:x'=u:=by
    have hx':us[i]?=some x':=by simpa using hx'
    rw[hu]at hx';exact (Option.some.inj hx').symm
   have e2:y'=v:=by
    have hy':vs[i]?=some y':=by simpa using hy'
    rw[hv]at hy';exact (Option.some.inj hy').symm
   subst e1 e2;have lt:∀ {c o},s.heap.get? c=some o->s.heap.objs.size≠c:=λe=>Nat.ne_of_gt (zaf e)
   have nz:=lt hz;have nI:=lt pI;have nO:=lt pO;have n1:s.heap.objs.size≠i1:=by obtain⟨o,e,_⟩:=q1;exact lt e
   have n2:s.heap.objs.size≠i2:=by obtain⟨o,e,_⟩:=q2;exact lt e
   refine⟨_,rfl,wpAny_letOwnedTupleGo_zip z' λh2 z2 k2=>?_⟩;have k2:Heap.SameBut z h' h2:=k2;have new2:IsPair h2 s.heap.objs.size x' y':=k2.extBut _ _ nz new;have kk:∀c o,c∉[z,TI,TO,i1,i2]->s.heap.get? c=some o->h2.get? c=some o:=λc o hb e=>k2.extBut _ _ (λq=>hb (by simp[q])) (kp c o (λq=>hb (by simp[q])) (λq=>hb (by simp[q])) (λq=>hb (by simp[q])) (λq=>hb (by simp[q])) e)
   have hfr:H s.heap.objs.size=none:=I.hok.fresh (zak _)
   have I2:Inv X pins σ (upd H s.heap.objs.size (.tup [x,y])) { s with heap:=h2,toks:=s.toks } :=
    ZC I hf kk (zak _) ⟨by show 2<=sizeLine;decide,[x',y'],.cons ru (.cons rv .nil),⟨_,new2,rfl,_,rfl⟩⟩
   refine⟨.ref s.heap.objs.size,_,I2,rfl,⟨x,y,s.heap.objs.size,λl hl=>by rw[I.Qz hl hx];exact ex,λl hl=>by rw[I.Qz hl hy];exact ey,hfr,rfl,rfl⟩,⟨z2,k2.extBut _ _ W.TIz (kp _ _ W.TIz W.TITO W.TIi1 W.TIi2 pI),⟨_,_,k2.extBut _ _ W.TOz pO'⟩,q1'.extBut k2.extBut W.i1z,q2'.extBut k2.extBut W.i2z⟩,λc hc=>?_⟩
   have nc:c≠s.heap.objs.size:=by
    simp only[List.mem_cons,List.not_mem_nil,or_false]at hc
    rcases hc with rfl | rfl | rfl | rfl | rfl
    ·exact nz.symm
    ·exact nI.symm
    ·exact nO.symm
    ·exact n1.symm
    ·exact n2.symm
   rw[qm nc];exact (hf c hc).1
  ·rcases q with q | q
   ·have q:us[i]?=none:=by simpa using q
    rw[hu]at q;cases q
   ·have q:vs[i]?=none:=by simpa using q
    rw[hv]at q;cases q
 done:=by
  intro X hP hw hK hc i pins s σ H E I hf st hg;subst hP hw hK;obtain⟨xs,ys,hx,hy,e⟩:=hg;obtain⟨us,rx,tx,_⟩:=I.tuple hx;obtain⟨vs,ry,ty,_⟩:=I.tuple hy;obtain⟨hz,pI,⟨u0,v0,pO⟩,q1,q2⟩:=st;refine UL W hz pI pO q1 q2 tx ty (λx' y' hx' hy'=>?_) λq=>⟨in1_handled (I.ok.hd hc),λh' kp=>⟨rfl,?_⟩⟩
  ·have hx':us[i]?=some x':=by simpa using hx'
   have hy':vs[i]?=some y':=by simpa using hy'
   have l1:=(List.getElem?_eq_some_iff.mp hx').1;have l2:=(List.getElem?_eq_some_iff.mp hy').1;rw[<- rx.length]at l1;rw[<- ry.length]at l2
   rcases e with e | e
   ·rw[zaq l1]at e;cases e
   ·rw[zaq l2]at e;cases e
  ·exact kf9 I hf λc o hb e=>kp c o (λq=>hb (by simp[q])) (λq=>hb (by simp[q])) (λq=>hb (by simp[q])) (λq=>hb (by simp[q])) e
 self:=λ_ i s Q E st h=>wpAny_pyIter_zip st.1 h
def Jj:∀ (ds es:List D) (i:Nat),(QJ ds es)[i]? = match ds[i]?,es[i]? with
  |some d,some e=>some (D.tup [d,e])
  |_,_=>none
 | [],es,i=>by simp[QJ]
 |d::ds,[],i=>by
  rw[show QJ (d::ds) []=[] from rfl];simp
 |d::ds,e::es,0=>rfl
 |d::ds,e::es,i+1=>by
  show (QJ ds es)[i]?=_;rw[Jj ds es i,List.getElem?_cons_succ,List.getElem?_cons_succ]
def ket {K:zFr}{C B:List Addr}{H:Hp}{a b:Addr}{ds es:List D}{vs us:List V}(hs:∀a∈C,a∈B)(q1:SqT K H a vs)(q2:SqT K H b us)(r1:kE K B H ds vs)(r2:kE K B H es us):Walk K C B H (Itz K a b) (QJ ds es):=λB' H' x i=>by
 have q1':=SqT.kp x.kp q1;have q2':=SqT.kp x.kp q2;have r1':=kE.ext (x.less hs) r1;have r2':=kE.ext (x.less hs) r2;have gt:=Jj ds es i;refine⟨λd hd=>?_,λhl=>⟨vs,us,q1',q2',?_⟩⟩
 ·rw[gt]at hd
  cases z1:ds[i]? with
  |none=>rw[z1]at hd;cases hd
  |some d0=>
   cases z2:es[i]? with
   |none=>rw[z1,z2]at hd;cases hd
   |some e0=>
    rw[z1,z2]at hd;cases hd;obtain⟨v,hv,rv⟩:=kE.get r1' z1;obtain⟨u,hu,ru⟩:=kE.get r2' z2;refine⟨⟨vs,us,v,u,q1',q2',hv,hu⟩,λy H2 ⟨v',u',p,hv',hu',hp,hy,e⟩=>?_⟩;subst e hy;have hv':=hv' vs q1';have hu':=hu' us q2';rw[hv]at hv';rw[hu]at hu';cases hv';cases hu';exact⟨kB.upd hp,p,_,rfl,SqT.of k9,v,[u],rfl,Rep.kp (Kp.of_same (kB.upd hp)) rv,u,[],rfl,Rep.kp (Kp.of_same (kB.upd hp)) ru,rfl⟩
 ·rw[List.getElem?_eq_none (Nat.le_of_eq hl)]at gt
  cases z1:ds[i]? with
  |none=>exact .inl (List.getElem?_eq_none (by rw[r1'.length];exact List.getElem?_eq_none_iff.mp z1))
  |some d0=>
   cases z2:es[i]? with
   |none=>exact .inr (List.getElem?_eq_none (by rw[r2'.length];exact List.getElem?_eq_none_iff.mp z2))
   |some e0=>rw[z1,z2]at gt;cases gt
section
variable {X:Cx}{own:List Bool}{A:List Addr}{E:Nat->Hp->Prop}{a b:Expr}{fa fb:P.FE}{pos p1 tp:Pos}{elts:List Expr}{x1:Nat}
def iZp (K:zFr)(ta:L2.TA):L2.TI:=λσ H R=>ta σ H λvs H1=>∃a b,vs=[.ref a,.ref b]/\(∃xs,SqT K H1 a xs)/\(∃xs,SqT K H1 b xs)/\R (Itz K a b) H1
def boot_zip:bootBuiltins "zip" = some (.type "zip"):=by kernel_rfl
def kgo {ta:TA}(hg:Gl X "zip")(hm:X.mg "zip" = none)(ha:PA X [a,b] ta)(hs:starEach [a,b] X.env=[(false,eval a X.env),(false,eval b X.env)]:=by rfl)(hs2:starEach [b] X.env=[(false,eval b X.env)]:=by rfl):PI X (.Tuple elts x1 tp) (.Call (.Name "zip" p1) [a,b] [] pos) (iZp X.K ta):=by
 intro pins s σ H R I h;refine Call_ (zI I hg hm boot_zip (PyProof.Rows.callWith_type1 (thn (ha pos pins s σ H _ I h) λus s1 ⟨vs,H1,I1,r1,q1⟩=>?_) (by rw[hs,hs2]) (by rw[hs2];rfl)));obtain⟨l,m,e,⟨xs,hx⟩,⟨ys,hy⟩,q⟩:=q1;subst e;obtain⟨u,v,rfl,ru,rv⟩:=vals2 r1;cases ru;cases rv;obtain⟨us,rx,tx,_⟩:=I1.tuple hx;obtain⟨vs,ry,ty,_⟩:=I1.tuple hy;have lx:l < s1.heap.objs.size:=by obtain⟨o,e,_⟩:=id tx;exact zaf e
 have ly:m < s1.heap.objs.size:=by obtain⟨o,e,_⟩:=id ty;exact zaf e
 refine keZ tx ty λh' n=>wpAny_pyIter_zip n.zi ?_
 have I2:Inv X pins σ H1 { s1 with heap:=h' }:=I1.kept (t':=s1.toks) n.keep;refine⟨s1.heap.objs.size+4,[s1.heap.objs.size+4,s1.heap.objs.size+2,s1.heap.objs.size+3,s1.heap.objs.size,s1.heap.objs.size+1],_,_,H1,rfl,I2,kdT (zipApart_new lx ly),⟨n.zi,n.pI,⟨_,_,n.pO⟩,n.q1,n.q2⟩,λc hc=>?_,q⟩
 have up:s1.heap.objs.size<=c:=by
  simp only[List.mem_cons,List.not_mem_nil,or_false]at hc
  rcases hc with rfl | rfl | rfl | rfl | rfl <;> simp
 exact I1.K8 up (I1.hok.fresh up)
def kdk {c:Bool} (ha:Snd X own A E true a fa) (hb:Snd X own A E true b fb) (hm:X.mg "zip" = none) (hg:Gl X "zip":=by rfl) (hs:starEach [a,b] X.env = [(false,eval a X.env),(false,eval b X.env)]:=by rfl) (hs2:starEach [b] X.env = [(false,eval b X.env)]:=by rfl) :
 Xf X own A E c (.Tuple elts x1 tp) (.Call (.Name "zip" p1) [a,b] [] pos) (P.kaZ fa fb):=by
 refine PI.imp (kgo hg hm (qE ha (qE hb vS hs2) (by rw[hs,hs2])) hs hs2) λσ H R ⟨B,env,ok,h⟩=>?_
 refine Va ok (show (match fa env >>= fun x => fb env >>= fun y => (match x,y with
     |.tup xs,.tup ys=>Rs.ok (QJ xs ys)
     |_,_=>.stuck) with | .ok ds=>∀J H',kB H H'->Walk X.K (if c=true then [] else B) B H' J ds->R J H' | .exc c=>∀H',kB H H'->E c H' | .stuck=>False) from h)
  λx v H1 s1 ok1 r1 h1=>?_
 refine Va ok1 h1 λy u H2 s2 ok2 r2 h2=>?_
 cases x with
 |tup ds=>
  cases y with
  |tup es=>
   obtain⟨p,vs,rfl,sq,rr⟩:=r1;obtain⟨p',vs',rfl,sq',rr'⟩:=r2;have sq2:=SqT.kp (Kp.of_same s2 (B:=B)) sq;exact⟨p,p',rfl,⟨vs,sq2⟩,⟨vs',sq'⟩,h2 _ H2 (kB.refl _) (ket Kz sq2 sq' (kE.kp (Kp.of_same s2) rr) rr')⟩
  |_=>exact h2.elim
 |_=>exact h2.elim
end
def FlA (B:Heap)(l:List Env)(e:Addr)(c a0 fl:Value)(h:Heap):Prop:=B.StaysIn h/\B.get? e=none/\h.FunFrames B l/\h.TracedAtW B e c a0 fl
def kaY {M:Model}{A:Around}{E:zEx}{s:Shared}{B:Heap}{env:Env}{outer:List Env}{L e:Addr}{c a0 fl:Value}{Q:Unit->Shared->Prop}
 (hfr:A.frames=some (env::outer)) (hf:env.frame=some L) (x:FlA B (env::outer) e c a0 fl s.heap)
 (hQ:∀h',Heap.FlyingW B outer e c a0 h'->s.heap.UpToSlots h'->Q () { s with heap:=h' }):wpAny M A (leaving env (.ref e)) Q E s:=by
 obtain⟨f1,f2,f3,f4⟩:=x
 by_cases z:fl=rawInt L
 ·subst z;unfold leaving;refine zaa (wpAny_noteFrame_againW hf f4 ?_);refine wpAny_setFlight_noneW f1 f3 f4 λh' k1 k2 k3 k4=>hQ h' ⟨k1,f2,k2.2.2,k3⟩ λb o hb hn=>⟨o.slots,k4 b o hb hn⟩
 ·obtain⟨oe,vs,T,oT,ts,he,⟨hcls,h0⟩,hd,h1,hnT,hTe,hT,hdT,h3⟩:=f4;subst hcls;unfold leaving noteFrame;simp only[hf];refine zaa (zaa (wpAny_field he hd h1 ?_));rw[if_pos (show (Value.ref T != Value.none)=true from by simp)];refine zaa (wpAny_field hT hdT h3 ?_);rw[if_neg (show ¬ ((fl==rawInt L)=true) from λq=>z (eq_of_beq q))];refine zaa (wpAny_setField hT hdT (Array.getElem?_eq_some_iff.mp h3).1 ?_);have other:∀b,b≠T->(s.heap.update T (Obj.mapFields (·.setIfInBounds 3 Value.none))).get? b=s.heap.get? b:=λb hb=>Heap.get?_update_other _ _ (Ne.symm hb)
  have nr:∀b o,s.heap.get? b=some o->(∀vs,o.data ≠ .fields vs)->b≠T:=λb o hb hnf q=>by
   rw[q,hT]at hb;injection hb with hb;subst hb;exact hnf ts hdT
  refine wpAny_newEntryW hfr (f3.of_keeps λb o hb hnf=>⟨o,(other b (nr b o hb hnf)).trans hb,rfl⟩) hf ((other e (Ne.symm hTe)).trans he)
   (λb o hbo=>(other b λq=>by rw[q,hnT]at hbo;cases hbo).trans (f1 b o hbo)) f2 hd (Array.getElem?_eq_some_iff.mp h1).1 h0
   λh' ⟨x1,x2,x3,x4⟩=>hQ h' ⟨x1,f2,x2.2.2,x3⟩ λb o hb hnf=>x4 b o ((other b (nr b o hb hnf)).trans hb) hnf
def kT (X:Cx)(E:XK):Prop:=∀ (pins:List (Addr×Obj)) (σ:L2.St) (H:Hp) (s:Shared) (C ea:Addr) (a0 fl:Value) (B:Heap),Inv X pins σ H s->FlA B X.stack ea (.ref C) a0 fl s.heap →
 (∀b o u,H b=some o->s.heap.get? b=some u->B.get? b=some u)->(∀b o u,X.s₀.heap.get? b=some o->b∉frs X.stack->s.heap.get? b=some u->B.get? b=some u)->H ea=none->X.s₀.heap.get? ea=none->E (.ref C) none H->X.xe (.ref ea) s
section
variable {PP:Program}{w:World}{K:zFr}{mg:Str->Option Value}{base:Heap}{N:List Str}{qual:Str}{scope:Scope}{f:Addr}{cd:Value}{A:Around}{outer:List Env}{s:Shared}{H:Hp}{E:XK}
def kbN:kT (KL (CXr PP w) PP w K mg base N qual scope f cd A outer s H E) E:=by
 intro pins σ H1 s1 C ea a0 fl B I x tr old ne new hE
 have memb:∀b,b∈frs (envOfC qual scope s.heap.objs.size f cd::outer)->b=s.heap.objs.size∨b∈frs outer:=λb hm=>by
  obtain⟨env,he,hf⟩:=List.mem_filterMap.mp hm
  rcases List.mem_cons.mp he with rfl | he
  ·exact .inl (Option.some.inj hf).symm
  ·exact .inr (List.mem_filterMap.mpr ⟨env,he,hf⟩)
 have sub:∀b,b∈frs outer->b∈frs (envOfC qual scope s.heap.objs.size f cd::outer):=λb hm=>by
  obtain⟨env,he,hf⟩:=List.mem_filterMap.mp hm;exact List.mem_filterMap.mpr ⟨env,zah _ he,hf⟩
 have neL:∀b o,s.heap.get? b=some o->b≠s.heap.objs.size:=λb o e=>zas (zaf e)
 have nin:∀b:Addr,b∉([]:List Addr):=λb=>by simp
 have nfr:∀b o,s.heap.get? b=some o->b∉frs outer->b∉frs (envOfC qual scope s.heap.objs.size f cd::outer):=λb o q nb hm=>(memb b hm).elim (neL b o q) nb
 have stk:=I.stack;refine kaY (outer:=outer) I.ok.frames rfl x λh2 x1 x4=>?_
 have slots:∀b o,s1.heap.get? b=some o->b∈frs (envOfC qual scope s.heap.objs.size f cd::outer)->∃sl,h2.get? b=some { o with slots:=sl }:=λb o q n=>by
  obtain⟨_,o',e',hd⟩:=stk.mem n;rw[q]at e';cases e';exact x4 b o q hd
 refine⟨ea,C,a0,B,H1,rfl,⟨I.os,I.bare,⟨λb o q n nb _=>?_,λb o q n hb _=>?_,λb o q n _=>I.base.free b o q n (nin b),λb o q _=>?_,I.base.tups,I.base.frzs,I.base.tbls⟩,?_,x1,λb o u q z=>?_,λb o u q nb z=>?_,ne,new⟩,hE⟩
 ·have q1:=I.base.keep b o q n nb (nin b);exact x1.1 b o (old b o o q (nfr b o q nb) q1)
 ·obtain⟨sl,q1⟩:=I.base.slot b o q n hb (nin b);obtain⟨sl2,q2⟩:=slots b _ q1 (sub b hb);exact⟨sl2,q2⟩
 ·obtain⟨o1,q1⟩:=I.base.there b o q (nin b)
  by_cases hm:b∈frs (envOfC qual scope s.heap.objs.size f cd::outer)
  ·obtain⟨sl,q2⟩:=slots b o1 q1 hm;exact⟨_,q2⟩
  ·exact⟨o1,x1.1 b o1 (old b o o1 q hm q1)⟩
 ·exact Y3 I.hok λb o u q z=>x1.1 b u (tr b o u q z)
 ·obtain⟨u1,q1⟩:=uG (I.hok b o q);have q2:=tr b o u1 q q1;have q3:=x1.1 b u1 q2;have z:h2.get? b=some u:=z;rw[q3]at z;cases z;exact q2
 ·obtain⟨o1,q1⟩:=I.base.there b o q (nin b);have q2:=old b o o1 q (nfr b o q nb) q1;have q3:=x1.1 b o1 q2;have z:h2.get? b=some u:=z;rw[q3]at z;cases z;exact q2
def kT.passes {X:Cx}{E:XK}(h:kT X E)(hex:X.ex=[]):Passes (CXr X.prog X.w) X E:=by
 intro pins σ H s e s' I cx;obtain⟨ea,C,a0,B,H',rfl,F,hE⟩:=cx;have nin:∀b:Addr,b∉([]:List Addr):=λb=>by simp
 have J:Inv X pins σ H' { s' with heap:=s'.heap }:=Z0 I F F.fl.1 (Heap.UpToSlots.refl _);refine h pins σ H' s' C ea a0 .none B J ⟨F.fl.1,F.fl.2.1,F.fl.2.2.1,F.fl.2.2.2.at⟩ F.tr (λb o u q nb z=>?_) F.ne ?_ hE
 ·obtain⟨o1,q1⟩:=I.base.there b o q (by rw[hex];exact nin b)
  exact F.old b o1 u q1 nb z
 ·cases q:X.s₀.heap.get? ea with
  |none=>rfl
  |some o=>
   obtain⟨o1,q1⟩:=I.base.there ea o q (by rw[hex];exact nin ea);rw[F.new]at q1;cases q1
end
section
variable {X:Cx}{own:List Bool}{A:List Addr}{E:Nat->Hp->Prop}{e:Expr}{es:List Expr}{fr:P.FA}{pos:Pos}
def kdZ {CX:CXT} {k:Nat} {f:Addr} {fd:FuncData} {ps:List Str} {sp:Sp} {E:XK} {x:Str} {p:Pos} {t:TA} (σ0:L2.St) (F:wg X.prog X.w X.K X.mg X.base CX k f fd ps sp) (hr:qU k X.A) (hg:Gl X x) (hm:X.mg x = some (.ref f)) (hk:PySem.W.keepIn X.K (.ref f) = true) (hb:Binds X.K fd ps [])
 (hx:∀pins H s e s',Inv X pins σ0 H s->CX X.stack H s E e s'->X.xe e s')
 (ha:PA X (e::es) t) (hdb:(x==("__debug__":Str))=false:=by decide) (he:starEach (e::es) X.env=(false,eval e X.env)::starEach es X.env:=by rfl) (hpl:(backTo pos (starEach es X.env)).any (·.1)=false:=by rfl) :
 PE X (.Call (.Name x p) (e::es) [] pos) (λσ H Q=>σ=σ0/\keL sp [] E t σ H Q):=by
 intro pins s σ H Q I ⟨hσ,h⟩;subst hσ;refine wpAny_Call_Name_kw (Vb I hg hm ?_ hdb);refine PySem.W.callWith_K (h₀:=X.base) I.ok.mod.kin hk (thn (ha pos pins s σ H _ I h) λus s1 ⟨vs,H1,I1,r,q⟩=>⟨I1.kIn,?_⟩) he hpl;have r2:Vals (vs++[]) (us++[]):=r.append .nil;have hl:(us++[]).length=ps.length:=by rw[<- r2.length];exact F.len _ _ _ _ q
 refine wpAny_call (codeAny_mono (F.run X.A X.stack s1 H1 ⟨us,[]⟩ (us++[]) (vs++[]) Q E hr I1.kd9 (hb s1 us I1.kIn hl) r2 q) λr s' hq=>?_)
 cases r with
 |error e=>exact hx pins H1 s1 e s' I1 hq
 |ok fl=>
  cases fl with
  |ret u=>exact I1.after hq
  |next=>exact False.elim hq
  |brk=>exact False.elim hq
  |cont=>exact False.elim hq
def kbW {cls:Nat->Value}{k j:Nat}{st:Stmt}{ps:List Str}{m:P.Fn}{x:Str}{p:Pos}(σ0:L2.St)(c:FkX X.prog X.w X.K X.mg X.base cls x st ps k m)(hr:qU j X.A)
 (hx:∀pins H s e s',Inv X pins σ0 H s->CXr X.prog X.w X.stack H s (yb cls E) e s'->X.xe e s') (ha:Qf X own A E false (e::es) fr) (hkj:k<=j:=by decide) (hn:(e::es).length=ps.length:=by rfl)
 (hg:Gl X x:=by rfl) (hdb:(x==("__debug__":Str))=false:=by decide) (he:starEach (e::es) X.env=(false,eval e X.env)::starEach es X.env:=by rfl) (hpl:(backTo pos (starEach es X.env)).any (·.1)=false:=by rfl) :
 PE X (.Call (.Name x p) (e::es) [] pos) (λσ H Q=>σ=σ0/\ER false X.K own A E (kF m fr) σ H Q):=by
 obtain⟨a,fd,c1,F⟩:=c;refine PE.imp (kdZ σ0 F (hr.mono hkj) hg c1.m c1.F.kp c1.b hx ha.1 hdb he hpl) λσ H Q ⟨hσ,B,env,ok,h⟩=>⟨hσ,?_⟩
 refine Q8 ok (show Pst false X.K B E H (fr env>>=λxs=>m xs) Q from h) λds vs H1 e1 s1 ok1 r1 h1=>?_
 have hr:=r1.reps;rw[List.append_nil];refine⟨by rw[hr.length,ha.2 env ds e1];exact hn,B,ds,hr,ok1.bt,?_⟩
 cases q:m ds with
 |ok d=>rw[q]at h1;exact h1
 |exc c=>rw[q]at h1;exact λH2 s2=>⟨c,rfl,h1 H2 s2⟩
 |stuck=>rw[q]at h1;exact h1
end
def kI {PP:Program}{w:World}{K:zFr}{mg:Str->Option Value}{base:Heap}{N:List Str}{qual:Str}{scope:Scope}{f:Addr}{cd:Value}{A:Around}{outer:List Env}{s:Shared}{H:Hp}{E:XK}{cls:Nat->Value} :
 kT (KL (CXr PP w) PP w K mg base N qual scope f cd A outer s H E) (yb cls λc H'=>E (cls c) none H'):=λpins σ H1 s1 C ea a0 fl B I x tr old ne new hE=>by
 obtain⟨c,e,h⟩:=hE;rw[<- e]at h;exact kbN pins σ H1 s1 C ea a0 fl B I x tr old ne new h
section
variable {X:Cx}
def kE.times {K:zFr}{B:List Addr}{H:Hp}{ds:List D}{vs:List V}(h:kE K B H ds vs):∀n:Nat,kE K B H (List.replicate n ds).flatten (List.replicate n vs).flatten
 |0=>rfl
 |n+1=>by
  rw[List.replicate_succ,List.replicate_succ,List.flatten_cons,List.flatten_cons];exact kE.append h (kE.times h n)
def UX:OpS X (binaryOp .Mult) Ub:=by
 refine⟨λx y c h=>(by unfold Ub at h;split at h;(split at h <;> cases h);cases h),λpins s σ H x y v u Q I rx ry ⟨B,dx,dy,d,r1,r2,bt,hg,q⟩=>?_⟩;unfold Ub at hg;split at hg
 ·rename_i xs k;split at hg
  ·rename_i hc;cases hg;obtain⟨a,vs,rfl,sq,rr⟩:=r1;refine khb pins s σ H _ y v u Q I rx ry ⟨a,k,vs,rfl,r2,sq,by omega,by omega,by rw[rr.length,szL];exact hc.2.2,λp hp=>?_⟩;have s1:kB H (upd H p (.lst (List.replicate k.toNat vs).flatten)):=kB.upd hp;refine q _ _ s1 ⟨p,_,rfl,λhb=>?_,k9,kE.kp (Kp.of_same s1) (kE.times rr k.toNat)⟩;obtain⟨o,e,_⟩:=bt p hb;rw[hp]at e;cases e
  ·cases hg
 ·cases hg
end
end L3
namespace L3
open PySem PySem.Spec PyProof.Rows L2
open P (D Rs Out)
open PySem.AutoSeq1 in
def JG (l:Addr)(items:Array Value)(n:Nat)(b:Addr)(items2:Array Value)(n2:Nat)(dd:Option Addr)(sl:Array (Option Value))(hs0:¬(!items.isEmpty&&Builtin.List.listTooLong (items.size+items2.size))=true)(hs1:items.size<=sizeLine)(hs2:items.size+items2.size<=sizeLine+1) :
 Meets (Builtin.«list.extend» ⟨[.ref l,.ref b],[]⟩) (λ_ R s=>s.heap.get? l=some { cls:=.type "list",dict:=none,data:=.seq items n,slots:=#[] }/\s.heap.get? b=some { cls:=.type "tuple",dict:=dd,data:=.seq items2 n2,slots:=sl }/\R (.ok (.ret Value.none)) { s with heap:=s.heap.update l (Obj.mapSeq λx=>x++items2),toks:=s.toks }) :=
 .of_wp λprog w A R s h=>by
  obtain⟨hp,g,d,tk,os⟩:=s;obtain⟨hl,hb,h⟩:=h;have hz':(items++items2).size<=sizeLine+1:=by rw[Array.size_append];exact hs2
  wp_walk using (wpAny_updateSeq hl rfl (hz:=hs1) (_hz':=hz')),wpAny_loadPart' hl,wpAny_loadPart' hb
  exact⟨_,rfl,h⟩
section
variable {X:Cx}
def kh3 (K:zFr):V->List V->Hp->VK->Prop:=λx vs H Q=>∃l b xs zs,x = .ref l/\vs=[.ref b]/\H l=some (.lst xs)/\SqT K H b zs/\xs.length+zs.length<=sizeLine/\Q .non (upd H l (.lst (xs++zs)))
def kfx:MtM X "list.extend" (kh3 X.K):=by
 intro pins s σ H x vs v us Q I rx rv h;obtain⟨l,b,xs,zs,rfl,rfl,hH,hB,hz,q⟩:=h;cases rx;obtain⟨u,rfl,ru⟩:=rv.one;cases ru;obtain⟨z,its,n,r,hl,e⟩:=I.VY hH;obtain⟨its2,r2,⟨o,e2,ec,n2,ed⟩,z2⟩:=I.tuple hB;obtain⟨oc,od,oda,os⟩:=o;have ec:oc = .type "tuple":=ec;have ed:oda = .seq its2.toArray n2:=ed;subst ec ed;have hl2:=r2.length;have hsz:its.toArray.size+its2.toArray.size<=sizeLine:=by rw[zal,zal];omega
 have hlong:¬ (!its.toArray.isEmpty&&Builtin.List.listTooLong (its.toArray.size+its2.toArray.size))=true:=by
  rw[X4 hsz,Bool.and_false];exact Bool.false_ne_true
 refine call_meets F.slot_list_extend ⟨_,e,rfl⟩ F.entry_list_extend (F.args_list_extend_2 _ _)
  (JG l its.toArray n b its2.toArray n2 od os hlong (by rw[zal];omega) (by omega)) ⟨e,e2,?_⟩
 refine⟨.non,_,I.kaR (its':=its++its2) hH e (by simp) (r.append r2) ?_,rfl,q⟩;rw[zap];omega
variable {own:List Bool}{A:List Addr}{E:Nat->Hp->Prop}{H₀:Hp}{e:Expr}{fa:P.FE}{pos:Pos}{x:Str}{i:Nat}{p1 p2 p3:Pos}
def kdd (he:Snd X own A E true e fa) (ho:own[i]? = some true:=by rfl) (hN:X.N[i]? = some x:=by rfl)
 (hv:Vis X.env.scope x:=by first | exact Or.inl rfl | exact Or.inr (Or.inl rfl) | exact Or.inr (Or.inr rfl)) (hd:(x==("__debug__":Str))=false:=by decide)
 (hcd:(x==("__classdict__":Str))=false:=by decide) (hst:starEach [e] X.env=[(false,eval e X.env)]:=by rfl)
 (hbase:attributeBase (.Name x p1) "extend" X.env (eval (.Name x p1) X.env)=eval (.Name x p1) X.env:=by rfl) (hline:(p2.endLine==p3.line)=true:=by rfl)
 (hfew:((backTo p3 (starEach [e] X.env)).all (λx=>!x.1)&&(backToKw p3 (keywordEach [] X.env)).all (λx=>x.1.isSome)
  && decide (([e]:List Expr).length+([]:List Keyword).length+(if ([]:List Keyword).isEmpty then 0 else 1) < 30))=true:=by rfl) :
 yC X own A E H₀ (.Expr (.Call (.Attribute (.Name x p1) "extend" p2) [e] [] p3) pos) (Jg i fa):=by
 refine PS.imp (Vc (Xy PySem.F.plainAttrs_list PySem.F.slot_list_extend PySem.F.type_list_extend kfx (xN hN hv hd hcd) (qE he vS hst) hbase hfew hline hst)) λD σ H ⟨B,env,ok,st,h⟩=>?_
 have hx:∃xs,env[i]?=some (some (.lst xs)):=by
  unfold Jg at h;split at h
  ·rename_i xs q
   exact⟨xs,q⟩
  ·exact h.elim
 obtain⟨xs,q⟩:=hx
 have h:Po X.K own A E H₀ B H (fa env>>=P.kgW i env xs) D:=by
  unfold Jg at h;rw[q]at h;exact h
 obtain⟨p,hp,hb,hn,us,hl,r⟩:=ok.owd i _ q ho;refine⟨_,hp,.inl ⟨rfl,us,SqL.of hl⟩,?_⟩;refine Kd ok st h λd v H1 e1 s1 ok1 st1 r1 h1=>?_
 cases d with
 |tup ys=>
  obtain⟨pb,vs,rfl,hvb,rb⟩:=r1;have hl1:=s1 _ _ hl;have hr:=kE.kp (Kp.of_same s1) r
  by_cases hlt:xs.length+ys.length<=kP
  · have h1:Nx X.K own A H₀ B H1 (env.set i (some (.lst (xs ++ ys)))) D.nx:=by
      have h1:Po X.K own A E H₀ B H1 (if xs.length+ys.length<=kP then .ok (.next (env.set i (some (.lst (xs++ys))))) else .stuck) D:=h1;rw[if_pos hlt]at h1;exact h1
    refine⟨p,pb,us,vs,rfl,rfl,hl1,hvb,by rw[szL,hr.length,rb.length];exact hlt,?_⟩;obtain⟨ok2,k2⟩:=ok1.chg ho q hp hb hn ⟨us,hl1⟩ (kE.append hr rb);exact h1 B σ _ ok2 (st1.chg hb hn) ⟨k2,λ_ z=>.inl z⟩
  ·have h1:Po X.K own A E H₀ B H1 (if xs.length+ys.length<=kP then .ok (.next (env.set i (some (.lst (xs++ys))))) else .stuck) D:=h1
   rw[if_neg hlt]at h1;exact h1.elim
 |_=>exact h1.elim
end
end L3
namespace L3
open PySem PySem.Spec PyProof.Rows L2
open P (D Rs Out)
def V3:Slot "reversed" "__next__" "reversed.__next__":=.of (owner:="reversed") (n:="__next__") (by rw[typeLookup_type,builtinLookup_eq_fast];kernel_rfl) (by decide +kernel) (by decide +kernel) (by decide +kernel) (by first | exact .inl (by decide +kernel) | exact .inr (by decide +kernel)) (by rw[isSubtype_type];kernel_rfl)
def uS:entryFor table "reversed.__next__" = some Builtin.«reversed.__next__»:=entryFor_of_tree (by kernel_rfl)
def UY (a:Value):argsOk "reversed.__next__" ⟨[a],[]⟩:=by
 unfold argsOk;kernel_rfl
def v5 (h:Heap)(r a:Addr)(i:Int):Prop:=∃o,h.get? r=some o/\o.cls = .type "reversed" /\ o.data = .fields #[.ref a,rawInt i]
section
variable {prog:Program}{w:World}{A:Around}{E:zEx}{s:Shared}
def v5.typeIs {r a:Addr}{i:Int}(x:v5 s.heap r a i):s.TypeIs (.ref r) "reversed":=let ⟨o,g,c,_⟩:=x;⟨o,g,c⟩
def v5.at {h h':Heap}{r a:Addr}{i:Int}(x:v5 h r a i)(k:∀o,h.get? r=some o->h'.get? r=some o):v5 h' r a i:=let ⟨o,g,z⟩:=x;⟨o,k o g,z⟩
def UI {r t:Addr}{i:Nat}{us:Array Value}{u:Value}{R:Option Value->Shared->Prop}(x:v5 s.heap r t (i:Int))(b:s.heap.IsTuple t us)(hu:us[i]?=some u)(hz:us.size<=sizeLine)
 (go:∀h' tk,v5 h' r t ((i:Int) - 1)->Heap.SameBut r s.heap h'->R (some u) { s with heap:=h',toks:=tk }):wpAny (model prog w) A (pyNext (.ref r)) R E s:=by
 obtain⟨o1,g1,c1,d1⟩:=id x;obtain⟨o2,g2,c2,n2,d2⟩:=id b
 wp_delta
 refine zaa (wpAny_attempt (wpAny_callSpecial?_slot (name:="__next__") x.typeIs V3 (wpAny_call_entry V3 x.typeIs uS ?_ (UY _))));unfold Builtin.«reversed.__next__»;generalize hG:getItem=GI
 wp_walk using wpAny_field g1 d1 (i:=0) (x:=.ref t) rfl,wpAny_field g1 d1 (i:=1) (x:=.int i 0) rfl,wpAny_specialOf (name:="__getitem__") b.typeIs slot_tuple_getitem.lookup
 subst hG;have li:i < us.size:=(Array.getElem?_eq_some_iff.mp hu).1;have ls:=yN;refine getItem_tuple (s:={ s with toks:=s.toks+1 }) (j:=i) (show IsTup s.heap t us from b) (by omega) (by omega) (by rw[seqIndex_of (by omega) (by omega),Int.toNat_natCast]) hu ?_;dsimp only;refine zaa (wpAny_field (s:={ s with toks:=s.toks+1 }) g1 d1 (i:=1) (x:=.int i 0) rfl ?_);dsimp only;refine zaa (wpAny_setField (s:={ s with toks:=s.toks+1 }) g1 d1 (i:=1) (by simp) ?_);refine zab ⟨u,rfl,zab (go _ _ ⟨_,Heap.get?_update_self _ g1 (Obj.isFreed_of_fields (Obj.data_mapFields d1 _)),(Obj.cls_mapFields ..).trans c1,?_⟩ (Heap.SameBut.update ..))⟩
 rw[Obj.data_mapFields d1];rfl
def kbt {r t:Addr}{i:Int}{R:Option Value->Shared->Prop}(hh:A.handled=none)(hi:i < 0)(x:v5 s.heap r t i)(go:∀h',Heap.ExtBut r s.heap h'->R none { s with heap:=h' }):wpAny (model prog w) A (pyNext (.ref r)) R E s:=by
 obtain⟨o1,g1,c1,d1⟩:=id x;have hh':A.in1.handled=none:=hh;have hst:=isSubtype_stop
 wp_delta
 refine zaa (wpAny_attempt (wpAny_callSpecial?_slot (name:="__next__") x.typeIs V3 (wpAny_call_entry V3 x.typeIs uS ?_ (UY _))));unfold Builtin.«reversed.__next__»;have u1:=Heap.get?_update_self (Obj.mapFields λx=>x.setIfInBounds 1 (rawInt (-1:Int))) g1 (Obj.isFreed_of_fields (Obj.data_mapFields d1 _));have v1:=Obj.data_mapFields d1 λx=>x.setIfInBounds 1 (rawInt (-1:Int))
 wp_walk using wpAny_field g1 d1 (i:=0) (x:=.ref t) rfl,wpAny_field g1 d1 (i:=1) (x:=.int i 0) rfl,wpAny_setField g1 d1 (i:=1) (by simp),wpAny_setField (s:={ s with heap:=s.heap.update r (Obj.mapFields λx=>x.setIfInBounds 1 (rawInt (-1:Int))) }) u1 v1 (i:=0) (by simp),wpAny_raiseNew_none hh'
 refine go _ λb o hb e=>?_
 exact zac _ (zac _ (((Heap.SameBut.update ..).2 b hb).trans (((Heap.SameBut.update ..).2 b hb).trans e)))
def UP:Slot "reversed" "__iter__" "reversed.__iter__":=.of (owner:="reversed") (n:="__iter__") (by rw[typeLookup_type,builtinLookup_eq_fast];kernel_rfl) (by decide +kernel) (by decide +kernel) (by decide +kernel) (by first | exact .inl (by decide +kernel) | exact .inr (by decide +kernel)) (by rw[isSubtype_type];kernel_rfl)
def kda:entryFor table "reversed.__iter__" = some Builtin.«dict_keyiterator.__iter__»:=entryFor_alias (id':="dict_keyiterator.__iter__") (by kernel_rfl) rfl (by decide +kernel) (by kernel_rfl)
def kfH (a:Value):argsOk "reversed.__iter__" ⟨[a],[]⟩:=by
 unfold argsOk;kernel_rfl
def Xq {r t:Addr}{i:Int}{Q:zEx}(x:v5 s.heap r t i)(q:Q (.ref r) s):wpAny (model prog w) A (pyIter (.ref r)) Q E s :=
 wpAny_pyIter_slot x.typeIs UP (wpAny_call_entry UP x.typeIs kda (zab ⟨_,rfl,"reversed",_,x.typeIs,V3.lookup,q⟩) (kfH _))
def kan:Slot "reversed" "__init__" "object.__init__":=.of (owner:="object") (n:="__init__") (by rw[typeLookup_type,builtinLookup_eq_fast];kernel_rfl) (by decide +kernel) (by decide +kernel) (by decide +kernel) (by first | exact .inl (by decide +kernel) | exact .inr (by decide +kernel)) (by rw[isSubtype_type];kernel_rfl)
def kaE:TypeCalled "reversed" "reversed.__new__" "object.__init__" :=
 ⟨by decide +kernel,by decide +kernel,⟨_,_,PySem.F.mro_reversed⟩,PySem.F.made_reversed,by decide +kernel,by rw[isSubtype_type];kernel_rfl,kan⟩
def kgH:typeLookup (.type "tuple") "__reversed__" = pure none:=by rw[typeLookup_type,builtinLookup_eq_fast];kernel_rfl
def kgw (t:Addr):Meets (Builtin.«reversed.__new__» ⟨[.type "reversed",.ref t],[]⟩) (λ_ R s=>(∃us,s.heap.IsTuple t us/\us.size<=sizeLine)/\∀us tk,s.heap.IsTuple t us->R (.ok (.ret (.ref s.heap.objs.size))) { s with heap:=s.heap.push { cls:=.type "reversed",data:=.fields #[.ref t,rawInt ((us.size:Int) - 1)] },toks:=tk }):=by
 refine .of_wp λprog w A R s ⟨⟨us,T,hz⟩,h⟩=>?_
 have hsub:=PySem.F.sub_reversed_self;have h1:=kgH;have h2:=slot_tuple_getitem.lookup;have h3:=PySem.F.sub_tuple_dict;have hT:=T.typeIs;obtain⟨o,g,c,n,d⟩:=id T;unfold Builtin.«reversed.__new__»;have ls:=yN;generalize hC:@PySem.call=CC
 wp_walk using wpAny_specialOf (name:="__getitem__") hT h2
 subst hC;refine len_tuple (show IsTup s.heap t us from T) (by omega) ?_
 wp_walk
 exact⟨_,rfl,h us _ T⟩
def kek (a b:Value):argsOk "object.__init__" ⟨[a,b],[]⟩:=by
 unfold argsOk;kernel_rfl
def kac {t:Addr}{us:Array Value}{Q:zEx}(T:s.heap.IsTuple t us)(hz:us.size<=sizeLine)(h:∀h' tk,v5 h' s.heap.objs.size t ((us.size:Int) - 1)->(∀b o,s.heap.get? b=some o->h'.get? b=some o)->Q (.ref s.heap.objs.size) { s with heap:=h',toks:=tk }):wpAny (model prog w) A (call (.type "reversed") [.ref t]) Q E s :=
 callType_new kaE (by decide) (PySem.F.typeCall_reversed_1 _) (PySem.F.newCall_reversed_1 _) (λobj=>kek obj _) PySem.F.entry_reversed_new (kgw t) ⟨⟨us,T,hz⟩,λus' tk T'=>by
  have e:us'=us:=by
   obtain⟨o,g,_,n,d⟩:=T;obtain⟨o',g',_,n',d'⟩:=T';rw[g]at g';cases g';rw[d]at d';cases d';rfl
  subst e
  exact⟨⟨_,zag _ rfl,rfl⟩,h _ tk ⟨_,zag _ rfl,rfl,rfl⟩ λb o e=>zac _ e⟩⟩
end
def Itv (K:zFr)(a:Addr)(n:Nat):It :=
 ⟨λi H=>∃xs x,SqT K H a xs/\xs.length=n/\xs.reverse[i]?=some x,λi H v H'=>H'=H/\∀xs,SqT K H a xs->xs.reverse[i]?=some v,λi H=>∃xs,SqT K H a xs/\xs.length=n/\n<=i⟩
def kcP {P:Program}{w:World}{K:zFr}{tg:Expr}(a r:Addr)(n:Nat):Turn P w K tg (Itv K a n) [r] r (λi h=>v5 h r a ((n:Int) - 1 - i)) where
 mem:=by simp
 obj:=λi h st b hb=>by
  have e:b=r:=by simpa using hb
  subst e;obtain⟨o,e,c,d⟩:=st;exact⟨o,e,λv z=>by rw[d]at z;cases z⟩
 keep:=λi h h' st k=>st.at λo e=>k r (by simp) o e
 item:=by
  intro X hP hw hK hc i pins s σ H E I hf st hg;subst hP hw hK;obtain⟨xs,x,hq,hl,hx⟩:=hg;obtain⟨its,rv,p,hz⟩:=I.tuple hq;have lt:i < xs.length:=by simpa using (List.getElem?_eq_some_iff.mp hx).1
  have hx':xs[n - 1 - i]?=some x:=by rwa [List.getElem?_reverse lt,hl]at hx
  obtain⟨u,hu,ru⟩:=rv.get hx';have hn:=rv.length;obtain⟨f0,f1,f2,f3,f4,f5⟩:=hf r (by simp)
  have st:v5 s.heap r a ((n - 1 - i:Nat):Int):=by
   rw[show (n:Int) - 1 - i=((n - 1 - i:Nat):Int) by omega]at st;exact st
  refine UI st (show s.heap.IsTuple a its.toArray from p) (u:=u) (by simpa using hu) (by rw[zal];omega) λh' tk st' sb=>?_
  have I1:Inv X pins σ H { s with heap:=h',toks:=tk }:=I.turned (t':=tk) (λb o hb e=>(sb.2 b hb).trans e) f0 f1 f3 f4 f5
  have st2:v5 h' r a ((n:Int) - 1 - (i+1:Nat)):=by
   rw[show (n:Int) - 1 - (i+1:Nat)=((n - 1 - i:Nat):Int) - 1 by omega];exact st'
  obtain⟨o,e,c,d⟩:=id st';exact⟨u,rfl,Jb (s:={ s with heap:=h',toks:=tk }) e c d (by decide) ⟨x,H,I1,ru,⟨rfl,λys hy=>by rw[I.Qz hy hq];exact hx⟩,st2,λb hb=>(hf b hb).1⟩⟩
 done:=by
  intro X hP hw hK hc i pins s σ H E I hf st hg;subst hP hw hK;obtain⟨xs,hq,hl,hx⟩:=hg;obtain⟨f0,f1,f2,f3,f4,f5⟩:=hf r (by simp);exact kbt (I.ok.hd hc) (by omega) st λh' eb=>⟨rfl,I.turned (t':=s.toks) (λb o hb e=>eb b o hb e) f0 f1 f3 f4 f5⟩
 self:=λ_ _ _ _ _ st h=>Xq st h
def kem {K:zFr}{C B:List Addr}{H:Hp}{a:Addr}{ds:List D}{vs:List V}(hs:∀a∈C,a∈B)(q:SqT K H a vs)(r:kE K B H ds vs):Walk K C B H (Itv K a vs.length) ds.reverse:=λB' H' x i=>by
 have q':=SqT.kp x.kp q;have r':=kE.ext (x.less hs) r;have hl:=r'.length;refine⟨λd hd=>?_,λh=>⟨vs,q',rfl,by rw[hl];simpa using Nat.le_of_eq h⟩⟩;have lt:i < ds.length:=by simpa using (List.getElem?_eq_some_iff.mp hd).1
 have hd':=hd;rw[List.getElem?_reverse lt]at hd';obtain⟨v,hv,rv⟩:=kE.get r' hd';have hv':vs.reverse[i]?=some v:=by rw[List.getElem?_reverse (by omega),hl];exact hv
 refine⟨⟨vs,v,q',rfl,hv'⟩,λy H2 ⟨e,hy⟩=>?_⟩;subst e;have:=hy vs q';rw[hv']at this;cases this;exact⟨kB.refl _,rv⟩
section
variable {X:Cx}{own:List Bool}{A:List Addr}{E:Nat->Hp->Prop}{a tg:Expr}{fa:P.FE}{pos p1:Pos}
def iRv (K:zFr)(ta:L2.TA):L2.TI:=λσ H R=>ta σ H λvs H1=>∃a xs,vs=[.ref a]/\SqT K H1 a xs/\R (Itv K a xs.length) H1
def uJ:bootBuiltins "reversed" = some (.type "reversed"):=by kernel_rfl
def kg0 {ta:TA}(hg:Gl X "reversed")(hm:X.mg "reversed" = none)(ha:PA X [a] ta)(hs:starEach [a] X.env=[(false,eval a X.env)]:=by rfl):PI X tg (.Call (.Name "reversed" p1) [a] [] pos) (iRv X.K ta):=by
 intro pins s σ H R I h;refine Call_ (zI I hg hm uJ (PyProof.Rows.callWith_type1 (thn (ha pos pins s σ H _ I h) λus s1 ⟨vs,H1,I1,r1,q1⟩=>?_) (by rw[hs];rfl) rfl));obtain⟨l,xs,e,hx,q⟩:=q1;subst e;obtain⟨u,rfl,ru⟩:=vals1 r1;cases ru;obtain⟨us,rx,tx,hz⟩:=I1.tuple hx;refine kac (show s1.heap.IsTuple l us.toArray from tx) (by rw[zal,<- rx.length];exact hz) λh' tk rv kp=>Xq rv ?_
 have I2:Inv X pins σ H1 { s1 with heap:=h',toks:=tk }:=I1.kept (t':=tk) kp;refine⟨s1.heap.objs.size,[s1.heap.objs.size],_,_,H1,rfl,I2,kcP l s1.heap.objs.size xs.length,?_,λc hc=>?_,q⟩
 ·have e:us.toArray.size=xs.length:=by rw[zal,<- rx.length]
  rw[e]at rv;simpa using rv
 ·have:c=s1.heap.objs.size:=by simpa using hc
  rw[this];exact I1.K8 (zak _) (I1.hok.fresh (zak _))
def kcS (a:P.FE):P.FI:=λenv=>a env>>=λx=>match x with
 |.tup xs=>.ok xs.reverse
 |_=>.stuck
def kdL {c:Bool}(ha:Snd X own A E true a fa)(hm:X.mg "reversed" = none)(hg:Gl X "reversed":=by rfl)(hs:starEach [a] X.env=[(false,eval a X.env)]:=by rfl):Xf X own A E c tg (.Call (.Name "reversed" p1) [a] [] pos) (kcS fa):=by
 refine PI.imp (kg0 hg hm (qE ha vS hs) hs) λσ H R ⟨B,env,ok,h⟩=>?_
 refine Va ok (show (match fa env>>=λx=>(match x with | .tup xs=>Rs.ok xs.reverse | _=>.stuck) with | .ok ds=>∀J H',kB H H'->Walk X.K (if c=true then [] else B) B H' J ds->R J H' | .exc c=>∀H',kB H H'->E c H' | .stuck=>False) from h)
  λx v H1 s1 ok1 r1 h1=>?_
 cases x with
 |tup ds=>
  obtain⟨p,vs,rfl,sq,rr⟩:=r1;exact⟨p,vs,rfl,sq,h1 _ H1 (kB.refl _) (kem Kz sq rr)⟩
 |_=>exact h1.elim
end
def VM (ms:List P.Fn)(fi:P.FE)(fr:P.FA):P.FE:=λenv=>fi env>>=λd=>match d with
 |.int i=>match (if 0<=i then ms[i.toNat]? else none) with
  |some m=>fr env>>=m
  |none=>.stuck
 |_=>.stuck
section
variable {X:Cx}{own:List Bool}{A:List Addr}{E:Nat->Hp->Prop}{w:Bool}{e:Expr}{es:List Expr}{fr:P.FA}{pos:Pos}{cls:Nat->Value}{n:Nat}
def At (X:Cx)(cls:Nat->Value)(E:Nat->Hp->Prop)(n:Nat)(a:Addr)(m:P.Fn):Prop:=∃CX k fd ps,wg X.prog X.w X.K X.mg X.base CX k a fd ps (spP X.K cls n m)/\qU k X.A/\PySem.W.keepIn X.K (.ref a)=true/\Binds X.K fd ps []/\Passes CX X (yb cls E)
inductive Pks (X:Cx)(cls:Nat->Value)(E:Nat->Hp->Prop)(n:Nat):List Expr->List P.Fn->Prop
 |nil:Pks X cls E n [] []
 |cons {x:Str} {p:Pos} {a:Addr} {m:P.Fn} {xs:List Expr} {ms:List P.Fn}:Gl X x->X.mg x=some (.ref a)->(x==("__debug__":Str))=false->At X cls E n a m->Pks X cls E n xs ms->Pks X cls E n (.Name x p::xs) (m::ms)
def wL {k j:Nat}{st:Stmt}{ps:List Str}{m:P.Fn}{x:Str}{p:Pos}{xs:List Expr}{ms:List P.Fn}(c:FkX X.prog X.w X.K X.mg X.base cls x st ps k m)(hr:qU j X.A)(hp:Passes (CXr X.prog X.w) X (yb cls E))(h:Pks X cls E n xs ms)(hn:ps.length=n:=by rfl)(hkj:k<=j:=by decide)
 (hg:Gl X x:=by rfl) (hdb:(x==("__debug__":Str))=false:=by decide):Pks X cls E n (.Name x p::xs) (m::ms):=by
 obtain⟨a,fd,c1,g⟩:=c;subst hn;exact .cons hg c1.m hdb ⟨_,_,fd,ps,g,hr.mono hkj,c1.F.kp,c1.b,hp⟩ h
def uC:∀ {xs:List Expr} {ms:List P.Fn},Pks X cls E n xs ms->∃vs:List V,PA X xs (λ_ H Q=>Q vs H)/\vs.length=ms.length/\∀ (i:Nat) (m:P.Fn),ms[i]?=some m->∃a,vs[i]?=some (.ref a)/\At X cls E n a m
 |_,_,.nil=>⟨[],vS,rfl,λi m h=>by cases h⟩
 |_,_,@Pks.cons _ _ _ _ x p a m xs ms hg hm hd ha h=>by
  obtain⟨vs,h1,h2,h3⟩:=uC h;refine⟨.ref a::vs,PA.imp (qE (Z2 (v:=.ref a) hg hm rfl hd) h1 rfl) λσ H Q q=>q,by rw[zam,zam,h2],λi m' hi=>?_⟩
  cases i with
  |zero=>
   cases hi;exact⟨a,rfl,ha⟩
  |succ i=>exact h3 i m' hi
def kdY {M:Model}{B:Around}{F:zEx}{s:Shared}{env:Env}{a b:Expr}{p pos:Pos}{args:List Expr}{Q:zEx}(h:wpAny M B (eval (.Subscript a b p) env) (λf s1=>wpAny M B (callWith pos f [] (backTo pos (starEach args env)) []) Q F s1) F s):wpAny M B (eval (.Call (.Subscript a b p) args [] pos) env) Q F s:=by
 show wpAny M B (do callWith pos (← eval (.Subscript a b p) env) [] (backTo pos (starEach args env)) (backToKw pos (keywordEach [] env))) Q F s;exact zaa h
def VB {xs:List Expr} {ms:List P.Fn} {ix:Expr} {fi:P.FE} {lp sp:Pos} (hp:Pks X cls E n xs ms) (hi:Snd X own A E true ix fi) (ha:Qf X own A E false (e :: es) fr) (hn:(e :: es).length = n:=by rfl) (hz:ms.length <= 100:=by decide) (hs:Zx ix:=by intro _ _; rfl)
 (he:starEach (e::es) X.env=(false,eval e X.env)::starEach es X.env:=by rfl) (hpl:(backTo pos (starEach es X.env)).any (·.1)=false:=by rfl) :
 Snd X own A E w (.Call (.Subscript (.List xs lp) ix sp) (e::es) [] pos) (VM ms fi fr):=by
 refine Snd.any λpins s σ H Q I ⟨B,env,ok,h⟩=>?_
 obtain⟨vs,h1,h2,h3⟩:=uC hp;have hsub:=kew (pos:=sp) kad (YR (pos:=lp) h1) hi hs;refine kdY (thn (hsub pins s σ H (λv H2=>∃a m,v = .ref a/\At X cls E n a m/\kY X.K own A B env σ H2/\Pst false X.K B E H2 (fr env>>=m) Q) I ?_) λf s1 ⟨v,H1,I1,rv,a,m,e1,hat,ok1,q1⟩=>?_)
 ·refine⟨?_,λp hfr=>?_⟩
  ·rw[h2];exact Nat.le_trans hz (by decide)
  have sm:kB H (upd H p (.lst vs)):=kB.upd hfr
  refine vG (w:=true) (ok.same sm) (show Pst false X.K B E (upd H p (.lst vs)) (fi env>>=λd=>match d with
   |.int i=>match (if 0<=i then ms[i.toNat]? else none) with
    |some m=>fr env>>=m
    |none=>.stuck
   |_=>.stuck) Q from Pst.same sm h) λx v H1 _ s1 ok1 r1 q1=>?_
  cases x with
  |int i=>
   cases (show v = .int i from r1);dsimp only at q1
   by_cases h0:0<=i
   ·rw[if_pos h0]at q1
    cases hm:ms[i.toNat]? with
    |none=>rw[hm]at q1;exact q1.elim
    |some m=>
     rw[hm]at q1;obtain⟨a,ea,hat⟩:=h3 _ m hm;have lt:=(List.getElem?_eq_some_iff.mp ea).1;exact⟨p,vs,i,.ref a,rfl,rfl,SqL.of (s1 _ _ k9),by have:=wG ea;rwa [Int.toNat_of_nonneg h0]at this,a,m,rfl,hat,ok1,q1⟩
   ·rw[if_neg h0]at q1;exact q1.elim
  |_=>exact q1.elim
 ·subst e1
  cases rv;obtain⟨CX,k,fd,ps,g,hr,hk,hb,hx⟩:=hat;refine PySem.W.callWith_K (h₀:=X.base) I1.ok.mod.kin hk (thn (ha.1 pos pins s1 σ H1 (λvs H2=>spP X.K cls n m (vs++[]) H2 Q (yb cls E)) I1 ?_) λus s2 ⟨vs2,H2,I2,r,q⟩=>⟨I2.kIn,kcM g hr hb .nil hx I2 r q⟩) he hpl;refine Q8 ok1 q1 λds vs H2 ed s2 ok2 r2 q2=>?_
  have hrr:=r2.reps;rw[List.append_nil];refine⟨by rw[hrr.length,ha.2 env ds ed];exact hn,B,ds,hrr,ok2.bt,?_⟩
  cases q:m ds with
  |ok d=>rw[q]at q2;exact q2
  |exc c=>rw[q]at q2;exact λH3 s3=>⟨c,rfl,q2 H3 s3⟩
  |stuck=>rw[q]at q2;exact q2
end
def ltZ:List Int->List Int->Bool
 | [],[]=>false
 | [],_=>true
 |_::_,[]=>false
 |x::xs,y::ys=>if x=y then ltZ xs ys else decide (x < y)
def Vr (h:Heap)(a:Addr)(xs:List Int):Prop:=∃ia,h.IsList a ia/\ia.size=xs.length/\∀i v,ia[i]?=some v->∃t,v=Value.int (xs.getD i 0) t
section
variable {prog:Program}{w:World}{A:Around}{E:zEx}{s:Shared}
def ke3 {a b:Addr} {xs ys:List Int} {R:Result -> Shared -> Prop} (ha:Vr s.heap a xs) (hb:Vr s.heap b ys):∀ (k i:Nat),xs.length - i = k -> i <= xs.length -> R (.ok (.ret (.bool (ltZ (xs.drop i) (ys.drop i))))) s →
 codeAny (model prog w) A (.builtin "list.__eq__.loop" ⟨[.ref a,.ref b,rawInt i,rawInt 0],[]⟩) R s:=by
 obtain⟨ia,la,sa,va⟩:=ha;obtain⟨ib,lb,sb,vb⟩:=hb;obtain⟨oa,ga,ca,na,da⟩:=id la;obtain⟨ob,gb,cb,nb,db⟩:=id lb;intro k
 induction k with
 |zero=>
  intro i hk hi hR;have e1:ia[i]?=none:=Array.getElem?_eq_none (by omega);refine codeAny_builtin PySem.MeetsSeq3.entry_eq_loop ?_;rw[Around.under_plainId PySem.MeetsSeq3.plain_eq_loop _];unfold Builtin.«list.__eq__.loop»
  wp_walk using wpAny_listItems ga da,wpAny_listItems gb db
  rw[Int.toNat_natCast,e1]
  wp_walk using wpAny_listItems ga da,wpAny_listItems gb db
  show R (.ok (.ret (.bool (decide (ia.size < ib.size))))) s;rw[sa,sb];rw[List.drop_eq_nil_of_le (by omega)]at hR
  cases q:ys.drop i with
  |nil=>
   have:=List.drop_eq_nil_iff.mp q;rw[q]at hR;rw[decide_eq_false (by omega)];exact hR
  |cons y r=>
   have:i < ys.length:=by
    refine Classical.byContradiction λz=>?_
    rw[List.drop_eq_nil_of_le (by omega)]at q;cases q
   rw[q]at hR;rw[decide_eq_true (by omega)];exact hR
 |succ k ih=>
  intro i hk hi hR;have l1:i < ia.size:=by omega
  have e1:ia[i]?=some ia[i]:=Array.getElem?_eq_getElem l1;obtain⟨t1,v1⟩:=va i _ e1;rw[List.drop_eq_getElem_cons (by omega)]at hR;refine codeAny_builtin PySem.MeetsSeq3.entry_eq_loop ?_;rw[Around.under_plainId PySem.MeetsSeq3.plain_eq_loop _];unfold Builtin.«list.__eq__.loop»
  wp_walk using wpAny_listItems ga da,wpAny_listItems gb db
  rw[Int.toNat_natCast,e1]
  cases e2:ib[i]? with
  |none=>
   have l2:=Array.getElem?_eq_none_iff.mp e2
   wp_walk using wpAny_listItems ga da,wpAny_listItems gb db
   show R (.ok (.ret (.bool (decide (ia.size < ib.size))))) s;rw[List.drop_eq_nil_of_le (as:=ys) (by omega)]at hR;rw[decide_eq_false (by omega)];exact hR
  |some y=>
   have l2:=(Array.getElem?_eq_some_iff.mp e2).1;obtain⟨t2,v2⟩:=vb i _ e2;subst v2;rw[v1];dsimp only;have g1:xs.getD i 0=xs[i]'(by omega):=by simp[List.getD_eq_getElem?_getD,show i < xs.length by omega]
   have g2:ys.getD i 0=ys[i]'(by omega):=by simp[List.getD_eq_getElem?_getD,show i < ys.length by omega]
   rw[List.drop_eq_getElem_cons (l:=ys) (by omega),<- g1,<- g2,ltZ]at hR;refine zaa (wpAny_eqBool_int ?_)
   by_cases q:xs.getD i 0=ys.getD i 0
   ·rw[if_pos q]at hR
    rw[if_pos (by rw[beq_iff_eq];exact q)];exact zab ⟨plainId_quiet PySem.MeetsSeq3.plain_eq_loop _,ih (i+1) (by omega) (by omega) hR⟩
   ·rw[if_neg q]at hR
    rw[if_neg (by rw[beq_iff_eq];exact q)];refine zaa (wpAny_listItems ga da (zaa (wpAny_listItems gb db ?_)));rw[e1,e2,v1];dsimp only;exact zaa (show wpAny _ _ (compareOp .Lt _ _) _ _ _ from wpAny_lt_int (zab hR))
def Vr.typeIs {a:Addr}{xs:List Int}(h:Vr s.heap a xs):s.TypeIs (.ref a) "list":=let ⟨_,l,_⟩:=h;l.typeIs
def kdh {a b:Addr}{xs ys:List Int}{Q:zEx}(hu:A.units < cLine)(ha:Vr s.heap a xs)(hb:Vr s.heap b ys)(q:Q (.bool (ltZ xs ys)) s):wpAny (model prog w) A (richCompare .Lt (.ref a) (.ref b)) Q E s:=by
 refine wpAny_richCompare_same_room (op:=.Lt) ha.typeIs hb.typeIs PySem.F.slot_list_lt ?_ hu;refine wpAny_call (codeAny_call_builtin PySem.F.slot_list_lt.plain PySem.F.entry_list_lt (PySem.F.slot_list_lt.check _ _ _ _ _ _ _ _ ha.typeIs (PySem.F.args_list_lt_2 _ _) ?_));have hs:isSubtype (.type "list") (.type "list")=pure true:=by rw[isSubtype_type];kernel_rfl
 have hT:=hb.typeIs;unfold Builtin.«list.__lt__»
 wp_walk
 exact⟨plainId_quiet PySem.MeetsSeq3.plain_eq_loop _,ke3 ha hb _ 0 rfl (Nat.zero_le _) ⟨by simp,q⟩⟩
end
def QE:Rs D->Rs (List Int)
 |.ok (.lst ks)=>if ks.all D.isI then .ok (ks.map D.num) else .stuck
 |_=>.stuck
def K9 (m:P.Fn):D->List Int->List D->Rs D
 |d,_,[]=>.ok d
 |d,k,x::xs=>QE (m [x])>>=λkx=>if ltZ kx k then K9 m x kx xs else K9 m d k xs
def minD (m:P.Fn):D->Rs D
 |.lst (x::xs)=>QE (m [x])>>=λk=>K9 m x k xs
 |_=>.stuck
def keS (m:P.Fn)(a:P.FE):P.FE:=λenv=>a env>>=minD m
section
variable {X:Cx}{pins:List (Addr×Obj)}{σ:L2.St}
def UZ {H:Hp}{s:Shared}{B:List Addr}{a:Addr}{ks:List D}{us:List V}(I:L2.Inv X pins σ H s)(e:H a=some (.lst us))(r:kE X.K B H ks us)(h:ks.all D.isI=true):Vr s.heap a (ks.map D.num):=by
 obtain⟨its,rv,pl,_⟩:=I.list (SqL.of e);refine⟨its.toArray,pl.isList,by rw[zal,<- rv.length,r.length,zai],λi v hv=>?_⟩;have hv:its[i]?=some v:=by simpa using hv
 have lt:i < ks.length:=by
  have:=(List.getElem?_eq_some_iff.mp hv).1;rw[<- rv.length,r.length]at this;exact this
 have ek:ks[i]?=some ks[i]:=zaq lt;obtain⟨x,hx,rx⟩:=kE.get r ek;obtain⟨u,hu,ru⟩:=rv.get hx;rw[hv]at hu;cases hu;have hk:=List.all_eq_true.mp h _ (List.getElem_mem lt);have eg:(ks.map D.num).getD i 0=ks[i].num:=by simp[List.getD_eq_getElem?_getD,lt]
 rw[eg]
 cases q:ks[i] with
 |int z=>
  rw[q]at rx;cases (show x = .int z from rx);exact ru
 |_=>rw[q]at hk;cases hk
def ke6 {k:Nat} {f:Addr} {fd:FuncData} {ps:List Str} {sp:Sp} {E:XK} {H:Hp} {s:Shared} {Q:VK} {us:List Value} {vs:List V} {E':Value -> Shared -> Prop} (F:wg X.prog X.w X.K X.mg X.base CX0 k f fd ps sp) (hr:qU k X.A.in1) (hb:Binds X.K fd ps [])
 (I:L2.Inv X pins σ H s) (r:Vals vs us) (h:sp vs H Q E):wpAny (model X.prog X.w) X.A.in1 (call (.ref f) us) (EP X pins σ Q) E' s:=by
 have hl:us.length=ps.length:=by rw[<- r.length];exact F.len _ _ _ _ h
 refine wpAny_call (codeAny_mono (F.run X.A.in1 X.stack s H ⟨us,[]⟩ us vs Q E hr I.kd9.in1 (by have:=hb s us I.kIn (by rw[List.append_nil];exact hl);rwa [List.append_nil]at this) r h) λr s' hq=>?_)
 cases r with
 |error e=>exact hq.elim
 |ok fl=>
  cases fl with
  |ret u=>exact I.after hq
  |next=>exact False.elim hq
  |brk=>exact False.elim hq
  |cont=>exact False.elim hq
def U1 {H H':Hp}{b:Addr}(f:L2.wN X pins H b)(h:H' b=none):L2.wN X pins H' b:=⟨h,f.2⟩
def U5 {r:Rs D}{c:Nat}(h:QE r = .exc c):False:=by
 unfold QE at h;split at h
 ·split at h <;> cases h
 ·cases h
def kaa {cls:Nat -> Value} {k:Nat} {f:Addr} {fd:FuncData} {ps:List Str} {m:P.Fn} {B:List Addr} {ds:List D} {vs:List V} {p I S:Addr} (F:wg X.prog X.w X.K X.mg X.base CX0 k f fd ps (spP X.K cls 1 m)) (hr:qU (k + 1) X.A) (hb:Binds X.K fd ps []) (hIS:I ≠ S)
 {i:Nat} {s:Shared} {H:Hp} {x:D} {kx:List Int} {oS:Obj} {R:Option Value->Shared->Prop} {E':zEx} (hx:ds[i]?=some x) (hkx:QE (m [x]) = .ok kx) (I0:L2.Inv X pins σ H s) (fI:L2.wN X pins H I) (fS:L2.wN X pins H S) (it:s.heap.IsListIter I p i)
 (hS:s.heap.get? S=some oS) (dS:∀v,oS.data ≠ .cell v) (hp:H p=some (.lst vs)) (rr:kE X.K B H ds vs) (bt:∀b∈B,∃o,H b=some o/\Mut (some o))
 (go:∀u s1,wpAny (model X.prog X.w) X.A.in1 (call (.ref f) [u]) (λw s2=>∃v H2 kq kus ks,w = .ref kq/\L2.Inv X pins σ H2 s2/\kB H H2/\s2.heap.get? S=some oS/\s2.heap.IsListIter I p (i+1)/\RelV v u/\Rep X.K B H2 x v/\H2 kq=some (.lst kus)/\kE X.K B H2 ks kus/\ks.all D.isI=true/\kx=ks.map D.num/\L2.wN X pins H2 I/\L2.wN X pins H2 S) (λ_ _=>False) s1->R (some u) s1) :
 wpAny (model X.prog X.w) X.A.in1 (pyNext (.ref I)) R E' s:=by
 obtain⟨its,rvs,pl,_⟩:=I0.list (SqL.of hp);obtain⟨v,hv,rv⟩:=kE.get rr hx;obtain⟨u,hu,ru⟩:=rvs.get hv;obtain⟨a0,a1,_,a3,a4,a5⟩:=id fI;refine wpAny_pyNext_list_item it pl.isList (x:=u) (by simpa using hu) λh' it' sb=>?_
 have I1:L2.Inv X pins σ H { s with heap:=h' }:=I0.turned (t':=s.toks) (λb o hb e=>(sb.2 b hb).trans e) a0 a1 a3 a4 a5;have hS1:h'.get? S=some oS:=(sb.2 S (Ne.symm hIS)).trans hS;obtain⟨oI,gI,cI,dI⟩:=id it'
 have I2:=I1.pinned (fp:=[I,S]) (λb hb=>by
  rcases List.mem_cons.mp hb with rfl | hb
  ·exact fI
  ·rw[List.mem_singleton.mp hb];exact fS) (λb hb=>by
  rcases List.mem_cons.mp hb with rfl | hb
  ·exact⟨oI,gI,λv z=>by rw[dI]at z;cases z⟩
  ·rw[List.mem_singleton.mp hb];exact⟨oS,hS1,dS⟩)
 refine go u _ (wpAny_mono (ke6 (Q:=λkv H2=>kB H H2/\∃ks,kx=ks.map D.num/\ks.all D.isI=true/\Rep X.K B H2 (.lst ks) kv) (E:=λ_ _ _=>False) F hr.in1 hb I2 (vs:=[v]) (.cons ru .nil) ⟨rfl,B,[x],⟨v,[],rfl,rv,rfl⟩,bt,?_⟩) (λw s2 ⟨kv,H2,J,rkv,sm,ks,e1,e2,kq,kus,e3,_,e4,e5⟩=>?_) λ_ _ z=>z)
 ·cases q:m [x] with
  |ok d=>
   rw[q]at hkx
   cases d with
   |lst ks=>
    unfold QE at hkx;dsimp only at hkx
    by_cases z:ks.all D.isI=true
    ·rw[if_pos z]at hkx
     cases hkx;exact λv2 H2 sm r2=>⟨sm,ks,rfl,z,r2⟩
    ·rw[if_neg z]at hkx;cases hkx
   |_=>cases hkx
  |exc c=>rw[q]at hkx;cases hkx
  |stuck=>rw[q]at hkx;cases hkx
 ·subst e3
  cases rkv;have pI:=J.pin (I,oI) (List.mem_append_right _ (List.mem_append_right _ (zl (by simp) gI)));have pS:=J.pin (S,oS) (List.mem_append_right _ (List.mem_append_right _ (zl (by simp) hS1)));exact⟨v,H2,kq,kus,ks,rfl,J.Vq,sm,pS.1,⟨oI,pI.1,cI,dI⟩,ru,Rep.kp (Kp.of_same sm) rv,e4,e5,e2,e1,U1 fI pI.2.1,U1 fS pS.2.1⟩
def kf8 {E:Nat -> Hp -> Prop} {cls:Nat -> Value} {k:Nat} {f:Addr} {fd:FuncData} {ps:List Str} {m:P.Fn} {B:List Addr} {ds:List D} {vs:List V} {p I S:Addr} {Q:VK} (F:wg X.prog X.w X.K X.mg X.base CX0 k f fd ps (spP X.K cls 1 m)) (hr:qU (k + 1) X.A) (hb:Binds X.K fd ps []) (hIS:I ≠ S) :
 ∀ (r i:Nat) (s:Shared) (H:Hp) (d:D) (kd:List D) (vb:V) (ub:Value) (kq:Addr) (kus:List V) (c:Nat),vs.length - i=r->i<=vs.length->L2.Inv X pins σ H s->L2.wN X pins H I->L2.wN X pins H S->s.heap.IsListIter I p i →
  s.heap.get? S=some (seqObj "list" #[ub,.ref kq] c)->H p=some (.lst vs)->kE X.K B H ds vs->(∀b∈B,∃o,H b=some o/\Mut (some o))->RelV vb ub->Rep X.K B H d vb->H kq=some (.lst kus)->kE X.K B H kd kus->kd.all D.isI=true →
  Pst false X.K B E H (K9 m d (kd.map D.num) (ds.drop i)) Q →
  codeAny (model X.prog X.w) X.A (.builtin "min.loop" ⟨[.ref I,.ref f,.ref S],[]⟩) (λr s'=>match r with | .ok (.ret u)=>EP X pins σ Q u s' | .ok _=>False | .error e=>X.xe e s') s:=by
 have hname:(toString "min" ++ toString ".loop":String) = "min.loop":=by decide
 have hh:=hr.hd;intro r
 induction r with
 |zero=>
  intro i s H d kd vb ub kq kus c hk hi I0 fI fS it hS hp rr bt rv rd hq rk ka h;have hin:i=vs.length:=by omega
  obtain⟨its,rvs,pl,_⟩:=I0.list (SqL.of hp);have hl:=rvs.length;rw[List.drop_eq_nil_of_le (by rw[<- rr.length];omega)]at h;have h:∀v H',kB H H'->Rep X.K B H' d v->Q v H':=h
  obtain⟨a0,a1,_,a3,a4,a5⟩:=id fI;obtain⟨b0,b1,_,b3,b4,b5⟩:=id fS;refine codeAny_builtin PySem.F.entry_min_loop ?_;rw[Around.under_plainId PySem.F.plain_min_loop _];show wpAny _ X.A.in1 (seqItems? (.ref S)>>=_) _ _ s;refine zaa (wpAny_seqItems hS rfl ?_);show wpAny _ X.A.in1 (tryCatch (pyNext (.ref I)) _>>=_) _ _ s;refine zaa (wpAny_tryCatch (wpAny_pyNext_list_end hh it pl.isList (Array.getElem?_eq_none (by rw[zal];omega)) λh' eb=>?_));have I1:L2.Inv X pins σ H { s with heap:=h' }:=I0.turned (t':=s.toks) (λb o hb e=>eb b o hb e) a0 a1 a3 a4 a5;have hS':=eb S _ (Ne.symm hIS) hS;show wpAny _ X.A.in1 (updateSeq S (λ_=>#[])>>=_) _ _ _
  refine zaa (wpAny_updateSeq hS' rfl (zaa (wpAny_letGo (zab ?_))));exact⟨vb,H,I1.turned (t':=s.toks) (λb o hb e=>(Heap.get?_update_other _ _ (Ne.symm hb)).trans e) b0 b1 b3 b4 b5,rv,h vb H (kB.refl _) rd⟩
 |succ r ih=>
  intro i s H d kd vb ub kq kus c hk hi I0 fI fS it hS hp rr bt rv rd hq rk ka h;have hl0:i < ds.length:=by rw[<- rr.length];omega
  have hx:ds[i]?=some ds[i]:=zaq hl0;rw[List.drop_eq_getElem_cons hl0,K9]at h
  cases q:QE (m [ds[i]]) with
  |exc c=>rw[q]at h;exact (U5 q).elim
  |stuck=>rw[q]at h;exact h.elim
  |ok kx=>
  rw[q]at h;have h:Pst false X.K B E H (if ltZ kx (kd.map D.num) then K9 m ds[i] kx (ds.drop (i+1)) else K9 m d (kd.map D.num) (ds.drop (i+1))) Q:=h;obtain⟨b0,b1,_,b3,b4,b5⟩:=id fS;refine codeAny_builtin PySem.F.entry_min_loop ?_;rw[Around.under_plainId PySem.F.plain_min_loop _];show wpAny _ X.A.in1 (seqItems? (.ref S)>>=_) _ _ s;refine zaa (wpAny_seqItems hS rfl ?_);show wpAny _ X.A.in1 (tryCatch (pyNext (.ref I)) _>>=_) _ _ s;refine zaa (wpAny_tryCatch (kaa F hr hb hIS hx q I0 fI fS it hS (λv z=>by cases z) hp rr bt λu s1 hc=>?_));show wpAny _ X.A.in1 (tryCatch (holding [u] (call (.ref f) [u])) _>>=_) _ _ _
  refine zaa (wpAny_tryCatch (wpAny_holding (wpAny_mono hc (λw s2 he=>?_) λ_ _ hF=>hF.elim)));obtain⟨v,H2,kq2,kus2,ks,rfl,J,sm,hS2,it2,ru,rx,hk2,rk2,ka2,ek,fI2,fS2⟩:=he;subst ek;have i1:=UZ J hk2 rk2 ka2;have i2:=UZ J (sm _ _ hq) (kE.kp (Kp.of_same sm) rk) ka;show wpAny _ X.A.in1 (tryCatch (holding [u,.ref kq2] (richCompare .Lt (.ref kq2) (.ref kq)>>=_)) _>>=_) _ _ _;refine zaa (wpAny_tryCatch (wpAny_holding (zaa (kdh hr.in1.kg3 i1 i2 ?_))));refine zaa (wpAny_holding (wpAny_truthy_bool ?_));refine zaa (wpAny_letGo (zab ?_))
  have bt2:∀b∈B,∃o,H2 b=some o/\Mut (some o):=λb hb=>by
   obtain⟨o,e,z⟩:=bt b hb;exact⟨o,sm _ _ e,z⟩
  cases hb':ltZ (ks.map D.num) (kd.map D.num) with
  |true=>
   rw[hb']at h;simp only[if_true];obtain⟨c2,hc2⟩:∃c2,(s2.heap.update S (Obj.mapSeq λ_=>#[u,.ref kq2])).get? S=some (seqObj "list" #[u,.ref kq2] c2):=⟨_,get?_update_seq hS2 λ_=>#[u,.ref kq2]⟩
   refine zaa (wpAny_updateSeq hS2 rfl (zaa (wpAny_letGo ?_)));rw[hname];obtain⟨d0,d1,_,d3,d4,d5⟩:=id fS2;have J2:L2.Inv X pins σ H2 { s2 with heap:=s2.heap.update S (Obj.mapSeq λ_=>#[u,.ref kq2]) }:=J.turned (t':=s2.toks) (λb o hb e=>(Heap.get?_update_other _ _ (Ne.symm hb)).trans e) d0 d1 d3 d4 d5;refine zab ⟨plainId_quiet PySem.F.plain_min_loop _,ih (i+1) _ H2 _ ks v u kq2 kus2 c2 (by omega) (by omega) J2 fI2 fS2 (it2.at λo e=>(Heap.get?_update_other _ _ (Ne.symm hIS)).trans e) hc2 (sm _ _ hp) (kE.kp (Kp.of_same sm) rr) bt2 ru rx hk2 rk2 ka2 (Pst.same sm h)⟩
  |false=>
   rw[hb']at h;simp only[Bool.false_eq_true,if_false];refine zaa (wpAny_letGo ?_);rw[hname];refine zab ⟨plainId_quiet PySem.F.plain_min_loop _,ih (i+1) _ H2 d kd vb ub kq kus c (by omega) (by omega) J fI2 fS2 it2 hS2 (sm _ _ hp) (kE.kp (Kp.of_same sm) rr) bt2 rv (Rep.kp (Kp.of_same sm) rd) (sm _ _ hq) (kE.kp (Kp.of_same sm) rk) ka (Pst.same sm h)⟩
end
def boot_min:bootBuiltins "min" = some (.builtin "min"):=by kernel_rfl
section
variable {X:Cx}{pins:List (Addr×Obj)}{σ:L2.St}
def kge {E:Nat -> Hp -> Prop} {cls:Nat -> Value} {k:Nat} {f:Addr} {fd:FuncData} {ps:List Str} {m:P.Fn} {B:List Addr} {d:D} {v:V} {u:Value} {Q:VK} {H:Hp} {s:Shared} (F:wg X.prog X.w X.K X.mg X.base CX0 k f fd ps (spP X.K cls 1 m)) (hr:qU (k + 1) X.A) (hb:Binds X.K fd ps [])
 (I0:L2.Inv X pins σ H s) (ru:RelV v u) (rd:Rep X.K B H d v) (bt:∀b∈B,∃o,H b=some o/\Mut (some o)) (h:Pst false X.K B E H (minD m d) Q) :
 wpAny (model X.prog X.w) X.A (call (.builtin "min") [u] [(Str.ofString "key",.ref f)]) (EP X pins σ Q) X.xe s:=by
 have hname:(toString "min" ++ toString ".loop":String) = "min.loop":=by decide
 cases d with
 |lst ds=>
  cases ds with
  |nil=>exact h.elim
  |cons x xs=>
   obtain⟨p,vs,rfl,hp',hp,rr⟩:=rd;cases ru;have h:Pst false X.K B E H (QE (m [x])>>=λk=>K9 m x k xs) Q:=h
   cases q:QE (m [x]) with
   |exc c=>exact (U5 q).elim
   |stuck=>rw[q]at h;exact h.elim
   |ok kx=>
   rw[q]at h;have h:Pst false X.K B E H (K9 m x kx xs) Q:=h;obtain⟨its,rvs,pl,_⟩:=I0.list (SqL.of hp);refine kmk_tree PySem.F.kind_min PySem.F.plain_min PySem.F.entry_min (kmk_min_key _ _) ?_;show wpAny _ X.A.in1 (Builtin.Builtins.bindParams "min" ["key","default"] 0 ⟨[],[(Str.ofString "key",.ref f)]⟩>>=_) _ _ s;refine zaa (wpAny_of_eq (show Builtin.Builtins.bindParams "min" ["key","default"] 0 ⟨[],[(Str.ofString "key",.ref f)]⟩=pure [some (.ref f),none] from rfl) ?_);refine zaa (zab ?_);refine zaa (wpAny_pyIter_list pl.isList ?_);refine zaa (wpAny_newList ?_ (Nat.zero_le _));rw[hname];refine zab ⟨plainId_quiet PySem.F.plain_min_loop _,?_⟩
   have I1:L2.Inv X pins σ H { s with heap:=s.heap.push { cls:=.type "list_iterator",data:=.fields #[.ref p,.int 0 0] } }:=I0.kept (t':=s.toks) λb u e=>zac _ e
   have I2:L2.Inv X pins σ H { s with heap:=(s.heap.push { cls:=.type "list_iterator",data:=.fields #[.ref p,.int 0 0] }).push (seqObj "list" #[] 0) }:=I1.kept (t':=s.toks) λb u e=>zac _ e
   have fI:L2.wN X pins H s.heap.objs.size:=I0.K8 (zak _) (I0.hok.fresh (zak _));have hS:(s.heap.push { cls:=.type "list_iterator",data:=.fields #[.ref p,.int 0 0] }).objs.size=s.heap.objs.size+1:=size_push' ..;have fS:L2.wN X pins H (s.heap.push { cls:=.type "list_iterator",data:=.fields #[.ref p,.int 0 0] }).objs.size:=I1.K8 (zak _) (I1.hok.fresh (zak _));have hIS:s.heap.objs.size≠(s.heap.push { cls:=.type "list_iterator",data:=.fields #[.ref p,.int 0 0] }).objs.size:=by rw[hS];omega
   have gS:((s.heap.push { cls:=.type "list_iterator",data:=.fields #[.ref p,.int 0 0] }).push (seqObj "list" #[] 0)).get? (s.heap.push { cls:=.type "list_iterator",data:=.fields #[.ref p,.int 0 0] }).objs.size=some (seqObj "list" #[] 0):=zag _ rfl;have gI:((s.heap.push { cls:=.type "list_iterator",data:=.fields #[.ref p,.int 0 0] }).push (seqObj "list" #[] 0)).IsListIter s.heap.objs.size p 0:=⟨_,zac _ (zag _ rfl),rfl,rfl⟩;refine codeAny_builtin PySem.F.entry_min_loop ?_;rw[Around.under_plainId PySem.F.plain_min_loop _];show wpAny _ X.A.in1 (seqItems? (.ref _)>>=_) _ _ _;refine zaa (wpAny_seqItems gS rfl ?_)
   show wpAny _ X.A.in1 (tryCatch (pyNext (.ref s.heap.objs.size)) _>>=_) _ _ _;refine zaa (wpAny_tryCatch (kaa (oS:=seqObj "list" #[] 0) F hr hb hIS (i:=0) (show (x::xs)[0]?=some x from rfl) q I2 fI fS gI gS (λv z=>by cases z) hp rr bt λu s1 hc=>?_));show wpAny _ X.A.in1 (tryCatch (holding [u] (call (.ref f) [u])) _>>=_) _ _ _;refine zaa (wpAny_tryCatch (wpAny_holding (wpAny_mono hc (λw s2 he=>?_) λ_ _ hF=>hF.elim)));obtain⟨v,H2,kq2,kus2,ks,rfl,J,sm,hS2,it2,ru,rx,hk2,rk2,ka2,ek,fI2,fS2⟩:=he;subst ek;generalize (s.heap.push { cls:=.type "list_iterator",data:=.fields #[.ref p,.int 0 0] }).objs.size=S at *
   obtain⟨c2,hc2⟩:∃c2,(s2.heap.update S (Obj.mapSeq λ_=>#[u,.ref kq2])).get? S=some (seqObj "list" #[u,.ref kq2] c2):=⟨_,get?_update_seq hS2 λ_=>#[u,.ref kq2]⟩
   show wpAny _ X.A.in1 (updateSeq S (λ_=>#[u,.ref kq2])>>=_) _ _ _;refine zaa (wpAny_updateSeq hS2 rfl ?_);rw[hname];obtain⟨d0,d1,_,d3,d4,d5⟩:=id fS2;have J2:L2.Inv X pins σ H2 { s2 with heap:=s2.heap.update S (Obj.mapSeq λ_=>#[u,.ref kq2]) }:=J.turned (t':=s2.toks) (λb o hb e=>(Heap.get?_update_other _ _ (Ne.symm hb)).trans e) d0 d1 d3 d4 d5
   have bt2:∀b∈B,∃o,H2 b=some o/\Mut (some o):=λb hb=>by
    obtain⟨o,e,z⟩:=bt b hb;exact⟨o,sm _ _ e,z⟩
   have hl:vs.length=xs.length+1:=rr.length;exact zab ⟨plainId_quiet PySem.F.plain_min_loop _,kf8 (E:=E) F hr hb hIS _ 1 _ H2 _ ks v u kq2 kus2 c2 rfl (by omega) J2 fI2 fS2 (it2.at λo e=>(Heap.get?_update_other _ _ (Ne.symm hIS)).trans e) hc2 (sm _ _ hp) (kE.kp (Kp.of_same sm) rr) bt2 ru rx hk2 rk2 ka2 (Pst.same sm h)⟩
 |_=>exact h.elim
variable {own:List Bool}{A:List Addr}{E:Nat->Hp->Prop}{w:Bool}{a:Expr}{fa:P.FE}{pos:Pos}{cls:Nat->Value}
def kdN {k j:Nat} {st:Stmt} {ps:List Str} {m:P.Fn} {x:Str} {p kp xp:Pos} (c:Fk X.prog X.w X.K X.mg X.base cls x st ps k m) (hr:qU j X.A) (hm:X.mg "min" = none) (ha:Snd X own A E false a fa) (hn:ps.length = 1:=by rfl) (hkj:k + 1 <= j:=by decide) (hg:Gl X "min":=by rfl) (hgx:Gl X x:=by rfl) (hdb:(x == ("__debug__":Str)) = false:=by decide)
 (hs:starEach [a] X.env=[(false,eval a X.env)]:=by rfl) :
 Snd X own A E w (.Call (.Name "min" p) [a] [⟨some "key",.Name x xp,kp⟩] pos) (keS m fa):=by
 refine Snd.any λpins s σ H Q I ⟨B,env,ok,h⟩=>?_
 obtain⟨f,fd,c1,F⟩:=c;rw[hn]at F;refine wpAny_Call_Name_kw (zI I hg hm boot_min ?_);refine callWith_kw (thn ((kg ha ki hs).1 pos pins s σ H (λvs H1=>∃v d,vs=[v]/\Rep X.K B H1 d v/\kY X.K own A B env σ H1/\Pst false X.K B E H1 (minD m d) Q) I ?_) λus s1 ⟨vs,H1,I1,r,v,d,e1,rd,ok1,h1⟩=>?_) (by show backTo pos (starEach [a] X.env)=_;rw[hs];rfl) (by rw[hs];rfl) rfl rfl
 ·refine Q8 (k:=λds=>match ds with | [d]=>minD m d | _=>.stuck) ok (show Pst false X.K B E H (kh fa kD env>>=_) Q from ?_) λds vs H1 e1 s1 ok1 r1 h1=>?_
  ·have h:Pst false X.K B E H (fa env>>=minD m) Q:=h
   unfold kh kD
   cases q:fa env with
   |ok d=>rw[q]at h;exact h
   |exc c=>rw[q]at h;exact h
   |stuck=>rw[q]at h;exact h
  ·have rr:=r1.reps
   cases ds with
   |nil=>exact h1.elim
   |cons d r=>
    cases r with
    |nil=>
     obtain⟨v,r',e2,rd,e3⟩:=rr;cases (show r'=[] from e3);exact⟨v,d,e2,rd,ok1,h1⟩
    |cons _ _=>exact h1.elim
 ·subst e1
  cases r with
  |cons ru rn=>
   cases rn;refine wpAny_evalAll_cons (zaa (Vb I1 hgx c1.m (zaa (wpAny_standAt (zab (wpAny_evalAll_nil ?_)))) hdb));exact kge F (hr.mono hkj) c1.b I1 ru rd ok1.bt h1
end
def kbl:typeLookup (.type "reversed") "__len__" = pure none:=by rw[typeLookup_type,builtinLookup_eq_fast];kernel_rfl
def ZZ:Slot "reversed" "__length_hint__" "reversed.__length_hint__":=.of (owner:="reversed") (n:="__length_hint__") (by rw[typeLookup_type,builtinLookup_eq_fast];kernel_rfl) (by decide +kernel) (by decide +kernel) (by decide +kernel) (by first | exact .inl (by decide +kernel) | exact .inr (by decide +kernel)) (by rw[isSubtype_type];kernel_rfl)
def kev:entryFor table "reversed.__length_hint__" = some Builtin.«reversed.__length_hint__»:=entryFor_of_tree (by kernel_rfl)
def kfG (a:Value):argsOk "reversed.__length_hint__" ⟨[a],[]⟩:=by
 unfold argsOk;kernel_rfl
section
variable {prog:Program}{w:World}{A:Around}{E:zEx}{s:Shared}{r t:Addr}{us:Array Value}
def keo {i:Int}{Q:zEx}(x:v5 s.heap r t i)(b:s.heap.IsTuple t us)(hz:us.size<=sizeLine)(hi:i < us.size)(q:∀tk tk',Q (.int (i+1) tk') { s with toks:=tk }):wpAny (model prog w) A (call (.builtin "reversed.__length_hint__") [.ref r]) Q E s:=by
 obtain⟨o1,g1,c1,d1⟩:=id x;refine wpAny_call_entry ZZ x.typeIs kev ?_ (kfG _);unfold Builtin.«reversed.__length_hint__»;have ls:=yN;generalize hC:@PySem.call=CC
 wp_walk using wpAny_field g1 d1 (i:=0) (x:=.ref t) rfl,wpAny_field g1 d1 (i:=1) (x:=.int i 0) rfl
 subst hC;refine len_tuple (show IsTup s.heap t us from b) (by omega) ?_
 wp_walk using wpAny_field (s:={ s with toks:=s.toks+1 }) g1 d1 (i:=1) (x:=.int i 0) rfl
 rw[d1];dsimp only;refine zab (zab ?_);show wpAny _ _ (if (us.size:Int) < i+1 then _ else retInt (i+1)) _ _ _;rw[if_neg (by omega)]
 wp_walk
 exact⟨_,rfl,q _ _⟩
def kd3 {i:Int}{Q:Bool->Shared->Prop}(x:v5 s.heap r t i)(b:s.heap.IsTuple t us)(hz:us.size<=sizeLine)(h0:-1<=i)(hi:i < us.size)(q:∀c tk,Q c { s with toks:=tk }):wpAny (model prog w) A (Builtin.List.listLengthHint (.ref r)) Q E s:=by
 have ls:=yN;unfold Builtin.List.listLengthHint;refine zaa (wpAny_specialOf x.typeIs kbl ?_);show wpAny _ A (specialOf (Value.ref r) (Str.ofString "__length_hint__")>>=_) _ _ _;refine zaa (wpAny_specialOf x.typeIs ZZ.lookup ?_);generalize he:("reversed.__length_hint__":String)=id0
 wp_delta
 rw[show splitId id0=some ("reversed","__length_hint__") from by subst he;decide +kernel];subst he;refine zaa (wpAny_isInstance (T:="reversed") (b:=true) x.typeIs (by rw[isSubtype_type];kernel_rfl) (wpAny_ite_split (λz=>absurd z (by decide)) λ_=>?_));refine wpAny_ite_split (λz=>absurd z (by decide +kernel)) λ_=>?_
 refine zaa (wpAny_rule ?_);rw[ZZ.bind];refine zaa (zab ?_);dsimp only;refine zaa (wpAny_attempt (keo x b hz hi λtk tk'=>?_));show wpAny _ A (asInt? (.int (i+1) tk')>>=_) _ _ _;refine zaa (zab ?_)
 have f1:Builtin.List.listFitsIndex (i+1)=true:=by
  unfold Builtin.List.listFitsIndex;simp only[Bool.and_eq_true,decide_eq_true_eq];omega
 have f2:Builtin.List.listTooLong (i+1).toNat=false:=by
  unfold Builtin.List.listTooLong;exact decide_eq_false (by omega)
 dsimp only;rw[f1,f2,if_neg (by decide),if_neg (by omega),if_neg (by decide)];exact zab (q _ _)
def kcA (hh:A.handled=none)(hne:t≠r)(hz:us.size<=sizeLine):Walks prog w A r [r,t] [r] us.size (λi v=>us[us.size - 1 - i]?=some v) (λi h=>v5 h r t ((us.size:Int) - 1 - i)/\h.IsTuple t us) where
 sub:=λb hb=>by simp at hb;simp[hb]
 frame:=λ_ _ _ st hk=>⟨st.1.at λo e=>hk r (by simp) o e,st.2.at λo e=>hk t (by simp) o e⟩
 item:=λi s Q E hi st hQ=>by
  have e1:us[us.size - 1 - i]?=some (us[us.size - 1 - i]'(by omega)):=Array.getElem?_eq_getElem (by omega)
  have st1:v5 s.heap r t ((us.size - 1 - i:Nat):Int):=by
   rw[show ((us.size - 1 - i:Nat):Int)=(us.size:Int) - 1 - i by omega];exact st.1
  refine UI st1 st.2 e1 hz λh' tk x sb=>hQ _ h' tk e1 ⟨?_,st.2.at λo e=>(sb.2 t hne).trans e⟩ λb o hb e=>(sb.2 b (λh=>hb (by simp[h]))).trans e
  rw[show (us.size:Int) - 1 - (i+1:Nat)=((us.size - 1 - i:Nat):Int) - 1 by omega];exact x
 done:=λs Q E st hQ=>kbt hh (by omega) st.1 λh' he'=>hQ h' s.toks λb o hb e=>he' b o (λh=>hb (by simp[h])) e
 self:=λ_ _ _ _ st hQ=>Xq st.1 hQ
def Uw {R:List Value->Shared->Prop}(hh:A.handled=none)(x:v5 s.heap r t ((us.size:Int) - 1))(b:s.heap.IsTuple t us)(hz:us.size<=sizeLine)
 (q:∀h' tk acc,(∀b o,b≠r->s.heap.get? b=some o->h'.get? b=some o)->ItemsOf (λi v=>us[us.size - 1 - i]?=some v) acc us.size->R acc.toList { s with heap:=h',toks:=tk }):wpAny (model prog w) A (collect (.ref r)) R E s:=by
 have hr:r < s.heap.objs.size:=let ⟨_,g,_⟩:=x;zaf g
 have ht:t < s.heap.objs.size:=let ⟨_,g,_⟩:=b;zaf g
 have hne:t≠r:=λz=>by
  obtain⟨o,g,c,_⟩:=x;obtain⟨o',g',c',_⟩:=b;rw[z,g]at g';cases g';rw[c]at c';exact absurd c' (by decide)
 have wk:=kcA (prog:=prog) (w:=w) (A:=A.in1) hh hne hz;unfold collect;refine zaa (wpAny_runValue (codeAny_builtin PySem.F.entry_proto_collect ?_));rw[Around.under_plainId PySem.F.plain_proto_collect ⟨[.ref r],[]⟩];refine zaa (m:=newList []) (wpAny_newObj_type ?_);refine zab ⟨plainId_quiet PySem.F.plain_list_iadd ⟨[.ref s.heap.objs.size,.ref r],[]⟩,codeAny_builtin PySem.F.entry_list_iadd ?_⟩;rw[Around.under_plainId PySem.F.plain_list_iadd ⟨[.ref s.heap.objs.size,.ref r],[]⟩];have gS:(s.heap.push { cls:=.type "list",data:=.seq ([]:List Value).toArray }).get? s.heap.objs.size=some { cls:=.type "list",data:=.seq #[] }:=zag _ rfl
 have x1:v5 (s.heap.push { cls:=.type "list",data:=.seq ([]:List Value).toArray }) r t ((us.size:Int) - 1):=x.at λo e=>zac _ e
 have b1:(s.heap.push { cls:=.type "list",data:=.seq ([]:List Value).toArray }).IsTuple t us:=b.at λo e=>zac _ e
 show wpAny _ A.in1 (Builtin.List.listExtendWith (.ref s.heap.objs.size) (.ref r) (.ref s.heap.objs.size)) _ _ _;unfold Builtin.List.listExtendWith;refine zaa (wpAny_typeOf (T:="reversed") (v5.typeIs x1) ?_);have e1:Builtin.List.listSameRef (.ref s.heap.objs.size) (.ref r)=false:=by simp[Builtin.List.listSameRef,Nat.ne_of_gt hr]
 simp only[e1,show (Value.type "reversed" == Value.type "list")=false from by decide,show (Value.type "reversed" == Value.type "tuple")=false from by decide,Bool.or_false,Bool.false_eq_true,if_false];refine zaa (Xq x1 ?_)
 have nf:s.heap.objs.size∉[r,t]:=λz=>by
  rcases List.mem_cons.mp z with z | z
  ·exact absurd z (Nat.ne_of_gt hr)
  ·exact absurd (List.mem_singleton.mp z) (Nat.ne_of_gt ht)
 have loop:∀ (h2:Heap) (c tk:Nat),(∀b o,b≠s.heap.objs.size->(s.heap.push { cls:=.type "list",data:=.seq ([]:List Value).toArray }).get? b=some o->h2.get? b=some o)->h2.get? s.heap.objs.size=some { cls:=.type "list",data:=.seq #[] c } →
  codeAny (model prog w) A (.builtin "list.extend.loop" ⟨[.ref s.heap.objs.size,.ref r,.ref s.heap.objs.size],[]⟩) (λr' s'=>∃xs c,r' = .ok (.ret (.ref s.heap.objs.size))/\s'.heap.get? s.heap.objs.size=some { cls:=.type "list",dict:=none,data:=.seq xs c,slots:=#[] }/\R xs.toList s') { s with heap:=h2,toks:=tk }:=by
  intro h2 c tk k2 g2;refine codeAny_extend_loopS wk.toS hz _ nf _ us.size 0 _ #[] c rfl (Nat.zero_le _) ⟨by simpa using x1.at λo e=>k2 r o (zas hr) e,b1.at λo e=>k2 t o (zas ht) e⟩ g2 (ItemsOf.nil _) λs' acc c' m g' ha=>?_
  refine⟨acc,c',rfl,g',?_⟩;rw[Moved.eq_with m];refine q s'.heap s'.toks acc (λb o nb e=>m.heap b o (λz=>?_) (k2 b o (zas (zaf e)) (zac _ e))) ha
  rcases List.mem_cons.mp z with z | z
  ·exact absurd z (zas (zaf e))
  ·exact nb (List.mem_singleton.mp z)
 refine zaa (wpAny_holding (kd3 x1 b1 hz (by omega) (by omega) λcc tk=>?_));refine wpAny_ite_split (λ_=>?_) λ_=>zab ⟨plainId_quiet PySem.F.plain_extend_loop _,codeAny_mono (loop _ _ tk (λb o _ e=>e) gS) λr' s' ⟨xs,c,e,g,y⟩=>by subst e;exact zaa (wpAny_load g (zab y))⟩
 refine zaa (wpAny_rule (zaa (m:=updateSeq s.heap.objs.size (·.push .none)>>=λ_=>updateSeq s.heap.objs.size (·.pop)) (zaa (wpAny_updateSeq gS rfl ?_))));have g2:=Heap.get?_update_self (Obj.mapSeq (·.push Value.none)) gS rfl;refine wpAny_updateSeq (hz:=by seq_fits) g2 rfl ?_;have g3:=Heap.get?_update_self (Obj.mapSeq (·.pop)) g2 rfl;exact zab ⟨plainId_quiet PySem.F.plain_extend_loop _,codeAny_mono (loop _ _ tk (λb o z e=>(Heap.get?_update_other _ _ (Ne.symm z)).trans ((Heap.get?_update_other _ _ (Ne.symm z)).trans e)) g3) λr' s' ⟨xs,c,e,g,y⟩=>by subst e;exact zaa (wpAny_load g (zab y))⟩
def kdJ {Q:zEx}(hh:A.handled=none)(x:v5 s.heap r t ((us.size:Int) - 1))(b:s.heap.IsTuple t us)(hz:us.size<=sizeLine)
 (q:∀ (h':Heap) (tk:Nat) (acc:Array Value),(∀b o,b≠r->s.heap.get? b=some o->h'.get? b=some o)->ItemsOf (λi v=>us[us.size - 1 - i]?=some v) acc us.size->Q (.ref h'.objs.size) { s with heap:=h'.push { cls:=.type "tuple",data:=.seq acc },toks:=tk }) :
 wpAny (model prog w) A (call (.type "tuple") [.ref r]) Q E s:=by
 refine callType_codes (Q₁:=λobj s₁=>s₁.TypeIs obj "tuple" /\ Q obj s₁) PySem.F.called_tuple (PySem.F.typeCall_tuple_1 _) PySem.F.entry_object_init ?_ λobj s₁ h₁=>?_
 ·refine codeAny_of_tree ?_;show wpAny _ _ (do checkBuiltinCall "tuple.__new__" ⟨[.type "tuple",.ref r],[]⟩;again (.builtin "tuple.__new__" ⟨[.type "tuple",.ref r],[]⟩)) _ _ s;refine zaa (wpAny_of_eq (PySem.F.newCall_tuple_1 _) (zab ⟨plainId_quiet PySem.F.plain_tuple_new _,codeAny_builtin PySem.F.entry_tuple_new ?_⟩));rw[Around.under_plainId PySem.F.plain_tuple_new _];have hsub:=sub_tuple_self;have hinit:=init_tuple_lookup;have hmh:=madeHere_tuple;have hTI:=v5.typeIs x;have hcol:=λ(E':zEx) (R:List Value->Shared->Prop)=>Uw (prog:=prog) (w:=w) (A:=A.in1.in1) (E:=E') (R:=R) hh x b hz
  wp_walk using wpAny_typeOf hTI,hcol
  intro h' tk acc hk hacc;show wpAny _ _ (Builtin.Tuple.tupleExact acc.toList.toArray>>=λv=>ret v) _ _ _;unfold Builtin.Tuple.tupleExact;refine zaa (wpAny_newObj_type ?_ (by show acc.toList.toArray.size<=sizeLine;simp only[Array.toArray_toList];rw[hacc.1];exact hz));refine zab ?_;have e:acc.toList.toArray=acc:=by simp
  rw[e];exact⟨⟨_,zag _ rfl,rfl⟩,q h' tk acc hk hacc⟩
 ·exact⟨h₁.1,PySem.F.args_object_init_2 obj _,object_init_meets PySem.F.called_tuple.init.lookup PySem.F.called_tuple.made (by decide) prog w A.in1 _ s₁ ⟨h₁.1,rfl,h₁.2⟩⟩
end
section
variable {X:Cx}{own:List Bool}{A:List Addr}{E:Nat->Hp->Prop}{w:Bool}{a:Expr}{fa:P.FE}{pos p p1 p2:Pos}
def kab (a:P.FE):P.FE:=λenv=>a env>>=λx=>match x with
 |.tup xs=>.ok (.tup xs.reverse)
 |_=>.stuck
def kc6:bootBuiltins "tuple" = some (.type "tuple"):=by kernel_rfl
def uz {K:zFr}{B:List Addr}{H:Hp}:∀ {ds:List D} {vs:List V},kE K B H ds vs->kE K B H ds.reverse vs.reverse
 | [],vs,h=>by cases (show vs=[] from h);exact h
 |d::ds,vs,⟨v,r,e,h1,h2⟩=>by
  subst e;rw[List.reverse_cons,List.reverse_cons];exact kE.append (uz h2) ⟨v,[],rfl,h1,rfl⟩
def kaJ {j:Nat} (hr:qU j X.A) (ha:Snd X own A E true a fa) (hm:X.mg "reversed" = none) (hmt:X.mg "tuple" = none) (hg:Gl X "reversed":=by rfl) (hgt:Gl X "tuple":=by rfl) (hs:starEach [a] X.env = [(false,eval a X.env)]:=by rfl) :
 Snd X own A E w (.Call (.Name "tuple" p) [.Call (.Name "reversed" p1) [a] [] p2] [] pos) (kab fa):=by
 refine Snd.any λpins s σ H Q I ⟨B,env,ok,h⟩=>?_
 refine Call_ (zI I hgt hmt kc6 (PyProof.Rows.callWith_type1 ?_ rfl rfl));show wpAny _ _ (spliced ((false,eval (.Call (.Name "reversed" p1) [a] [] p2) X.env)::[])) _ _ s;refine Calls.spliced_cons (Call_ (zI I hg hm uJ (PyProof.Rows.callWith_type1 (thn (qE ha vS hs p2 pins s σ H (λvs H1=>∃t xs ds,vs=[.ref t]/\SqT X.K H1 t xs/\kE X.K B H1 ds xs/\Pst false X.K B E H1 (.ok (.tup ds.reverse)) Q) I ?_) λus s1 ⟨vs,H1,I1,r1,q1⟩=>?_) (by rw[hs];rfl) rfl)))
 ·refine vG (w:=true) ok (show Pst false X.K B E H (fa env>>=λx=>match x with | .tup xs=>.ok (.tup xs.reverse) | _=>.stuck) Q from h) λx v H1 _ s1 ok1 r1 q1=>?_
  cases x with
  |tup ds=>
   obtain⟨t,vs,rfl,sq,rr⟩:=r1;exact⟨t,vs,ds,rfl,sq,rr,q1⟩
  |_=>exact q1.elim
 obtain⟨t,xs,ds,e,hx,rr,q⟩:=q1;subst e;obtain⟨u,rfl,ru⟩:=vals1 r1;cases ru;obtain⟨us,rx,tx,hz⟩:=I1.tuple hx;have hu:us.length=xs.length:=rx.length.symm;refine kac (show s1.heap.IsTuple t us.toArray from tx) (by rw[zal,hu];exact hz) λh2 tk rv kp=>?_
 have I2:L2.Inv X pins σ H1 { s1 with heap:=h2,toks:=tk }:=I1.kept (t':=tk) kp;have fr:L2.wN X pins H1 s1.heap.objs.size:=I1.K8 (zak _) (I1.hok.fresh (zak _));obtain⟨a0,a1,_,a3,a4,a5⟩:=id fr;refine zab (kdJ hr.hd (s:={ s1 with heap:=h2,toks:=tk }) rv ((show s1.heap.IsTuple t us.toArray from tx).at λo e=>kp _ o e) (by rw[zal,hu];exact hz) λh3 tk3 acc k3 hacc=>?_);have I3:L2.Inv X pins σ H1 { s1 with heap:=h3,toks:=tk3 }:=I2.turned (t':=tk3) (λb o hb e=>k3 b o hb e) a0 a1 a3 a4 a5
 have ea:acc.toList=us.reverse:=by
  refine List.ext_getElem? λi=>?_
  have hsz:acc.size=us.length:=hacc.1.trans zal
  by_cases hi:i < us.length
  ·have e1:acc[i]?=some (acc[i]'(by omega)):=Array.getElem?_eq_getElem (by omega)
   have e2:=hacc.2 i _ e1;rw[List.getElem?_reverse hi];rw[zal]at e2;simp only[List.getElem?_toArray]at e2;rw[e2,<- e1];simp
  ·rw[List.getElem?_eq_none (by rw[zao];omega),List.getElem?_eq_none (by rw[List.length_reverse];omega)]
 have I4:=I3.laid (a:=h3.objs.size) (o:=.tup xs.reverse) (t':=tk3) (h':=h3.push { cls:=.type "tuple",data:=.seq acc }) (λb u e=>zac _ e) (zak _) ⟨by rw[List.length_reverse];exact hz,us.reverse,rx.reverse,by rw[show us.reverse.toArray=acc from by rw[<- ea]];exact⟨_,zag _ rfl,rfl,_,rfl⟩⟩;have hfr:=I3.hok.fresh (a:=h3.objs.size) (zak _);have sm:kB H1 (upd H1 h3.objs.size (.tup xs.reverse)):=kB.upd hfr;exact⟨.ref h3.objs.size,_,I4,rfl,q _ _ sm ⟨_,_,rfl,SqT.of k9,uz (kE.kp (Kp.of_same sm) rr)⟩⟩
end
def ZA:∀ {bs:List Bool} {us:List Value},Vals (bs.map V.bl) us->us=bs.map Value.bool
 | [],_,h=>by cases h;rfl
 |b::bs,_,h=>by
  cases h with
  |cons r h=>
   cases r;rw[ZA h];rfl
section
variable {X:Cx}
def kgl:V->List V->Hp->VK->Prop:=λx vs H Q=>∃ (l:Addr) (bs:List Bool) (b:Bool),x = .ref l/\vs=[.bl b]/\H l=some (.lst (bs.map V.bl))/\Q (.int (bs.countP (·==b):Nat)) H
def kbq:MtM X "list.count" kgl:=by
 intro pins s σ H x vs v us Q I rx rv h;obtain⟨l,bs,b,rfl,rfl,hH,q⟩:=h;cases rx;obtain⟨u,rfl,ru⟩:=rv.one;cases (show u = .bool b from ru);obtain⟨z,its,n,r,hl,e⟩:=I.VY hH;have ei:=ZA r;subst ei;refine call_meets PySem.F.slot_list_count ⟨_,e,rfl⟩ PySem.F.entry_list_count (PySem.F.args_list_count_2 _ _) (PySem.SeqAt.list_countAt l _ n none #[] (.bool b) (isBoolOf b)) ⟨e,λy hy=>?_,?_⟩
 ·obtain⟨c,_,rfl⟩:=List.mem_map.mp (show y∈bs.map Value.bool by simpa using hy);exact PySem.SeqAt.EqAt.bool_bool c b
 ·have ec:(bs.map Value.bool).countP (isBoolOf b)=bs.countP (·==b):=by
   rw[List.countP_map];rfl
  show EP X pins σ Q (.int ((bs.map Value.bool).countP (isBoolOf b):Nat) s.toks) _;rw[ec];exact⟨.int _,H,I.tok _,⟨_,rfl⟩,q⟩
def ke7:V->List V->Hp->VK->Prop:=λx vs H Q=>∃ (l:Addr) (bs:List Bool) (b:Bool) (j:Nat),x = .ref l/\vs=[.bl b]/\H l=some (.lst (bs.map V.bl))/\bs[j]?=some b/\(∀m:Nat,m < j->bs[m]?≠some b)/\Q (.int (j:Int)) H
def kcD:MtM X "list.index" ke7:=by
 intro pins s σ H x vs v us Q I rx rv h;obtain⟨l,bs,b,j,rfl,rfl,hH,hj,hno,q⟩:=h;cases rx;obtain⟨u,rfl,ru⟩:=rv.one;cases (show u = .bool b from ru);obtain⟨z,its,n,r,hl,e⟩:=I.VY hH;have ei:=ZA r;subst ei;have lt:=(List.getElem?_eq_some_iff.mp hj).1;have ls:=yN;have hz:bs.length<=sizeLine:=by simpa using z
 have sz:(bs.map Value.bool).toArray.size=bs.length:=by simp
 refine call_meets PySem.F.slot_list_index ⟨_,e,rfl⟩ PySem.F.entry_list_index (PySem.F.args_list_index_2 _ _) (PySem.SeqAt.list_indexAt l _ n none #[] (.bool b) (isBoolOf b) j (by rw[sz];exact lt) (by omega) ?_ ?_) ⟨e,λy hy=>?_,⟨.int _,H,I.tok _,⟨_,rfl⟩,q⟩⟩
 ·have e1:=(List.getElem?_eq_some_iff.mp hj).2;simp[isBoolOf,e1]
 ·intro m hm hlt;have h1:=hno m hlt;have hm':m < bs.length:=by rw[<- sz];exact hm
  rw[zaq hm']at h1;simp only[List.getElem_toArray,List.getElem_map,isBoolOf]
  cases q1:bs[m]==b with
  |false=>rfl
  |true=>exact absurd (congrArg some (beq_iff_eq.mp q1)) h1
 ·obtain⟨c,_,rfl⟩:=List.mem_map.mp (show y∈bs.map Value.bool by simpa using hy);exact PySem.SeqAt.EqAt.bool_bool c b
end
def kii {K:zFr}{M:Model}{A:Around}{E:zEx}{h:Heap}{g:Array GenState}{d:Drawn}{t:Nat}{os:OsState}{e C C0:Addr}{oe:Obj}{Q:Bool->Shared->Prop}(X:K.In h)(ks:PySem.W.ktsIn K C0 "BaseException" = true)(mu:PySem.W.mroIn K C (.ref C0)=some true)
 (he:h.get? e=some oe) (hcls:oe.cls = .ref C) (hq:Q true ⟨h,g,d,t,os⟩):wpAny M A (excMatches (.ref e) (.ref C0)) Q E ⟨h,g,d,t,os⟩:=by
 obtain⟨_,_,_,_,_,_,_,_,_,_,_,_,_,_,_,_,_,hC,hbase,_⟩:=PySem.W.kts_cls X ks;have L1:=PySem.W.looks_mroIn (M:=M) X mu;have hcB:=λbm (hb:bm.contains (Value.type "BaseException")=true)=>(show (Value.ref C0::bm).contains (.type "BaseException")=true by rw[List.contains_cons,hb,Bool.or_true])
 have hcB:=hcB _ hbase;have f:=tc_notTuple;unfold excMatches
 repeat (first | (with_reducible refine wpAny_loadPart_at he ?_;rw[hcls]) | with_reducible refine wpAny_loadPart_at hC ?_ | with_reducible refine L1.at ?_ | (with_reducible refine wpAny_isSubtype_exc hC ?_;rw[hcB]) | wp_step)
 exact hq
section
variable {Y:Cx}{i io ik c:Nat}{ea:Addr}{xo xk:Str}{e0 e1 e2 e3 e4 e5 ev:Expr}{p0 p1 p2 p3 p4 p5 p6 p7 p8 p9 q0 q1 q2 q3 q4 q5 q6 q7 q8 q9 r0 r1:Pos}{j1 j2 j3:Nat}
def isB (c j:Nat):Bool:=decide (j=c)
def kiv:∀c:Nat,c < 6->[isB c 0,isB c 1,isB c 2,isB c 3,isB c 4,isB c 5].countP (·==true)=1/\[isB c 0,isB c 1,isB c 2,isB c 3,isB c 4,isB c 5][c]?=some true/\∀m:Nat,m < c->[isB c 0,isB c 1,isB c 2,isB c 3,isB c 4,isB c 5][m]?≠some true:=by decide
def Xc (hc:c < 6)(hnd:Y.N.Nodup)(h0:PE Y e0 (tOf i ea (.bl (isB c 0))))(h1:PE Y e1 (tOf i ea (.bl (isB c 1))))(h2:PE Y e2 (tOf i ea (.bl (isB c 2))))(h3:PE Y e3 (tOf i ea (.bl (isB c 3))))(h4:PE Y e4 (tOf i ea (.bl (isB c 4))))(h5:PE Y e5 (tOf i ea (.bl (isB c 5))))(hv:PE Y ev (tOf i ea (.bl true)))
 (hio:Y.N[io]?=some xo:=by rfl) (hik:Y.N[ik]?=some xk:=by rfl) (hxo:Loc Y.env.scope xo:=by first | exact Or.inl rfl | exact Or.inr rfl)
 (vo:Vis Y.env.scope xo:=by first | exact Or.inl rfl | exact Or.inr (Or.inl rfl) | exact Or.inr (Or.inr rfl)) (vk:Vis Y.env.scope xk:=by first | exact Or.inl rfl | exact Or.inr (Or.inl rfl) | exact Or.inr (Or.inr rfl))
 (ho:Y.fn xo=true∨Y.env.scope.names.lookup xo=some .local:=by first | exact .inl rfl | exact .inr rfl | assumption)
 (hd:(xo==("__debug__":Str))=false:=by decide) (hcd:(xo==("__classdict__":Str))=false:=by decide) (hdk:(xk==("__debug__":Str))=false:=by decide) (hcdk:(xk==("__classdict__":Str))=false:=by decide)
 (n1:io≠i:=by decide) (n2:io≠ik:=by decide)
 (s4:starEach [e0,e1,e2,e3] Y.env=(false,eval e0 Y.env)::starEach [e1,e2,e3] Y.env:=by rfl) (s3:starEach [e1,e2,e3] Y.env=(false,eval e1 Y.env)::starEach [e2,e3] Y.env:=by rfl) (s2:starEach [e2,e3] Y.env=(false,eval e2 Y.env)::starEach [e3] Y.env:=by rfl) (s1:starEach [e3] Y.env=[(false,eval e3 Y.env)]:=by rfl)
 (t2:starEach [e4,e5] Y.env=(false,eval e4 Y.env)::starEach [e5] Y.env:=by rfl) (t1:starEach [e5] Y.env=[(false,eval e5 Y.env)]:=by rfl)
 (hsw:swapsWith (.List [e0,e1,e2,e3] p1) (some (.Name xo p0)) p2.line Y.env=pure false:=by rfl)
 (hl1:(p4.endLine==p6.line)=true:=by rfl) (hl2:(p9.endLine==q1.line)=true:=by rfl) (hl3:(q5.endLine==q7.line)=true:=by rfl)
 (hb1:attributeBase (.Name xo p3) "extend" Y.env (eval (.Name xo p3) Y.env)=eval (.Name xo p3) Y.env:=by rfl) (hb2:attributeBase (.Name xo p8) "count" Y.env (eval (.Name xo p8) Y.env)=eval (.Name xo p8) Y.env:=by rfl) (hb3:attributeBase (.Name xo q4) "index" Y.env (eval (.Name xo q4) Y.env)=eval (.Name xo q4) Y.env:=by rfl)
 (hm1:behindInMarks .Eq (.Constant (.int 1) j2 q2)=false:=by first | exact YY _ | (with_unfolding_all rfl)) (hm2:behindInMarks .Eq (.Name xk q8)=false:=by first | exact YY _ | (with_unfolding_all rfl)) :
 PSs Y [.Assign [.Name xo p0] (.List [e0,e1,e2,e3] p1) p2,.Expr (.Call (.Attribute (.Name xo p3) "extend" p4) [.List [e4,e5] p5] [] p6) p7,
  .Return (some (.BoolOp .And [ev,.Compare (.Call (.Attribute (.Name xo p8) "count" p9) [.Constant (.bool true) j1 q0] [] q1) [.Eq] [.Constant (.int 1) j2 q2] q3,.Compare (.Call (.Attribute (.Name xo q4) "index" q5) [.Constant (.bool true) j3 q6] [] q7) [.Eq] [.Name xk q8] q9] r0)) r1]
  (λD σ H=>σ[i]?=some (some (.ref ea))/\σ[ik]?=some (some (.int c))/\io < σ.length/\∀H',kB H H'->D.rt (.bl true) H'):=by
 intro pins s σ H D I ⟨z1,z2,z3,z4⟩;have A1:=YR (pos:=p1) (qE h0 (qE h1 (qE h2 (qE h3 vS s1) s2) s3) s4);have A2:=YR (pos:=p5) (qE h4 (qE h5 vS t1) t2);have B1:=YZ (pos:=p2) (pos':=p0) hnd hio hxo A1 hsw ho;have B2:=Vc (pos:=p7) (Xy (cpos:=p6) (apos:=p4) PySem.F.plainAttrs_list PySem.F.slot_list_extend PySem.F.type_list_extend jj (xN (pos:=p3) hio vo hd hcd) (qE A2 vS rfl) hb1 rfl hl1 rfl);have C1:=Z4 (pos:=q3) keA (Xy (cpos:=q1) (apos:=p9) PySem.F.plainAttrs_list PySem.F.slot_list_count PySem.F.type_list_count kbq (xN (pos:=p8) hio vo hd hcd) (qE (kaA (b:=true) (j:=j1) (pos:=q0)) vS rfl) hb2 rfl hl2 rfl) (kcH (i:=1) (j:=j2) (pos:=q2)) hm1
 have C2:=Z4 (pos:=q9) keA (Xy (cpos:=q7) (apos:=q5) PySem.F.plainAttrs_list PySem.F.slot_list_index PySem.F.type_list_index kcD (xN (pos:=q4) hio vo hd hcd) (qE (kaA (b:=true) (j:=j3) (pos:=q6)) vS rfl) hb3 rfl hl3 rfl) (xN (pos:=q8) hik vk hdk hcdk) hm2;refine X3 B1 (X3 B2 (jc (Jm (pos:=r1) (ue hv (ue C1 (kcp C2)))))) pins s σ H D I ?_;refine⟨z1,z1,z1,z1,Nat.le_trans (show 4<=6 by decide) (by decide),λp hp=>?_⟩;have f1:(σ.set io (some (.ref p)))[io]?=some (some (.ref p)):=List.getElem?_set_self z3;have f2:(σ.set io (some (.ref p)))[i]?=some (some (.ref ea)):=by rw[zan n1];exact z1
 have f3:(σ.set io (some (.ref p)))[ik]?=some (some (.int c)):=by rw[zan n2];exact z2
 refine⟨.ref p,f1,.inl ⟨rfl,_,SqL.of k9⟩,f2,f2,Nat.le_trans (show 2<=6 by decide) (by decide),λq hq=>?_⟩;have hpq:p≠q:=λz=>by rw[<- z,k9]at hq;cases hq
 refine⟨p,q,_,_,rfl,rfl,(qm hpq).trans k9,k9,Nat.le_trans (show 6<=6 by decide) (by decide),?_⟩
 have sm:kB H (upd (upd (upd H p (.lst [.bl (isB c 0),.bl (isB c 1),.bl (isB c 2),.bl (isB c 3)])) q (.lst [.bl (isB c 4),.bl (isB c 5)])) p (.lst ([.bl (isB c 0),.bl (isB c 1),.bl (isB c 2),.bl (isB c 3)]++[.bl (isB c 4),.bl (isB c 5)]))):=λb o e=>by
  have nb:b≠p:=λz=>by rw[z,hp]at e;cases e
  have e1:upd H p (.lst [.bl (isB c 0),.bl (isB c 1),.bl (isB c 2),.bl (isB c 3)]) b=some o:=(qm nb).trans e;have nq:b≠q:=λz=>by rw[z,hq]at e1;cases e1
  exact (qm nb).trans ((qm nq).trans e1)
 have key:=kiv c hc;refine⟨f2,true,rfl,?_⟩;rw[if_pos rfl];refine⟨.ref p,f1,.inl ⟨rfl,_,SqL.of k9⟩,⟨p,[isB c 0,isB c 1,isB c 2,isB c 3,isB c 4,isB c 5],true,rfl,rfl,k9,⟨rfl,true,?_,?_⟩⟩⟩
 ·rw[key.1];rfl
 rw[if_pos rfl];refine⟨.ref p,f1,.inl ⟨rfl,_,SqL.of k9⟩,⟨p,[isB c 0,isB c 1,isB c 2,isB c 3,isB c 4,isB c 5],true,c,rfl,rfl,k9,key.2.1,key.2.2,⟨.int c,f3,⟨rfl,?_⟩⟩⟩⟩;rw[decide_eq_true rfl];exact z4 _ sm
end
def kgU (k:Nat)(env:P.Env):Rs D->Rs Out
 |.ok _=>.ok (.next env)
 |.exc c=>match env[k]? with
  |some (some (.int z))=>if 1<=c/\c < 6/\z=(c:Int) - 1 then .ok (.ret (.bl true)) else .stuck
  |_=>.stuck
 |.stuck=>.stuck
def Je (k:Nat)(e:P.FE):P.FS:=λenv=>kgU k env (e env)
def kdl {X:Cx} {own:List Bool} {A:List Addr} {E:Nat -> Hp -> Prop} {H₀:Hp} {ca:Nat -> Addr} {C0:Addr} {x n fx:Str} {i ik j k:Nat} {st:Stmt} {ps:List Str} {mx:P.Fn} {e0:Expr} {es:List Expr} {fr:P.FA} {b0:Stmt} {bs:List Stmt} {np pos pos' sp fp cp:Pos}
 (hst:X.stack=X.env::X.outer) (hfr:X.env.frame=some X.env.locals) (hnd:X.N.Nodup) (hmx:X.mg x=some (.ref C0)) (hC0:PySem.W.ktsIn X.K C0 "BaseException" = true) (hup:∀c,1<=c->c < 6->PySem.W.mroIn X.K (ca c) (.ref C0)=some true)
 (cx:FkX X.prog X.w X.K X.mg X.base (λc=>.ref (ca c)) fx st ps k mx) (hr:qU j X.A)
 (hb:∀ (p:List (Addr×Obj)) (EE:zEx) (E1:Nat->Hp->Prop),Qf (X.su p X.A X.calm EE) own A E1 false (e0::es) fr)
 (hs:∀ (c:Nat) (p:List (Addr×Obj)) (A':Around) (EE:zEx) (ea:Addr) (oe:Obj),1<=c->c < 6->(ea,oe)∈p->oe.cls = .ref (ca c)->PSs (X.su p A' false EE) (b0::bs) (λD σ H=>σ[i]?=some (some (.ref ea))/\σ[ik]?=some (some (.int ((c - 1:Nat):Int)))/\σ.length=X.N.length/\∀H',kB H H'->D.rt (.bl true) H'))
 (hkj:k<=j:=by decide) (hn:(e0::es).length=ps.length:=by rfl) (hg:Gl X fx:=by rfl) (hdb:(fx==("__debug__":Str))=false:=by decide) (he:starEach (e0::es) X.env=(false,eval e0 X.env)::starEach es X.env:=by rfl) (hpl:(backTo cp (starEach es X.env)).any (·.1)=false:=by rfl)
 (hok:own[ik]?≠some true:=by decide) (hki:i≠ik:=by decide) (hsw:swapsWith (.Call (.Name fx fp) (e0::es) [] cp) none sp.line X.env=pure false:=by rfl)
 (hi:X.N[i]?=some n:=by rfl) (hl:X.env.kindOf n=some .local:=by rfl) (hx:Loc X.env.scope n:=by first | exact Or.inl rfl | exact Or.inr rfl)
 (hf:X.fn n=true∨X.env.scope.names.lookup n=some .local:=by first | exact .inl rfl | exact .inr rfl | assumption) (hgx:Gl X x:=by rfl) (hdx:(x==("__debug__":Str))=false:=by decide) :
 yC X own A E H₀ (.Try [.Expr (.Call (.Name fx fp) (e0::es) [] cp) sp] [.ExceptHandler (some (.Name x np)) (some n) (b0::bs) pos] [] [] pos') (Je ik (kF mx fr)):=by
 intro pins s σ H D I ⟨B,env,ok,st,h⟩;have h:Po X.K own A E H₀ B H (kgU ik env (kF mx fr env)) D:=h;have frm:X.A.frames=some (X.env::X.outer):=by rw[<- hst];exact I.ok.frames
 have kd:(X.env.scope.kind == .class||(X.env.scope.kind == .module&&X.env.locals != X.env.globals))=false:=by rw[I.ok.kind];rfl
 let E1:Nat->Hp->Prop:=λc H'=>1<=c/\c < 6/\σ[ik]?=some (some (.int ((c - 1:Nat):Int)))/\kB H H'/\∀H2,kB H H2->D.rt (.bl true) H2
 let xe1:Value->Shared->Prop:=λe s1=>wpAny (model X.prog X.w) X.A (noteFrame e X.env) (λ_ s2=>wpAny (model X.prog X.w) X.A (setFlight e none) (λ_ s3=>
  wpAny (model X.prog X.w) X.A (handleBy e X.env [.ExceptHandler (some (.Name x np)) (some n) (b0::bs) pos]) (SP X pins D) X.xe s3) X.xe s2) X.xe s1
 have hand:∀pins' H1 s1 e s2,Inv (X.su (X.pn++pins) X.A X.calm xe1) pins' σ H1 s1->CXr X.prog X.w X.stack H1 s1 (yb (λc=>.ref (ca c)) E1) e s2->xe1 e s2:=by
  intro pins' H1 s1 e s2 I1 cx;obtain⟨ea,C,a0,Bh,H2,rfl,F,c,hcc,c1,c2,hk,sm1,hD⟩:=cx;have eC:C=ca c:=Value.ref.inj hcc;subst eC;have I0:Inv X pins σ H1 s1:=Wa I1 I.ok λq hq=>hq
  have F:Fly X.prog X.w X.stack H1 s1 (ca c) ea a0 Bh H2 s2:=F;have fl:=F.fl;rw[hst]at fl;show wpAny _ _ (noteFrame (.ref ea) X.env) _ _ s2;refine wpAny_looks_onW frm hfr fl λh4 held4 sm4=>?_
  refine wpAny_landsW held4 λh5 fl5 sm5=>?_
  have sm45:=sm4.trans sm5;have I5:Inv X pins σ H2 { s2 with heap:=h5 }:=Z0 I0 F fl5.1 sm45;obtain⟨oe5,he5,hc5⟩:=fl5.there;refine wpAny_handleBy_cons (codeAny_handlers_test ?_) (by intro q;cases q);refine Vb (X:=X.su [] (X.A.mark (some (.ref ea))) false X.xe) (JO I5 rfl (λz=>nomatch z) λq hq=>nomatch hq) hgx hmx ?_ hdx;refine kii I5.kIn hC0 (hup c c1 c2) he5 hc5 (codeAny_handlers_suite_as ?_);refine lands_againW fl5 λh6 fl6 sm6=>?_
  have I6:Inv X pins σ H2 { s2 with heap:=h6 }:=Z0 I0 F fl6.1 (sm45.trans sm6);obtain⟨oe,ws,he,hce,hde,_⟩:=fl6.first
  have neL:ea≠X.env.locals:=λz=>by
   obtain⟨m,⟨o,es,ep,ho,hd,_⟩,_⟩:=I6.loc;rw[<- z]at ho;have ho:h6.get? ea=some o:=ho;rw[he]at ho;cases ho;rw[hde]at hd;cases hd
  have nfs:ea∉X.fs:=λz=>by
   obtain⟨_,o,ho,hd⟩:=I6.zZ.mem z;have ho:h6.get? ea=some o:=ho;rw[he]at ho;cases ho;exact hd ws hde
  have J6:Inv (X.su (X.pn++pins++[(ea,oe)]) (X.A.mark (some (.ref ea))) false X.xe) [] σ H2 { s2 with heap:=h6 }:=JO I6 rfl (λz=>nomatch z) λq hq=>by
   rcases List.mem_append.mp hq with z | z
   ·exact I6.pin q z
   ·rw[List.mem_singleton.mp z]
    exact⟨he,F.ne,neL,nfs,λv y=>by rw[hde]at y;cases y⟩
  have hi':i < σ.length:=by rw[I6.len];exact (List.getElem?_eq_some_iff.mp hi).1
  refine Ys (X:=X.su (X.pn++pins++[(ea,oe)]) (X.A.mark (some (.ref ea))) false X.xe) J6 hnd hi hx (v:=.ref ea) rfl (λs7 J7=>?_) hf;have mem:(ea,oe)∈X.pn++pins++[(ea,oe)]:=List.mem_append_right _ (List.mem_singleton.mpr rfl);refine wpAny_mono (hs c (X.pn++pins++[(ea,oe)]) (X.A.mark (some (.ref ea))) _ ea oe c1 c2 mem hce [] s7 _ H2 { nx:=λ_ _=>False,rt:=λv H'=>v = .bl true/\kB H2 H' } (J7.yb _) ⟨List.getElem?_set_self hi',by rw[zan hki];exact hk,by rw[List.length_set];exact I6.len,λH' z=>⟨rfl,z⟩⟩) (λfl s8 q=>?_) λ_ _ z=>z
  cases fl with
  |next=>obtain⟨_,_,_,q⟩:=q;exact q.elim
  |brk=>obtain⟨_,_,_,q⟩:=q;exact q.elim
  |cont=>obtain⟨_,_,_,q⟩:=q;exact q.elim
  |ret u=>
   obtain⟨v,σ8,H8,J8,rv,e8,q⟩:=q;subst e8;have I8:Inv X pins σ8 H8 s8:=Wa J8 I.ok λq hq=>List.mem_append_left _ hq
   obtain⟨m,hn,_⟩:=id I8.loc;refine wpAny_nameGoes hl hn kd λh9 m9 hn9 hs9=>?_
   exact⟨_,_,H8,kdR I8 hn9 hs9,rv,hD H8 (sm1.trans q)⟩
 refine wpAny_Try_except ?_;have I1:Inv (X.su (X.pn++pins) X.A X.calm xe1) [] σ H s:=JO I rfl I.ok.hd I.pin;have pe:=kbW (X:=X.su (X.pn++pins) X.A X.calm xe1) (own:=own) (A:=A) (E:=E1) (cls:=λc=>.ref (ca c)) (pos:=cp) (p:=fp) σ cx hr hand (hb (X.pn++pins) xe1 E1) hkj hn hg hdb he hpl;have ps:=jc (Vc (X:=X.su (X.pn++pins) X.A X.calm xe1) (pos:=sp) pe hsw);refine wpAny_mono (ps [] s σ H D I1 ⟨rfl,B,env,ok,?_⟩) (λfl s1 q=>?_) λ_ _ z=>z
 ·cases q:kF mx fr env with
  |ok d=>
   rw[q]at h;intro v H' s' r;exact h B _ H' (ok.same s') (st.next s') (Ext.same s')
  |stuck=>rw[q]at h;exact h
  |exc c=>
   rw[q]at h
   have h:Po X.K own A E H₀ B H (match env[ik]? with
    |some (some (.int z))=>if 1<=c/\c < 6/\z=(c:Int) - 1 then .ok (.ret (.bl true)) else .stuck
    |_=>.stuck) D:=h
   split at h
   ·rename_i z ez
    by_cases hc:1<=c/\c < 6/\z=(c:Int) - 1
    ·rw[if_pos hc]at h
     obtain⟨v,ev,rv⟩:=ok.val ik _ ez hok;cases (show v = .int z from rv);obtain⟨c1,c2,c3⟩:=hc;refine λH' s'=>⟨c1,c2,?_,s',λH2 s2=>h _ H2 (st.same.trans s2) rfl⟩
     rw[ev,c3,show ((c - 1:Nat):Int)=(c:Int) - 1 by omega]
    ·rw[if_neg hc]at h
     exact h.elim
   ·exact h.elim
 cases fl with
 |next=>
  obtain⟨σ',H',J,q⟩:=q;exact zab ⟨σ',H',Wa J I.ok λq hq=>hq,q⟩
 |brk=>obtain⟨σ',H',J,q⟩:=q;exact⟨σ',H',Wa J I.ok λq hq=>hq,q⟩
 |cont=>obtain⟨σ',H',J,q⟩:=q;exact⟨σ',H',Wa J I.ok λq hq=>hq,q⟩
 |ret u=>obtain⟨v,σ',H',J,r,q⟩:=q;exact⟨v,σ',H',Wa J I.ok λq hq=>hq,r,q⟩
section
variable {X:Cx}{ca:Nat->Addr}{i ik io:Nat}{b0:Stmt}{bs:List Stmt}
def TK (X:Cx)(ca:Nat->Addr)(i ik:Nat)(b:List Stmt)(c:Nat):Prop:=∀ (p:List (Addr×Obj)) (A':Around) (EE:zEx) (ea:Addr) (oe:Obj),(ea,oe)∈p->oe.cls = .ref (ca c)->PSs (X.su p A' false EE) b (λD σ H=>σ[i]?=some (some (.ref ea))/\σ[ik]?=some (some (.int ((c - 1:Nat):Int)))/\σ.length=X.N.length/\∀H',kB H H'->D.rt (.bl true) H')
def Y9 {b:List Stmt}{c:Nat}(h:∀ (p:List (Addr×Obj)) (A':Around) (EE:zEx) (ea:Addr) (oe:Obj),(ea,oe)∈p->oe.cls = .ref (ca (c+1))->PSs (X.su p A' false EE) b (λD σ H=>σ[i]?=some (some (.ref ea))/\σ[ik]?=some (some (.int (c:Int)))/\io < σ.length/\∀H',kB H H'->D.rt (.bl true) H'))(hio:io < X.N.length:=by decide):TK X ca i ik b (c+1) :=
 λp A' EE ea oe m e=>PSs.imp (h p A' EE ea oe m e) λD σ H ⟨a,b,l,d⟩=>⟨a,b,l ▸ hio,d⟩
def tk5 {b:List Stmt}(h1:TK X ca i ik b 1)(h2:TK X ca i ik b 2)(h3:TK X ca i ik b 3)(h4:TK X ca i ik b 4)(h5:TK X ca i ik b 5)(c:Nat)(p:List (Addr×Obj))(A':Around)(EE:zEx)(ea:Addr)(oe:Obj)(c1:1<=c)(c2:c < 6)(m:(ea,oe)∈p)(e:oe.cls = .ref (ca c)) :
 PSs (X.su p A' false EE) b (λD σ H=>σ[i]?=some (some (.ref ea))/\σ[ik]?=some (some (.int ((c - 1:Nat):Int)))/\σ.length=X.N.length/\∀H',kB H H'->D.rt (.bl true) H'):=by
 have h:TK X ca i ik b c:=by
  rcases (show c=1∨c=2∨c=3∨c=4∨c=5 by omega) with rfl | rfl | rfl | rfl | rfl <;> assumption
 exact h p A' EE ea oe m e
def up5 {K:zFr}{C0:Addr}(h1:PySem.W.mroIn K (ca 1) (.ref C0)=some true)(h2:PySem.W.mroIn K (ca 2) (.ref C0)=some true)(h3:PySem.W.mroIn K (ca 3) (.ref C0)=some true)(h4:PySem.W.mroIn K (ca 4) (.ref C0)=some true)(h5:PySem.W.mroIn K (ca 5) (.ref C0)=some true)(c:Nat)(c1:1<=c)(c2:c < 6):PySem.W.mroIn K (ca c) (.ref C0)=some true:=by
 rcases (show c=1∨c=2∨c=3∨c=4∨c=5 by omega) with rfl | rfl | rfl | rfl | rfl <;> assumption
end
def JY {X:Cx}{own:List Bool}{A:List Addr}{E:Nat->Hp->Prop}{H₀:Hp}{i:Nat}{x:Str}{e:Expr}{fa:P.FE}{pos pos':Pos}(he:Snd X own A E false e fa)(hs:swapsWith e (some (.Name x pos')) pos.line X.env=pure false)(hnd:X.N.Nodup)(ho:own[i]?≠some true)(hi:X.N[i]?=some x)(hx:Loc X.env.scope x)
 (hf:X.fn x=true∨X.env.scope.names.lookup x=some .local):yC X own A E H₀ (.Assign [.Name x pos'] e pos) (qR i fa):=qL hnd he ho hi hx hs hf
section
variable {X:Cx}{pins:List (Addr×Obj)}{σ:L2.St}{H:Hp}{s:Shared}{B:List Addr}{Q:VK}
def VX (hu:X.A.units+66 < cLine)(I:L2.Inv X pins σ H s){ds:List D}{vv:List V}{us:List Value}{x:Value}(hs:P.sortable ds=true)(r:kE X.K B H ds vv)(v:Vals vv us)(h64:ds.length < 64)
 (hc:∀Q':List Value->Shared->Prop,(∀h1 t1 d1,(∀b o,s.heap.get? b=some o->h1.get? b=some o)->Q' us { s with heap:=h1,drawn:=d1,toks:=t1 })->wpAny (model X.prog X.w) X.A.in1 (collect x) Q' X.xe s)
 (q:∀v H',kB H H'->FrL X.K B H H' (.lst (xx ds)) v->Q v H'):wpAny (model X.prog X.w) X.A (call (.builtin "sorted") [x]) (EP X pins σ Q) X.xe s:=by
 obtain⟨as,ra⟩:=Xh I (Vm hs) r v;have l:=RdL.of ra;have hl:ds.length<=sizeLine:=Nat.le_trans (Nat.le_of_lt h64) (by decide);have hlu:us.length < 64:=by rw[l.length];exact h64
 refine TS.kcc (κ:=Zq ds) (rk:=TS.uZ (YC s.heap) (pairsOf us).toList) (λh1=>∀b o,s.heap.get? b=some o->h1.get? b=some o) hlu hc (λh2 h1 h3 t1 d1 g k=>?_) λh1 t1 d1 out g t=>?_
 ·have l3:=l.mono (h':=h3) λb o e=>k b o (g b o e)
  exact⟨λE' Q' q'=>kfo l3 hs h2 q',λE'=>kgr l l3 hs (by show X.A.units+1+1+64 < cLine;omega)⟩
 ·obtain⟨ws,rw1,rw2⟩:=kbU r v l hs t;have I1:L2.Inv X pins σ H { s with heap:=h1,drawn:=d1,toks:=t1 }:=Inv.dr (I.kept (t':=t1) g) d1;have hfr:H h1.objs.size=none:=I1.hok.fresh (zak _);have own:(h1.push (seqObj "list" us.toArray 0)).get? h1.objs.size=some (seqObj "list" us.toArray 0):=zag _ rfl;obtain⟨e,he⟩:=sortedHeap_at (vs:=us) (out:=out) own
  have k:∀b o,h1.get? b=some o->(sortedHeap (h1.push (seqObj "list" us.toArray 0)) h1.objs.size us out).get? b=some o:=λb o z=>by
   have lt:=zaf z;rw[sortedHeap_old (zas lt) (by rw[Heap.size_push];exact Nat.lt_succ_of_lt lt)];exact zac _ z
  have hwl:ws.length<=sizeLine:=by
   rw[rw1.length,(P.yk ds).length_eq];exact hl
  refine⟨.ref h1.objs.size,_,I1.laid (t':=t1) (o:=.lst ws) k (zak _) ⟨hwl,out.toList,e,rw2,by simpa [seqObj] using he⟩,rfl,?_⟩;exact q _ _ (kB.upd hfr) ⟨_,rfl,hfr,ws,k9,kE.kp (Kp.of_same (kB.upd hfr)) (kE.more hfr rw1)⟩
def uY (hu:X.A.units+66 < cLine)(hcalm:X.calm=true):Ja X (.builtin "sorted") V0:=by
 refine⟨λds c h=>?_,λpins s σ H vs us Q I r ⟨B,ds,d,rr,bt,hg,q⟩=>?_⟩
 ·unfold V0 at h
  split at h <;> first | (split at h <;> cases h) | cases h
 ·unfold V0 at hg;split at hg
  ·rename_i xs;split at hg
   ·rename_i hs;cases hg;rw[Bool.and_eq_true,decide_eq_true_eq]at hs;obtain⟨v,rfl,rv⟩:=vX rr;obtain⟨a,ws,rfl,sq,rs⟩:=rv;obtain⟨u,rfl,ru⟩:=vals1 r;cases ru;obtain⟨hz,its,n,vl,g⟩:=I.hok _ _ sq;refine VX hu I hs.1 rs vl hs.2 (λQ' q'=>wpAny_collect_seq a (.inl rfl) g rfl rfl (λh' k=>?_) (by rw[zal,<- vl.length];exact hz)) q;have:=q' h' s.toks s.drawn k;simpa using this
   ·cases hg
  ·rename_i xs;split at hg
   ·rename_i hs;cases hg;rw[Bool.and_eq_true,decide_eq_true_eq]at hs;obtain⟨v,rfl,rv⟩:=vX rr;obtain⟨a,ws,rfl,sq,rs⟩:=rv;obtain⟨u,rfl,ru⟩:=vals1 r;cases ru;obtain⟨its,vl,⟨o,g,hc,n,hd⟩,hz⟩:=I.tuple sq;refine VX hu I hs.1 rs vl hs.2 (λQ' q'=>wpAny_collect_seq a (.inr rfl) g hc hd (λh' k=>?_) (by rw[zal,<- vl.length];exact hz)) q;have:=q' h' s.toks s.drawn k;simpa using this
   ·cases hg
  ·rename_i ks vs';split at hg
   ·rename_i hs;cases hg;rw[Bool.and_eq_true,decide_eq_true_eq]at hs;obtain⟨v,rfl,rv⟩:=vX rr;obtain⟨a,xs,kv,ws,rfl,e,dk,r1,r2,r3,r4⟩:=rv;obtain⟨u,rfl,ru⟩:=vals1 r;cases ru;obtain⟨⟨o,es,ep,g1,g2,g3,g4⟩,_⟩:=I.hok _ _ e;have el:es.size=xs.length:=by rw[<- zao,g4,zai]
    refine VX hu I hs.1 r3 r1 hs.2 (λQ' q'=>PySem.W.kdu_collect (kft (es:=es) (ep:=ep) dk.sys) (in1_handled (I.ok.hd hcalm)) ⟨o,g1,g2,g3⟩ (by rw[el];exact dk.len) λh' tk acc k ha=>?_) q
    have ea:acc.toList=xs.map (·.2.1):=by
     refine List.ext_getElem (by rw[zao,zai,ha.1,el]) λj h1 h2=>?_
     rw[zao]at h1;rw[zai]at h2;obtain⟨e',q1,q2⟩:=ha.2 j acc[j] (by simp[h1]);rw[<- Array.getElem?_toList,g4,zar,zaq h2]at q1;cases q1;rw[Array.getElem_toList,q2,List.getElem_map];rfl
    rw[ea];exact q' h' tk s.drawn k
   ·cases hg
  ·cases hg
end
end L3
namespace P
inductive KH (adj:D->D->Bool):List D->Prop
 |one (c:D):KH adj [c]
 |add {l:List D} {c o:D}:KH adj l->c∈l->adj c o=true->o∉l->KH adj (l++[o])
def JQ (adj:D->D->Bool)(S:List D):Prop:=∃l,l.Perm S/\KH adj l
section
variable {adj:D->D->Bool}
def KH.ne {l:List D}(h:KH adj l):l≠[]:=by cases h <;> simp
def KH.nodup {l:List D}(h:KH adj l):l.Nodup:=by
 induction h with
 |one c=>simp
 |add _ _ _ hn ih=>
  rw[List.nodup_append];refine⟨ih,by simp,λa ha b hb e=>?_⟩;rw[List.mem_singleton]at hb;subst e hb;exact hn ha
def KH.all (sym:∀a b,adj a b=adj b a){l:List D}(h:KH adj l):∀ (X:D->Prop),(∀c∈l,X c->∀o∈l,adj c o=true->X o)->(∃c∈l,X c)->∀c∈l,X c:=by
 induction h with
 |one c=>
  rintro X _ ⟨d,hd,x⟩ e he;rw[List.mem_singleton]at hd he;rw[he,<- hd];exact x
 | @add l c o _ hc ha hn ih=>
  rintro X cl ⟨d,hd,x⟩ e he;have clL:∀c∈l,X c->∀o∈l,adj c o=true->X o:=λa h1 h2 b h3 h4=>cl a (List.mem_append_left _ h1) h2 b (List.mem_append_left _ h3) h4
  have xl:∀e∈l,X e:=by
   refine ih X clL ?_
   rcases List.mem_append.mp hd with q | q
   ·exact⟨d,q,x⟩
   ·rw[List.mem_singleton]at q
    subst q;exact⟨c,hc,cl d hd x c (List.mem_append_left _ hc) (by rw[sym];exact ha)⟩
  rcases List.mem_append.mp he with q | q
  ·exact xl e q
  ·rw[List.mem_singleton]at q
   subst q;exact cl c (List.mem_append_left _ hc) (xl c hc) e he ha
def JQ.add {S:List D}{c o:D}(h:JQ adj S)(hc:c∈S)(ha:adj c o=true)(hn:o∉S):JQ adj (S++[o]):=by
 obtain⟨l,p,g⟩:=h;exact⟨l++[o],p.append_right _,.add g (p.mem_iff.mpr hc) ha λq=>hn (p.mem_iff.mp q)⟩
end
def zy (l:List D):Prop:=l.Pairwise λx y=>D.kl x y=true
def UN {x y:D}(hx:x.nk=true)(hy:y.nk=true)(h:D.kl x y=true):D.kl y x=false:=by
 cases q:D.kl y x with
 |false=>rfl
 |true=>
  have:=Wx hx hy hx h q;rw[Qs hx]at this;cases this
def zy.srt {l:List D}(hk:∀y∈l,y.nk=true)(h:zy l):WG l:=by
 unfold zy at h;unfold WG;exact h.imp_of_mem λ{a b} ha hb q=>UN (hk a ha) (hk b hb) q
def zy.nodup {l:List D}(hk:∀y∈l,y.nk=true)(h:zy l):l.Nodup:=by
 unfold zy at h;refine h.imp_of_mem λ{a b} ha hb q e=>?_
 subst e;rw[Qs (hk a ha)]at q;cases q
def zy.sublist:∀ {m l:List D},(∀y∈m,y.nk=true)->zy l->zy m->(∀x∈l,x∈m)->l.Sublist m
 | [],l,_,_,_,h=>by
  cases l with
  |nil=>exact .slnil
  |cons x l=>exact absurd (h x zaj) (by simp)
 |y::m,[],_,_,_,_=>List.nil_sublist _
 |y::m,x::l,hk,h1,h2,h=>by
  have h1':=List.pairwise_cons.mp h1;have h2':=List.pairwise_cons.mp h2;have hk':∀z∈m,z.nk=true:=λz hz=>hk z (zah _ hz)
  have hy:=hk y zaj;have tail:∀z∈l,z∈y::m:=λz hz=>h z (zah _ hz)
  by_cases e:x=y
  ·subst e
   refine .cons_cons x (zy.sublist hk' h1'.2 h2'.2 λz hz=>?_)
   rcases List.mem_cons.mp (tail z hz) with q | q
   ·subst q
    have:=h1'.1 z hz;rw[Qs hy]at this;cases this
   ·exact q
  ·have hx:x∈m:=(List.mem_cons.mp (h x zaj)).resolve_left e
   refine .cons y (zy.sublist hk' h1 h2'.2 λz hz=>?_)
   rcases List.mem_cons.mp hz with q | q
   ·subst q;exact hx
   ·rcases List.mem_cons.mp (tail z q) with r | r
    ·subst r
     have a:=h1'.1 z q;have b:=h2'.1 x hx;have:=UN hy (hk' x hx) b;rw[a]at this;cases this
    ·exact r
end P
open P (KH zy)
namespace G
open P (D Rs Out)
def Qj:P.FS :=
 (kM (P.sIf (qD (kJ P.oLt (kj 1) (kF vD (kh (kj 0) kD)))) (kZ (kJ P.oIx (kj 0) (kj 1))) qI)
 (kM (P.sIf (qD (kJ P.oEq (kj 0) (qO kD))) (kZ (P.cC (.int 0))) qI)
 (kZ (kJ vZ (kJ K7 (kJ P.oIx (kj 0) (kJ P.oMod (kj 1) (kF vD (kh (kj 0) kD)))) (P.cC (.int 31))) (kj 1)))))
def zC:P.Fn:=P.fnX 2 Qj
def VH:P.FS :=
 (kM (qR 3 (kJ P.oMod (kJ K7 (kJ vZ (kJ vZ (kF zC (kh (kj 0) (kh (kj 1) kD))) (kJ K7 (P.cC (.int 7919)) (kj 1))) (P.cC (.int 1))) (P.cC (.int 48271))) (P.cC (.int 2147483647))))
 (kZ (kJ P.oMod (kJ P.oMod (kJ vZ (kJ vZ (kJ K7 (kj 3) (kj 3)) (kJ K7 (P.cC (.int 7)) (kj 3))) (kj 1)) (P.cC (.int 2147483629))) (kj 2))))
def vO:P.Fn:=P.fnX 4 VH
def Ky:P.FS :=
 (kM (qR 12 (kF vO (kh (kj 0) (kh (kJ vZ (kJ vZ (kJ vZ (kj 1) (P.cC (.int 4))) (kJ K7 (kj 4) (kj 9))) (kj 11)) (kh (kJ K7 (P.cC (.int 10)) (kj 5)) kD)))))
 (kM (qR 13 (kJ vZ (P.cC (.int 1)) (kJ P.oDiv (kj 12) (P.cC (.int 10)))))
 (kM (P.sIf (zA (qD (kJ P.oEq (kj 7) (P.cC (.int 0)))) (Ws (qD (kJ P.oLt (kJ P.oMod (kj 12) (P.cC (.int 10))) (kj 6))) (zA (qD (kJ P.oLt (kj 7) (kj 2))) (zA (qD (kJ P.oLt (kJ vZ (kj 9) (P.cC (.int 1))) (kj 3))) (qD (kJ P.oLt (kJ vZ (kj 11) (P.cC (.int 1))) (kj 4))))))) (qR 13 (P.cC .non)) (qR 7 (kJ zT (kj 7) (P.cC (.int 1)))))
 (K2 10 (kj 13)))))
def Wo:P.FS :=
 (kM (qR 10 (qO kD))
 (kM (z0 (yw (kj 4)) (vA 11) Ky)
 (K2 8 (kF wR (kh (kj 10) kD)))))
def VL:P.FS :=
 (kM (qR 3 (kJ vZ (P.cC (.int 1)) (kF vO (kh (kj 0) (kh (kj 1) (kh (P.cC (.int 3)) kD))))))
 (kM (qR 4 (kJ vZ (P.cC (.int 1)) (kF vO (kh (kj 0) (kh (kJ vZ (kj 1) (P.cC (.int 1))) (kh (P.cC (.int 5)) kD))))))
 (kM (qR 5 (kJ P.oIx (qO (kh (P.cC (.int 2)) (kh (P.cC (.int 5)) (kh (P.cC (.int 9)) (kh (P.cC (.int 30)) (kh (P.cC (.int 9999)) kD)))))) (kF vO (kh (kj 0) (kh (kJ vZ (kj 1) (P.cC (.int 2))) (kh (P.cC (.int 5)) kD))))))
 (kM (qR 6 (kF vO (kh (kj 0) (kh (kJ vZ (kj 1) (P.cC (.int 3))) (kh (P.cC (.int 4)) kD)))))
 (kM (qR 7 (kj 2))
 (kM (qR 8 (qO kD))
 (kM (z0 (yw (kj 3)) (vA 9) Wo)
 (kZ (kF wR (kh (kj 8) kD))))))))))
def Qu:P.Fn:=P.fnX 14 VL
def QN:P.FS :=
 (P.sIf (qD (P.cUn VN (kJ P.oIx (kJ P.oIx (kj 0) (kj 2)) (kj 3)))) (K2 1 (wV (kh (kj 2) (kh (kj 3) kD)))) qI)
def Wl:P.FS :=
 (z0 (yw (kF vD (kh (kJ P.oIx (kj 0) (kj 2)) kD))) (vA 3) QN)
def WZ:P.FS :=
 (kM (qR 1 (qO kD))
 (kM (z0 (yw (kF vD (kh (kj 0) kD))) (vA 2) Wl)
 (kZ (kj 1))))
def VQ:P.Fn:=P.fnX 4 WZ
def zc:P.FS :=
 (P.sIf (qD (P.cUn VN (kj 5))) (K2 1 (wV (kh (kj 2) (kh (kj 4) kD)))) qI)
def K4:P.FS :=
 (z0 (Y4 (kj 3)) (QO [4,5]) zc)
def zN:P.FS :=
 (kM (qR 1 (qO kD))
 (kM (z0 (Y4 (kj 0)) (QO [2,3]) K4)
 (kZ (kj 1))))
def vL:P.Fn:=P.fnX 6 zN
def yK:P.FS :=
 (kM (P.sIf (zA (vF (P.cUn (P.bIs P.isBool) (kj 0))) (qQ (vF (P.cUn (P.bIs P.isInt) (kj 0))))) (kZ (P.cC (.bl false))) qI)
 (kZ (kJ P.oLe (kj 1) (kj 0))))
def vm:P.Fn:=P.fnX 2 yK
def Q0:P.FS :=
 (kZ (ZN (kF vm (kh (kj 0) (kh (kj 1) kD))) (kJ P.oLe (kj 0) (kj 2))))
def qH:P.Fn:=P.fnX 3 Q0
def QX:P.FS :=
 (kZ (P.cOr (P.cUn X5 (kj 0)) (kF qH (kh (kj 0) (kh (P.cC (.int 1)) (kh (P.cC (.int 9999)) kD))))))
def zu:P.Fn:=P.fnX 1 QX
def Wh:P.FS :=
 (kM (P.sIf (zA (qQ (vF (P.cUn (P.bIs P.isTup) (kj 0)))) (qQ (qD (yv P.oLe P.oLe (P.cC (.int 1)) (kF vD (kh (kj 0) kD)) (P.cC (.int 5)))))) (kZ (P.cC (.bl false))) qI)
 (kZ (kF QI (kh (wU 1 [] (zx (kj 0)) (vA 0) wu (kF zu (kh (kj 0) kD))) kD))))
def Qg:P.Fn:=P.fnX 1 Wh
def QT:P.FS :=
 (kM (P.sIf (zA (qQ (vF (P.cUn (P.bIs P.isTup) (kj 0)))) (qQ (qD (yv P.oLe P.oLe (P.cC (.int 1)) (kF vD (kh (kj 0) kD)) (P.cC (.int 5)))))) (kZ (P.cC (.bl false))) qI)
 (kM (P.sIf (qQ (vF (kF QI (kh (wU 1 [] (zx (kj 0)) (vA 0) wu (kF Qg (kh (kj 0) kD))) kD)))) (kZ (P.cC (.bl false))) qI)
 (kM (P.sIf (vF (kF JS (kh (wU 1 [0] (zx (kj 0)) (vA 0) wu (kJ P.oNe (kF vD (kh (kj 0) kD)) (kF vD (kh (kJ P.oIx (kj 1) (P.cC (.int 0))) kD)))) kD))) (kZ (P.cC (.bl false))) qI)
 (kZ (yv P.oLe P.oLe (P.cC (.int 1)) (kF vD (kh (kF vL (kh (kj 0) kD)) kD)) (P.cC (.int 12)))))))
def xP:P.Fn:=P.fnX 1 QT
def VO:P.FS :=
 (kM (P.sIf (qQ (vF (kF xP (kh (kj 0) kD)))) (ya 1) qI)
 (kZ (kj 0)))
def kcb:P.Fn:=P.fnX 1 VO
def kW:P.Fn:=P.fnOf 1 VO
def WD:P.FS :=
 (kZ (kF vL (kh (kF kW (kh (kj 0) kD)) kD)))
def keh:P.Fn:=P.fnX 1 WD
def za:P.Fn:=P.fnOf 1 WD
def WA:P.FS :=
 (kM (qR 1 (kF vD (kh (kF za (kh (kj 0) kD)) kD)))
 (λ_=>.stuck))
def kd4:P.Fn:=P.fnX 2 WA
def VJ:P.Fn:=P.fnOf 2 WA
def yp:P.FS :=
 (kM (P.sIf (qQ (vF (kF qH (kh (kj 0) (kh (P.cC (.int 1)) (kh (P.cC (.int 12)) kD)))))) (ya 4) qI)
 (kZ (kj 0)))
def X9:P.Fn:=P.fnX 1 yp
def qS:P.Fn:=P.fnOf 1 yp
def We:P.FS :=
 (kM (vR (kF kW (kh (kj 0) kD)))
 (kM (vR (kF qS (kh (kj 1) kD)))
 (λ_=>.stuck)))
def kdp:P.Fn:=P.fnX 4 We
def wF:P.Fn:=P.fnOf 4 We
def QW:P.FS :=
 (kM (qR 1 (kF wF (kh (kj 0) (kh (P.cC (.int 12)) kD))))
 (λ_=>.stuck))
def ka3:P.Fn:=P.fnX 4 QW
def Qk:P.Fn:=P.fnOf 4 QW
def yD:P.FS :=
 (kZ (kF wR (kh (wU 1 [1] (L3.kcS (kj 0)) (vA 0) wu (kJ P.oIx (kj 0) (kj 1))) kD)))
def xA:P.Fn:=P.fnX 2 yD
def Wi:P.FS :=
 (kM (vR (kF kW (kh (kj 0) kD)))
 (kZ (kF wR (kh (wU 1 [0] (yw (kF vD (kh (kJ P.oIx (kj 0) (P.cC (.int 0))) kD))) (vA 0) wu (kF xA (kh (kj 1) (kh (kj 0) kD)))) kD))))
def WC:P.Fn:=P.fnX 1 Wi
def VG:P.Fn:=P.fnOf 1 Wi
def QZ:P.FS :=
 (kM (vR (kF kW (kh (kj 0) kD)))
 (kZ (kF wR (kh (wU 1 [] (zx (kj 0)) (vA 0) wu (L3.kab (kj 0))) kD))))
def QU:P.Fn:=P.fnX 1 QZ
def Qn:P.Fn:=P.fnOf 1 QZ
def Xl:P.FS :=
 (kM (K2 1 (kj 2))
 (kM (K2 1 (kF QU (kh (kj 2) kD)))
 (qR 2 (kF WC (kh (kj 2) kD)))))
def VR:P.FS :=
 (kM (qR 1 (qO kD))
 (kM (qR 2 (kj 0))
 (kM (z0 (yw (P.cC (.int 4))) (vA 3) Xl)
 (kZ (kj 1)))))
def zK:P.Fn:=P.fnX 4 VR
def Vw:P.FS :=
 (kZ (P.cIf (qD (P.cUn X5 (kj 0))) (P.cC (.int 0)) (kj 0)))
def Ks:P.Fn:=P.fnX 1 Vw
def WS:P.FS :=
 (Yw 1 (wU 1 [] (zx (kj 2)) (vA 0) wu (kF Ks (kh (kj 0) kD))))
def VA:P.FS :=
 (kM (qR 1 (qO (kh (kF vD (kh (kj 0) kD)) kD)))
 (kM (z0 (zx (kj 0)) (vA 2) WS)
 (kZ (kj 1))))
def vd:P.Fn:=P.fnX 3 VA
def Xo:P.FS :=
 (kM (vR (kF kW (kh (kj 0) kD)))
 (kZ (L3.keS vd (kF zK (kh (kj 0) kD)))))
def kfm:P.Fn:=P.fnX 1 Xo
def xV:P.Fn:=P.fnOf 1 Xo
def Xr:P.FS :=
 (kM (vR (kF kW (kh (kj 0) kD)))
 (λ_=>.stuck))
def kfB:P.Fn:=P.fnX 1 Xr
def Wj:P.Fn:=P.fnOf 1 Xr
def Qx:P.FS :=
 (kM (P.sIf (zA (qQ (vF (P.cUn (P.bIs P.isTup) (kj 1)))) (qD (kJ P.oNe (kF vD (kh (kj 1) kD)) (P.cC (.int 2))))) (kZ (P.cC (.bl false))) qI)
 (kM (P.sIf (qQ (vF (kF qH (kh (kJ P.oIx (kj 1) (P.cC (.int 0))) (kh (P.cC (.int 0)) (kh (kJ zT (kF vD (kh (kj 0) kD)) (P.cC (.int 1))) kD)))))) (kZ (P.cC (.bl false))) qI)
 (kM (P.sIf (qQ (vF (kF qH (kh (kJ P.oIx (kj 1) (P.cC (.int 1))) (kh (P.cC (.int 0)) (kh (kJ zT (kF vD (kh (kJ P.oIx (kj 0) (P.cC (.int 0))) kD)) (P.cC (.int 1))) kD)))))) (kZ (P.cC (.bl false))) qI)
 (kZ (P.cUn VN (kJ P.oIx (kJ P.oIx (kj 0) (kJ P.oIx (kj 1) (P.cC (.int 0)))) (kJ P.oIx (kj 1) (P.cC (.int 1)))))))))
def vY:P.Fn:=P.fnX 2 Qx
def KD:P.FS :=
 (kM (qR 2 (kJ P.oIx (kj 1) (P.cC (.int 0))))
 (kM (qR 3 (kJ P.oIx (kj 1) (P.cC (.int 1))))
 (kM (qR 4 (qO (kh (wV (kh (kJ zT (kj 2) (P.cC (.int 1))) (kh (kj 3) kD))) (kh (wV (kh (kj 2) (kh (kJ zT (kj 3) (P.cC (.int 1))) kD))) (kh (wV (kh (kj 2) (kh (kJ vZ (kj 3) (P.cC (.int 1))) kD))) (kh (wV (kh (kJ vZ (kj 2) (P.cC (.int 1))) (kh (kj 3) kD))) kD))))))
 (kZ (wU 1 [0] (zx (kj 4)) (vA 0) (vF (kF vY (kh (kj 1) (kh (kj 0) kD)))) (kj 0))))))
def xh:P.Fn:=P.fnX 5 KD
def zo:P.FS :=
 (kM (P.sIf (qQ (vF (kF vY (kh (kj 0) (kh (kj 1) kD))))) (ya 2) qI)
 (kZ (kj 1)))
def ZG:P.Fn:=P.fnX 2 zo
def vQ:P.Fn:=P.fnOf 2 zo
def Zg:P.FS :=
 (kM (vR (kF kW (kh (kj 0) kD)))
 (kZ (kF xh (kh (kj 0) (kh (kF vQ (kh (kj 0) (kh (kj 1) kD))) kD)))))
def khk:P.Fn:=P.fnX 2 Zg
def Qa:P.Fn:=P.fnOf 2 Zg
def Qm:P.FS :=
 (kZ (kF QI (kh (wU 2 [] (P.kaZ (kj 0) (Wt (kj 0) (VI (P.cC (.int 1))) Wg)) (QO [0,1]) wu (kJ P.oLt (kj 0) (kj 1))) kD)))
def zG:P.Fn:=P.fnX 1 Qm
def xY:P.FS :=
 (P.sIf (Ws (qD (kJ P.oIn (kj 5) (kj 1))) (qD (kJ L3.Jy (kj 5) (kj 2)))) (kM (jd 2 (kj 5) (P.cC (.bl true)))
 (K2 3 (kj 5))) qI)
def zz:P.FS :=
 (kM (kc7 4 3)
 (z0 (zx (kF xh (kh (kj 0) (kh (kj 4) kD)))) (vA 5) xY))
def Ka:P.FS :=
 (kM (qR 2 (kaq (kJ P.oIx (kj 1) (P.cC (.int 0))) (P.cC (.bl true))))
 (kM (qR 3 (qO (kh (kJ P.oIx (kj 1) (P.cC (.int 0))) kD)))
 (kM (P.uA 100000 (qD (kJ P.oGt (kF vD (kh (kj 3) kD)) (P.cC (.int 0)))) zz)
 (kZ (kJ P.oEq (kF j9 (kh (kj 2) kD)) (kF vD (kh (kj 1) kD)))))))
def yq:P.Fn:=P.fnX 6 Ka
def QV:P.FS :=
 (kM (vR (kF kW (kh (kj 0) kD)))
 (kM (P.sIf (zA (qQ (vF (P.cUn (P.bIs P.isTup) (kj 1)))) (qD (kJ P.oEq (kF vD (kh (kj 1) kD)) (P.cC (.int 0))))) (kZ (P.cC (.bl false))) qI)
 (kM (P.sIf (qQ (vF (kF QI (kh (wU 1 [0] (zx (kj 1)) (vA 0) wu (kF vY (kh (kj 1) (kh (kj 0) kD)))) kD)))) (kZ (P.cC (.bl false))) qI)
 (kZ (ZN (kF zG (kh (kj 1) kD)) (kF yq (kh (kj 0) (kh (kj 1) kD))))))))
def wA:P.Fn:=P.fnX 2 QV
def yy:P.Fn:=P.fnOf 2 QV
def XE:P.FS :=
 (kM (P.sIf (qQ (vF (kF yy (kh (kj 0) (kh (kj 1) kD))))) (ya 3) qI)
 (λ_=>.stuck))
def kfl:P.Fn:=P.fnX 2 XE
def WN:P.Fn:=P.fnOf 2 XE
def KO:P.FS :=
 (λ_=>.stuck)
def Kq:P.Fn:=P.fnX 2 KO
def WH:P.FS :=
 (kZ (kF Kq (kh (kj 0) (kh (kF wF (kh (kj 0) (kh (kj 1) kD))) kD))))
def ker:P.Fn:=P.fnX 2 WH
def xH:P.Fn:=P.fnOf 2 WH
def KP:P.FS :=
 (λ_=>.stuck)
def KC:P.Fn:=P.fnX 3 KP
def yJ:P.FS :=
 (kZ (kF KC (kh (kF xH (kh (kj 0) (kh (kj 1) kD))) kD)))
def Zp:P.Fn:=P.fnX 2 yJ
def vM:P.Fn:=P.fnOf 2 yJ
def Ql:P.FS :=
 (kM (vR (kF kW (kh (kj 0) kD)))
 (kM (P.sIf (qQ (vF (kF vm (kh (kj 1) (kh (P.cC (.int 1)) kD))))) (ya 4) qI)
 (λ_=>.stuck)))
def Ul:P.Fn:=P.fnX 3 Ql
def xj:P.Fn:=P.fnOf 3 Ql
def yL:P.FS :=
 (kM (P.sIf (zA (qQ (vF (P.cUn (P.bIs KQ) (kj 0)))) (qQ (qD (yv P.oLe P.oLe (P.cC (.int 1)) (kF vD (kh (kj 0) kD)) (P.cC (.int 12)))))) (ya 5) qI)
 (kM (P.sIf (qQ (vF (kF QI (kh (wU 1 [] (zx (kj 0)) (vA 0) wu (kF vm (kh (kj 0) (kh (P.cC (.int 1)) kD)))) kD)))) (ya 5) qI)
 (kZ (kj 0))))
def YV:P.Fn:=P.fnX 1 yL
def xr:P.Fn:=P.fnOf 1 yL
def Zv:P.FS :=
 (kM (vR (kF kW (kh (kj 0) kD)))
 (kM (vR (kF xr (kh (kj 1) kD)))
 (λ_=>.stuck)))
def khG:P.Fn:=P.fnX 4 Zv
def ze:P.Fn:=P.fnOf 4 Zv
def zm:P.FS :=
 (kM (qR 2 (kF ze (kh (kj 0) (kh (kj 1) kD))))
 (λ_=>.stuck))
def ZH:P.Fn:=P.fnX 3 zm
def vW:P.Fn:=P.fnOf 3 zm
def VC:P.FS :=
 (Jg 2 (kj 3))
def VV:P.FS :=
 (kM (P.sIf (qQ (vF (P.cUn (P.bIs KQ) (kj 1)))) (kZ (P.cC (.bl false))) qI)
 (kM (P.sIf (qQ (vF (kF QI (kh (wU 1 [0] (zx (kj 1)) (vA 0) wu (kF wA (kh (kj 1) (kh (kj 0) kD)))) kD)))) (kZ (P.cC (.bl false))) qI)
 (kM (qR 2 (qO kD))
 (kM (z0 (zx (kj 1)) (vA 3) VC)
 (kZ (kJ P.oEq (kF V0 (kh (kj 2) kD)) (kF vL (kh (kj 0) kD))))))))
def xU:P.Fn:=P.fnX 4 VV
def Xw:P.FS :=
 (kM (vR (kF kW (kh (kj 0) kD)))
 (kM (P.sIf (qQ (vF (kF xU (kh (kj 0) (kh (kj 1) kD))))) (ya 3) qI)
 (λ_=>.stuck)))
def ke5:P.Fn:=P.fnX 3 Xw
def yX:P.Fn:=P.fnOf 3 Xw
def Zd:P.FS :=
 (kM (vR (kF kW (kh (kj 0) kD)))
 (kM (vR (kF qS (kh (kj 1) kD)))
 (λ_=>.stuck)))
def khq:P.Fn:=P.fnX 3 Zd
def K5:P.Fn:=P.fnOf 3 Zd
def Xz:P.FS :=
 (kZ (kJ P.oEq (kF xV (kh (kj 0) kD)) (kF xV (kh (kj 1) kD))))
def kfD:P.Fn:=P.fnX 2 Xz
def Vy:P.Fn:=P.fnOf 2 Xz
def VD:P.FS :=
 (kM (vR (kF kW (kh (kj 0) kD)))
 (kM (vR (kF vQ (kh (kj 0) (kh (kj 1) kD))))
 (kM (P.sIf (qQ (vF (kF qH (kh (kj 2) (kh (P.cC (.int 1)) (kh (P.cC (.int 9999)) kD)))))) (ya 4) qI)
 (λ_=>.stuck))))
def kbr:P.Fn:=P.fnX 4 VD
def vE:P.Fn:=P.fnOf 4 VD
def yI:P.FS :=
 (kM (vR (kF kW (kh (kj 0) kD)))
 (kM (vR (kF qS (kh (kj 1) kD)))
 (kM (qR 4 (kF vE (kh (kj 0) (kh (kj 2) (kh (kj 3) kD)))))
 (λ_=>.stuck))))
def YW:P.Fn:=P.fnX 7 yI
def qw:P.Fn:=P.fnOf 7 yI
def zq:P.FS :=
 (kM (P.sIf (qD (kJ P.oLt (kj 0) (P.cC (.int 8)))) (kZ (L3.VM [za,VJ,Qk,VG,Qn,xV,Wj,za] (kj 0) (kh (kj 1) kD))) qI)
 (kM (P.sIf (qD (kJ P.oLt (kj 0) (P.cC (.int 16)))) (kZ (L3.VM [Qa,yy,wF,WN,xH,vM,xj,ze] (kJ zT (kj 0) (P.cC (.int 8))) (kh (kj 1) (kh (P.cC .non) kD)))) qI)
 (kM (P.sIf (qD (kJ P.oLt (kj 0) (P.cC (.int 19)))) (kZ (L3.VM [vW,yX,K5] (kJ zT (kj 0) (P.cC (.int 16))) (kh (kj 1) (kh (P.cC .non) kD)))) qI)
 (kM (P.sIf (qD (kJ P.oLt (kj 0) (P.cC (.int 21)))) (kZ (kF Vy (kh (kJ P.oIx (qO (kh (kj 1) (kh (kj 2) kD))) (kJ P.oMod (kj 0) (P.cC (.int 2)))) (kh (kJ P.oIx (qO (kh (kj 2) (kh (kj 1) kD))) (kJ P.oMod (kj 0) (P.cC (.int 2)))) kD)))) qI)
 (kM (P.sIf (qD (kJ P.oEq (kj 0) (P.cC (.int 21)))) (kZ (kF vE (kh (kj 1) (kh (P.cC .non) (kh (P.cC .non) kD))))) qI)
 (kZ (kF qw (kh (kj 1) (kh (P.cC .non) (kh (P.cC .non) (kh (P.cC .non) kD)))))))))))
def ZM:P.Fn:=P.fnX 3 zq
def xO:P.Fn:=P.fnOf 3 zq
def zL:P.FS :=
 (kM (P.sIf (qD (kJ P.oEq (kj 0) (P.cC (.int 0)))) (kZ (kF Qa (kh (kj 1) (kh (kj 2) kD)))) qI)
 (kM (P.sIf (qD (kJ P.oEq (kj 0) (P.cC (.int 1)))) (kZ (kF vE (kh (kj 1) (kh (kj 2) (kh (kj 3) kD))))) qI)
 (kZ (kF qw (kh (kj 1) (kh (P.cC (.int 12)) (kh (kj 2) (kh (kj 3) kD))))))))
def jS:P.Fn:=P.fnX 4 zL
def x6:P.Fn:=P.fnOf 4 zL
def KJ:P.FS :=
 (kM (P.sIf (qQ (vF (kF qH (kh (kj 0) (kh (P.cC (.int 1)) (kh (P.cC (.int 4)) kD)))))) (ya 4) qI)
 (λ_=>.stuck))
def Ji:P.Fn:=P.fnX 3 KJ
def zP:P.Fn:=P.fnOf 3 KJ
def yG:P.FS :=
 (kM (P.sIf (qD (kJ P.oLt (kj 0) (P.cC (.int 4)))) (kZ (L3.VM [wF,xH,vM,K5] (kj 0) (kh (kj 1) (kh (kj 3) kD)))) qI)
 (kM (P.sIf (qD (kJ P.oEq (kj 0) (P.cC (.int 4)))) (kZ (kF zP (kh (kj 3) kD))) qI)
 (kM (P.sIf (qD (kJ P.oEq (kj 0) (P.cC (.int 5)))) (kZ (kF qw (kh (kj 1) (kh (kj 3) (kh (P.cC .non) (kh (P.cC .non) kD)))))) qI)
 (kZ (kF xj (kh (kj 1) (kh (kJ P.oIx (qO (kh (kj 3) (kh (P.cUn VT (P.cC (.int 1))) kD))) (kF Jh (kh (kJ P.oEq (kj 3) (P.cC (.int 13))) kD))) kD)))))))
def Zt:P.Fn:=P.fnX 4 yG
def xw:P.Fn:=P.fnOf 4 yG
def zh:P.FS :=
 (kM (P.sIf (qD (kJ P.oEq (kj 0) (P.cC (.int 0)))) (kZ (kF vE (kh (kj 1) (kh (kj 2) (kh (kj 3) kD))))) qI)
 (kZ (kF qw (kh (kj 1) (kh (P.cC (.int 3)) (kh (kj 2) (kh (kj 3) kD)))))))
def Zz:P.Fn:=P.fnX 4 zh
def xJ:P.Fn:=P.fnOf 4 zh
def Ww:P.FS :=
 (kM (qR 4 (kF VQ (kh (kj 0) kD)))
 (kM (P.sIf (qD (kJ P.oEq (kj 1) (P.cC (.int 0)))) (kZ (kF xO (kh (kJ P.oMod (kj 2) (P.cC (.int 23))) (kh (kJ P.oIx (qO (kh (P.cC .non) (kh (kF Wv (kh (kj 0) kD)) (kh (wV kD) (kh (wV (kh (wV (kh (P.cC (.int 0)) kD)) kD)) (kh (wV (kh (wV (kh (P.cC .non) kD)) kD)) (kh (wV (kh (wV (kh (P.cC (.bl true)) kD)) kD)) kD))))))) (kJ P.oMod (kj 3) (P.cC (.int 6)))) (kh (kj 0) kD))))) qI)
 (kM (P.sIf (qD (kJ P.oEq (kj 1) (P.cC (.int 1)))) (kM (qR 5 (kJ P.oIx (qO (kh (wV (kh (P.cC (.int 5)) (kh (P.cC (.int 0)) kD))) (kh (wV (kh (P.cC (.int 0)) (kh (P.cC (.int 7)) kD))) (kh (wV (kh (P.cUn VT (P.cC (.int 1))) (kh (P.cC (.int 0)) kD))) (kh (qO (kh (P.cC (.int 0)) (kh (P.cC (.int 0)) kD))) (kh (wV (kh (P.cC (.bl true)) (kh (P.cC (.int 0)) kD))) (kh (wV (kh (P.cC (.int 0)) kD)) (kh (P.cC .non) (kh (P.cC (.str "00")) (kh (kJ vZ (kJ P.oIx (kj 4) (P.cC (.int 0))) (wV (kh (P.cC (.int 0)) kD))) kD)))))))))) (kJ P.oMod (kj 3) (P.cC (.int 9)))))
 (kZ (kF x6 (kh (kJ P.oMod (kj 2) (P.cC (.int 3))) (kh (kj 0) (kh (kj 5) (kh (kJ P.oIx (qO (kh (P.cC .non) (kh (P.cC (.int 3)) kD))) (kJ P.oMod (kJ P.oDiv (kj 3) (P.cC (.int 9))) (P.cC (.int 2)))) kD))))))) qI)
 (kM (P.sIf (qD (kJ P.oEq (kj 1) (P.cC (.int 2)))) (kM (qR 6 (qO (kh (kJ Ub (qO (kh (kF wR (kh (kj 4) kD)) kD)) (P.cC (.int 2))) (kh (qO (kh (kF wR (kh (Wt (kj 4) (VI (P.cC (.int 1))) Wg) kD)) kD)) (kh (kF wR (kh (qO (kh (kF wR (kh (kj 4) kD)) kD)) kD)) (kh (P.cC .non) (kh (qO kD) (kh (qO (kh (kF Wv (kh (kj 4) kD)) kD)) kD))))))))
 (kZ (kF yX (kh (kj 0) (kh (kJ P.oIx (kJ vZ (kj 6) (qO (kh (qO (kh (kF wR (kh (kj 4) kD)) (kh (P.cC .non) kD))) kD))) (kJ P.oMod (kj 3) (P.cC (.int 7)))) kD))))) qI)
 (kM (P.sIf (qD (kJ P.oEq (kj 1) (P.cC (.int 3)))) (kM (qR 5 (kJ P.oIx (qO (kh (P.cC (.int 0)) (kh (P.cUn VT (P.cC (.int 1))) (kh (P.cC (.bl true)) (kh (P.cC (.str "1")) (kh (P.cC .non) (kh (P.cC (.int 13)) kD))))))) (kJ P.oMod (kj 3) (P.cC (.int 6)))))
 (kM (P.sIf (qD (kJ P.oLt (kJ P.oMod (kj 2) (P.cC (.int 9))) (P.cC (.int 7)))) (kZ (kF xw (kh (kJ P.oMod (kj 2) (P.cC (.int 9))) (kh (kj 0) (kh (kJ P.oIx (kj 4) (P.cC (.int 0))) (kh (kj 5) kD)))))) qI)
 (kZ (kF xJ (kh (kJ zT (kJ P.oMod (kj 2) (P.cC (.int 9))) (P.cC (.int 7))) (kh (kj 0) (kh (kJ P.oIx (kj 4) (P.cC (.int 0))) (kh (kJ P.oIx (qO (kh (P.cC (.int 0)) (kh (P.cUn VT (P.cC (.int 1))) (kh (P.cC (.bl true)) (kh (P.cC (.str "1")) (kh (P.cC .non) (kh (P.cC (.int 10000)) kD))))))) (kJ P.oMod (kj 3) (P.cC (.int 6)))) kD)))))))) qI)
 (kM (qR 5 (kJ P.oIx (qO (kh (wV (kh (P.cC (.int 1)) kD)) (kh (qO kD) (kh (qO (kh (P.cC (.int 0)) kD)) (kh (qO (kh (P.cC (.int 1)) (kh (P.cUn VT (P.cC (.int 1))) kD))) (kh (qO (kh (P.cC (.bl true)) kD)) (kh (qO (kh (P.cC (.str "1")) kD)) (kh (P.cC .non) (kh (kJ Ub (qO (kh (P.cC (.int 1)) kD)) (P.cC (.int 13))) (kh (qO (kh (P.cC (.int 1)) (kh (P.cC .non) kD))) kD)))))))))) (kJ P.oMod (kj 3) (P.cC (.int 9)))))
 (kZ (L3.VM [ze,vW] (kJ P.oMod (kj 2) (P.cC (.int 2))) (kh (kj 0) (kh (kj 5) kD))))))))))
def kd8:P.Fn:=P.fnX 7 Ww
def wD:P.Fn:=P.fnOf 7 Ww
def kbj:P.FS :=
 (kM (qR 1 (kF Qu (kh (kj 0) (kh (P.cC (.int 4)) (kh (P.cC (.int 6)) kD)))))
 (kM (qR 2 (kF vO (kh (kj 0) (kh (P.cC (.int 0)) (kh (P.cC (.int 5)) kD)))))
 (kM (L3.Je 2 (kF wD (kh (kj 1) (kh (kj 2) (kh (kF vO (kh (kj 0) (kh (P.cC (.int 1)) (kh (kJ K7 (P.cC (.int 23)) (P.cC (.int 18))) kD)))) (kh (kF vO (kh (kj 0) (kh (P.cC (.int 2)) (kh (kJ JX (P.cC (.int 10)) (P.cC (.int 6))) kD)))) kD))))))
 (kZ (P.cC (.bl false))))))
def Wn:P.Fn:=P.fnX 5 kbj
end G
namespace P
def szm {n:Nat}(h:n<=100000):n<=kP:=by show n<=16777216;omega
section
variable {m:Fn}{a b c:FE}{env env' e2:Env}{x y z r:D}{i n:Nat}{t u:FT}{f g:FS}{q:Rs Out}{k k':Bool}{l l':List D}{o:O2}{o1:O1}{it:FI}{gg:FG}{Q:Rs Out->Prop}
def vJ (h:f env = .ok (.next env'))(k:g env'=q):kM f g env=q:=by rw[Qp,h,kbf,k]
def JM (h:f env = .ok (.ret x)):kM f g env = .ok (.ret x):=by rw[Qp,h,kje]
def wY (h:a env = .ok x):qR i a env = .ok (.next (env.set i (some x))):=by rw[kcd,h,khW]
def v8 (h:a env = .ok x):vR a env = .ok (.next env):=by rw[kae,h,kir]
def w_t (h:t env = .ok true)(k:f env=q):sIf t f g env=q:=by rw[KA,h,kcZ,k]
def w_f (h:t env = .ok false)(k:g env=q):sIf t f g env=q:=by rw[KA,h,kd2,k]
def vh (h:t env = .ok false):sIf t f qI env = .ok (.next env):=w_f h rfl
def xF (h:a env = .ok x):kZ a env = .ok (.ret x):=by rw[JF,h,kic]
def kaS (h:a env = .ok x)(e:env[i]?=some (some (.lst l)))(hl:l.length < 100000):K2 i a env = .ok (.next (env.set i (some (.lst (l++[x]))))):=by
 rw[khi,e,h,kiw,if_pos (by show _ < 16777216;omega)]
def kh1 (h:a env = .ok (.lst l'))(e:env[i]?=some (some (.lst l)))(hl:l.length+l'.length<=100000):Yw i a env = .ok (.next (env.set i (some (.lst (l++l'))))):=by
 rw[kgT,e,h,kiD,if_pos (szm hl)]
def Y0 (h:it env = .ok l)(k:forL gg f l env=q):z0 it gg f env=q:=by rw[kb3,h,kh9,k]
def KY (h:f (l.map some++List.replicate (n - l.length) none) = .ok (.ret x)):fnX n f l = .ok x:=xG (by rw[Zi,h,kgz])
def vH (ha:a env = .ok x)(h:m [x] = .ok r):kF m (kh a kD) env = .ok r:=by rw[yd,qa,ha,Kl,yH,VP,h]
def QL (ha:a env = .ok x)(hb:b env = .ok y)(h:m [x,y] = .ok r):kF m (kh a (kh b kD)) env = .ok r:=by rw[yd,qa,qa,ha,hb,Kl,yH,yH,VP,h]
def zw (ha:a env = .ok x)(hb:b env = .ok y)(hc:c env = .ok z)(h:m [x,y,z] = .ok r):kF m (kh a (kh b (kh c kD))) env = .ok r:=by rw[yd,qa,qa,qa,ha,hb,hc,Kl,yH,yH,yH,VP,h]
def w_b (ha:a env = .ok x)(hb:b env = .ok y)(h:o x y = .ok r):kJ o a b env = .ok r:=by rw[YS,ha,hb,kax,h]
def w_u (ha:a env = .ok x)(h:o1 x = .ok r):cUn o1 a env = .ok r:=by rw[keP,ha,keN,h]
def KZ (h:a env = .ok (.bl k)):qD a env = .ok k:=by rw[UR,h,kh6]
def zv (h:a env = .ok (.bl k)):vF a env = .ok k:=by rw[XA,h];rfl
def w_and (h:t env = .ok k)(h':u env = .ok k'):Ws t u env = .ok (k&&k'):=by rw[UT,h,h',keG,khX]
def kiX (h:t env = .ok true):zA t u env = .ok true:=by rw[Jk,h,kez,kiT]
def ki8 (h:t env = .ok true)(h':u env = .ok k):Ws t u env = .ok k:=by rw[UT,h,h',keG,kjJ]
def khv (h:t env = .ok false)(h':u env = .ok k):zA t u env = .ok k:=by rw[Jk,h,h',kez,kiM]
def Jz (h:gg x env = .ok env')(h':f env' = .ok (.next e2))(k:forL gg f l e2=q):forL gg f (x::l) env=q:=by rw[zb h h',k]
def kjA {o':O2}(ha:a env = .ok x)(hb:b env = .ok y)(hc:c env = .ok z)(h:o x y = .ok (.bl k))(h':o' y z = .ok (.bl k')):yv o o' a b c env = .ok (.bl (k&&k')):=by rw[kdq,ha,hb,hc,khU,h,kax,h',keR,kh5]
def kgP {i j:Int}(h:i<=j):oLe (.int i) (.int j) = .ok (.bl true):=by rw[kjS,decide_eq_true h]
def Z8 (h:t env = .ok true):qQ t env = .ok false:=by rw[Q9,h];rfl
def w_all {α:Type}(l:List α):QI [.lst (l.map λ_=>.bl true)] = .ok (.bl true):=by
 have h:(l.map λ_=>D.bl true)=List.replicate l.length (D.bl true):=List.map_const ..;rw[h,Jc,List.all_replicate,List.all_replicate]
 cases l.length <;> rfl
def ka1 {i j:Int}(h:¬i < j):oLt (.int i) (.int j) = .ok (.bl false):=by rw[Jt,decide_eq_false h]
def ki7 (ha:a env = .ok (.bl true))(hb:b env = .ok y):ZN a b env = .ok y:=by rw[khg,ha,hb,keR,kjx]
def kjf {i j:Int}(h:¬i=j):oEq (.int i) (.int j) = .ok (.bl false):=by
 rw[kdr,kaz,decide_eq_false h];rfl
def khZ (ha:a env = .ok x)(hb:b env = .ok y)(e:env[i]?=some (some (.dic l l')))(hk:x.tk=true)(hl:l.length < 100000):jd i a b env = .ok (.next (env.set i (some (.dic (xy l x) (xu l l' x y))))):=by
 rw[khy,e,ha,hb,kh2,if_pos (by rw[hk];exact decide_eq_true (show _ < 16777216 by omega))]
def kgG (h:a env = .ok (.int n))(hn:n < 1000):yw a env = .ok (upTo 0 n):=by
 rw[khh,h,Ud,if_pos ⟨by omega,by omega⟩,Int.toNat_natCast]
def w_not (h:t env = .ok k):qQ t env = .ok (!k):=by rw[Q9,h];rfl
def kjh:qO kD env = .ok (.lst []):=rfl
def kdv (ha:a env = .ok x):qO (kh a kD) env = .ok (.lst [x]):=by rw[Y8,qa,ha];rfl
def Qv {k:Nat}{pick:List Nat}{e:FE}(h:it env = .ok l)(hv:qT gg t e (qN k pick env) l = .ok l')(hl:l'.length<=100000):wU k pick it gg t e env = .ok (.lst l'):=by
 rw[U8,h,keD,hv,u7,if_pos (szm hl)]
def kea (h:a env = .ok (.lst l)):zx a env = .ok l:=by rw[kgm,h];rfl
def keK (x:D)(S:List D):atI (x::S) 0=some x:=by
 rw[wG (by decide) (by rw[zam];omega)];rfl
def kd0 (h:a env = .ok (.tup (x::l))):kJ oIx a (cC (.int 0)) env = .ok x:=w_b h rfl (by show oat (atI (x::l) 0)=_;rw[keK];rfl)
def kdy (h:a env = .ok (.lst (x::l))):kJ oIx a (cC (.int 0)) env = .ok x:=w_b h rfl (by show oat (atI (x::l) 0)=_;rw[keK];rfl)
def kjp (ha:a env = .ok x)(hb:b env = .ok y):qO (kh a (kh b kD)) env = .ok (.lst [x,y]):=by rw[Y8,qa,qa,ha,hb];rfl
end
end P
open P (vJ wY vh xF Y0 KY vH KZ ka1)
namespace G
open P (D Rs Out)
def dI (ns:List Int):D:=.lsf (ns.map .int)
def cellAt (ns:List Int)(k:Int):Int:=if k < ns.length then ns.getD k.toNat 0 else if ns=[] then 0 else ns.getD (k % ns.length).toNat 0 * 31+k
def drawn (ns:List Int)(k:Int):Int:=(cellAt ns k+7919 * k+1) * 48271 % 2147483647
def mixed (ns:List Int)(k many:Int):Int:=(drawn ns k * drawn ns k+7 * drawn ns k+k) % 2147483629 % many
def Uh (ns:List Int)(k:Int)(h0:0<=k):zC [dI ns,.int k] = .ok (.int (cellAt ns k)):=by
 unfold zC;refine xG ?_;unfold Qj cellAt dI
 by_cases h:k < ns.length
 ·have:k.toNat < ns.length:=by omega
  simp[h,wG,h0,this]
 ·have hp:=P.ke0 (n:=39) (f:=D.int) (l:=ns) λa _=>by simp
  by_cases h':ns=[]
  ·subst h';have h:¬ k < 0:=by omega
   simp[h,kP]
  ·have h1:(0:Int) < ns.length:=by
    have:=List.length_pos_iff.mpr h';omega
   have h2:=Int.emod_nonneg k (Int.ne_of_gt h1);have h3:=Int.emod_lt_of_pos k h1;have h4:(k % (ns.length:Int)).toNat < ns.length:=by omega
   have h5:D.eqs (ns.map D.int) []=false:=by
    obtain⟨x,r,rfl⟩:=List.exists_cons_of_ne_nil h';rw[zat,P.khO]
   have h6:0 < ns.length:=by omega
   simp[h,kP,hp,wG,h1,h2,h3,h4,h',h5,h6]
def kdX (ns:List Int)(k:Int):0<=drawn ns k:=Int.emod_nonneg _ (by decide)
def kcR (ns:List Int)(k:Int):drawn ns k < 2147483647:=Int.emod_lt_of_pos _ (by decide)
def Km (ns:List Int)(k many:Int)(h0:0<=k)(hm:0 < many):vO [dI ns,.int k,.int many] = .ok (.int (mixed ns k many)):=by
 unfold vO;refine xG ?_;unfold VH mixed
 have h1:=kdX ns k;have h2:=kcR ns k;have h3:-18446744073709551616 < drawn ns k/\drawn ns k < 18446744073709551616:=by omega
 simp only[drawn]at h1 h2 h3;simp[Uh,h0,hm,drawn,h3]
def Vk (ns:List Int)(k:Int){many:Int}(h:0 < many):0<=mixed ns k many:=Int.emod_nonneg _ (Int.ne_of_gt h)
def Vf (ns:List Int)(k:Int){many:Int}(h:0 < many):mixed ns k many < many:=Int.emod_lt_of_pos _ h
abbrev kR:=List (List (Option Int))
def qJ:Option Int->D
 |none=>.non
 |some v=>.int v
def qC (r:List (Option Int)):D:=.tup (r.map qJ)
def kG (s:kR):D:=.tup (s.map qC)
def cnt (r:List (Option Int)):Nat:=(r.filter Option.isSome).length
def total (s:kR):Nat:=(s.map cnt).sum
def Q5 (p:Option Int):Prop:=∀v,p=some v->1<=v/\v<=9999
structure yV (C:Nat)(s:kR):Prop where
 len:∀r∈s,r.length=C
 ok:∀r∈s,∀p∈r,Q5 p
structure qy (most:Int)(s:kR):Prop where
 rows1:1<=s.length
 rows5:s.length<=5
 cols:∃C,1<=C/\C<=5/\yV C s
 some1:1<=total s
 most:(total s:Int)<=most
def jU (r:List (Option Int))(v:Int):cnt (r++[some v])=cnt r+1:=by simp[cnt]
def j6 (r:List (Option Int)):cnt (r++[none])=cnt r:=by simp[cnt]
def kaU (s:kR)(r:List (Option Int)):total (s++[r])=total s+cnt r:=by simp[total]
def khw (m:Int)(h0:0<=m)(h1:m < 5):∃t:Int,P.atI [D.int 2,D.int 5,D.int 9,D.int 30,D.int 9999] m=some (.int t)/\2<=t/\t<=9999:=by
 have:m=0∨m=1∨m=2∨m=3∨m=4:=by omega
 rcases this with rfl | rfl | rfl | rfl | rfl
 ·exact⟨2,rfl,by decide,by decide⟩
 ·exact⟨5,rfl,by decide,by decide⟩
 ·exact⟨9,rfl,by decide,by decide⟩
 ·exact⟨30,rfl,by decide,by decide⟩
 ·exact⟨9999,rfl,by decide,by decide⟩
def xZ (ns:List Int)(at_ most R C top holes left:Int)(made:kR)(row:Option D)(places:Option D)(z1 z2 z3:Option D):P.Env :=
 [some (dI ns),some (.int at_),some (.int most),some (.int R),some (.int C),some (.int top),some (.int holes),some (.int left),some (.lst (made.map qC)),row,places,z1,z2,z3]
def Us (ns:List Int)(at_ most R C top holes r:Int)(made:kR)(h0:0<=at_)(hm:1<=most)(hC1:1<=C)(hC5:C<=5)(t0:2<=top)(t1:top<=9999)(hr:0<=r)(hr2:r < 5)
 (left:Int) (hl0:0<=left) (hl1:left<=most) (ht:(total made:Int)=most - left) (z1 z2 z3:Option D) :
 ∃left' p z1' z2' z3',P.forL (vA 11) Ky (P.upTo 0 C.toNat) (xZ ns at_ most R C top holes left made (some (.int r)) (some (.lst [])) z1 z2 z3) =
  .ok (.next (xZ ns at_ most R C top holes left' made (some (.int r)) (some (.lst (p.map qJ))) z1' z2' z3')) ∧
  p.length=C.toNat/\(∀q∈p,Q5 q)/\0<=left'/\left'<=most/\(total made+cnt p:Int)=most - left'/\(r+1=R->left' < most):=by
 have key:=Wy (g:=vA 11) (b:=Ky) (xs:=P.upTo 0 C.toNat) (n:=0) (env:=xZ ns at_ most R C top holes left made (some (.int r)) (some (.lst [])) z1 z2 z3)
  (λc env=>∃left' p z1' z2' z3',env=xZ ns at_ most R C top holes left' made (some (.int r)) (some (.lst (p.map qJ))) z1' z2' z3' ∧
   p.length=c/\(∀q∈p,Q5 q)/\0<=left'/\left'<=most/\(total made+cnt p:Int)=most - left'/\(r+1=R->c=C.toNat->left' < most))
  ⟨left,[],z1,z2,z3,rfl,rfl,by simp,hl0,hl1,by simp[cnt,ht],by omega⟩ ?_
 ·obtain⟨env',e,l',p,z1',z2',z3',rfl,h1,h2,h3,h4,h5,h6⟩:=key;rw[wo,Nat.zero_add]at h1 h6;exact⟨l',p,z1',z2',z3',e,h1,h2,h3,h4,h5,λq=>h6 q rfl⟩
 ·rintro i x env hx ⟨l',p,z1',z2',z3',rfl,h1,h2,h3,h4,h5,h6⟩;obtain⟨hi,rfl⟩:=zU hx;rw[Nat.zero_add]at h1 h6 ⊢
  have hk:0<=at_+4+C * r+(0+(i:Int)):=by
   have:=Int.mul_nonneg (show 0<=C by omega) hr;omega
  have ht10:0 < 10 * top:=by omega
  have m0:=Vk ns (at_+4+C * r+(0+(i:Int))) ht10;have m1:=Vf ns (at_+4+C * r+(0+(i:Int))) ht10;have hC:-18446744073709551616 < C/\C < 18446744073709551616:=by omega
  have hq:(p.map qJ).length < kP:=by
   simp[kP];omega
  simp only[Int.zero_add]at hk m0 m1 ⊢;generalize hcell:mixed ns (at_+4+C * r+(i:Int)) (10 * top)=cell at *
  have hq':p.length < 16777216:=by
   rw[zai]at hq;exact hq
  have hcl:0<=cell / 10/\cell / 10 < top:=⟨by omega,by omega⟩
  by_cases hc:(l'=0∨(cell % 10 < holes/\(l' < most∨r+1 < R∨(i:Int)+1 < C)))
  ·have hb:(decide (l'=0)||decide (cell % 10 < holes)&&(decide (l' < most)||(decide (r+1 < R)||decide ((i:Int)+1 < C))))=true:=by simpa using hc
   refine⟨xZ ns at_ most R C top holes l' made (some (.int r)) (some (.lst (p.map qJ))) (some (.int i)) z2' z3',xZ ns at_ most R C top holes l' made (some (.int r)) (some (.lst ((p++[none]).map qJ))) (some (.int i)) (some (.int cell)) (some .non),rfl,.inl ?_,?_⟩
   ·unfold Ky xZ;simp[Km,hk,ht10,hC,hcell,hb,hq',qJ,kP]
   ·refine⟨l',p++[none],_,_,_,rfl,by simp[h1],?_,h3,h4,by rw[j6];exact h5,λhr1 hi1=>?_⟩
    ·intro q hq
     rcases List.mem_append.mp hq with h | h
     ·exact h2 q h
     ·rw[List.mem_singleton.mp h];intro v hv;cases hv
    ·omega
  ·have hb:(decide (l'=0)||decide (cell % 10 < holes)&&(decide (l' < most)||(decide (r+1 < R)||decide ((i:Int)+1 < C))))=false:=by
    rw[Bool.eq_false_iff];intro h;exact hc (by simpa using h)
   refine⟨xZ ns at_ most R C top holes l' made (some (.int r)) (some (.lst (p.map qJ))) (some (.int i)) z2' z3',xZ ns at_ most R C top holes (l' - 1) made (some (.int r)) (some (.lst ((p++[some (1+cell / 10)]).map qJ))) (some (.int i)) (some (.int cell)) (some (.int (1+cell / 10))),rfl,.inl ?_,?_⟩
   ·unfold Ky xZ;simp[Km,hk,ht10,hC,hcell,hb,hq',qJ,kP]
   ·refine⟨l' - 1,p++[some (1+cell / 10)],_,_,_,rfl,by simp[h1],?_,by omega,by omega,by rw[jU];omega,λhr1 hi1=>by omega⟩;intro q hq
    rcases List.mem_append.mp hq with h | h
    ·exact h2 q h
    ·rw[List.mem_singleton.mp h];intro v hv;cases hv;omega
def kbz (ns:List Int)(at_ most:Int)(h0:0<=at_)(hm:1<=most):∃s,Qu [dI ns,.int at_,.int most] = .ok (kG s)/\qy most s:=by
 have r0:=Vk ns at_ (show (0:Int) < 3 by decide);have r1:=Vf ns at_ (show (0:Int) < 3 by decide);have c0:=Vk ns (at_+1) (show (0:Int) < 5 by decide);have c1:=Vf ns (at_+1) (show (0:Int) < 5 by decide);obtain⟨top,ht,t0,t1⟩:=khw (mixed ns (at_+2) 5) (Vk _ _ (by decide)) (Vf _ _ (by decide));generalize hR:1+mixed ns at_ 3=R at *;generalize hC:1+mixed ns (at_+1) 5=C at *;generalize hH:mixed ns (at_+3) 4=holes at *;have hR1:1<=R:=by omega
 have hR3:R<=3:=by omega
 have hC1:1<=C:=by omega
 have hC5:C<=5:=by omega
 have key:=Wy (g:=vA 9) (b:=Wo) (xs:=P.upTo 0 R.toNat) (n:=0) (env:=xZ ns at_ most R C top holes most [] none none none none none)
  (λi env=>∃left made z1 z2 z3 z4 z5,env=xZ ns at_ most R C top holes left made z1 z2 z3 z4 z5/\made.length=i/\yV C.toNat made/\0<=left/\left<=most/\(total made:Int)=most - left/\(i=R.toNat->left < most))
  ⟨most,[],none,none,none,none,none,rfl,rfl,⟨by simp,by simp⟩,by omega,by omega,by simp[total],by omega⟩ ?_
 ·obtain⟨env',e,left,made,z1,z2,z3,z4,z5,rfl,l1,ok,b0,b1,tt,lt⟩:=key;rw[wo,Nat.zero_add]at l1 lt;refine⟨made,?_,by omega,by omega,⟨C.toNat,by omega,by omega,ok⟩,?_,?_⟩
  ·unfold Qu;refine xG ?_;unfold VL
   have e1:0<=at_+1:=by omega
   have e2:0<=at_+2:=by omega
   have e3:0<=at_+3:=by omega
   have e4:-4611686018427387904<=R/\R < 4611686018427387904:=by omega
   simp only[xZ]at e;simp[Km,h0,e1,e2,e3,kP,ht,hR,hC,hH,e4];rw[show ([]:List D)=([]:kR).map qC from rfl,e];simp[kG]
  ·have:=lt rfl;omega
  ·omega
 ·rintro i x env hx ⟨left,made,z1,z2,z3,z4,z5,rfl,l1,ok,b0,b1,tt,lt⟩;obtain⟨hi,rfl⟩:=zU hx;rw[Nat.zero_add]at l1 lt ⊢;obtain⟨left',p,y1,y2,y3,e,pl,pok,q0,q1,qt,ql⟩:=Us ns at_ most R C top holes (0+(i:Int)) made h0 hm hC1 hC5 t0 t1 (by omega) (by omega) left b0 b1 tt z3 z4 z5;have e4:-4611686018427387904<=C/\C < 4611686018427387904:=by omega
  have hm':made.length < 16777216:=by omega
  refine⟨xZ ns at_ most R C top holes left made (some (.int (0+(i:Int)))) z2 z3 z4 z5,xZ ns at_ most R C top holes left' (made++[p]) (some (.int (0+(i:Int)))) (some (.lst (p.map qJ))) y1 y2 y3,rfl,.inl ?_,left',made++[p],_,_,_,_,_,rfl,by simp[l1],⟨?_,?_⟩,q0,q1,?_,?_⟩
  ·unfold Wo;simp only[xZ]at e ⊢;simp[kP,e4];simp only[Int.zero_add]at e;rw[e];simp[hm',kP,qC]
  ·intro r hr
   rcases List.mem_append.mp hr with h | h
   ·exact ok.len r h
   ·rw[List.mem_singleton.mp h];exact pl
  ·intro r hr
   rcases List.mem_append.mp hr with h | h
   ·exact ok.ok r h
   ·rw[List.mem_singleton.mp h];exact pok
  ·rw[kaU];omega
  ·intro q;exact ql (by omega)
abbrev Cell:=Int×Int
def kK (c:Cell):D:=.tup [.int c.1,.int c.2]
def qk (r:Int):Int->List (Option Int)->List Cell
 |_,[]=>[]
 |c,none::t=>qk r (c+1) t
 |c,some _::t=>(r,c)::qk r (c+1) t
def cellsFrom:Int->kR->List Cell
 |_,[]=>[]
 |r,row::t=>qk r 0 row++cellsFrom (r+1) t
def cells (s:kR):List Cell:=cellsFrom 0 s
def xT (r:Int):∀ (c:Int) (row:List (Option Int)),(qk r c row).length=cnt row
 |_,[]=>rfl
 |c,none::t=>by rw[qk,xT r (c+1) t];simp[cnt]
 |c,some v::t=>by rw[qk,zam,xT r (c+1) t];simp[cnt]
def zW:∀ (r:Int) (s:kR),(cellsFrom r s).length=total s
 |_,[]=>rfl
 |r,row::t=>by rw[cellsFrom,zap,xT,zW (r+1) t];simp[total]
def KI (s:kR):(cells s).length=total s:=zW 0 s
def um (row:List (Option Int)):cnt row<=row.length:=List.length_filter_le _ _
def qv (d:D)(lo hi:Int):Bool:=match d with
 |.int v=>decide (lo<=v)&&decide (v<=hi)
 |_=>false
def V8 (d:D):Bool:=d.isN||qv d 1 9999
def ZE:D->Bool
 |.tup ps=>(decide ((1:Int)<=ps.length)&&decide ((ps.length:Int)<=5))&&ps.all V8
 |_=>false
def QS (d:D)(lo:Int):Bool:=match d with
 |.int v=>decide (lo<=v)
 |_=>false
def Kc (d:D)(lo:Int):vm [d,.int lo] = .ok (.bl (QS d lo)):=by
 unfold vm;refine xG ?_;unfold yK
 cases d <;> simp[P.isBool,P.isInt,QS]
def wm (d:D)(lo hi:Int):qH [d,.int lo,.int hi] = .ok (.bl (qv d lo hi)):=by
 unfold qH;refine xG ?_;unfold Q0
 cases d <;> simp[Kc,QS,qv]
def Uv (d:D):zu [d] = .ok (.bl (V8 d)):=by
 unfold zu;refine xG ?_;unfold QX V8
 simp[wm]
def WL {g:P.FG}{e:P.FE}{env:P.Env}(v:D->D){l:List D}(h:∀a,a∈l->∃env',g a env = .ok env'/\e env' = .ok (v a)):qT g wu e env l = .ok (l.map v):=by
 have:=yh (g:=g) (e:=e) (env:=env) (λd=>d) v (l:=l) h
 rwa [List.map_id'' λ_=>rfl]at this
def kbQ (p:D->Bool)(l:List D):(l.map λd=>D.bl (p d)).all P.isBool=true:=by
 rw[List.all_map,List.all_eq_true];exact λ_ _=>rfl
def UK (p:D->Bool)(l:List D):(l.map λd=>D.bl (p d)).all D.tru=l.all p:=by
 rw[List.all_map];rfl
def kcK (d:D):Qg [d] = .ok (.bl (ZE d)):=by
 unfold Qg;refine xG ?_;unfold Wh
 cases d with
 |tup ps=>
  by_cases h:(1:Int)<=ps.length/\(ps.length:Int)<=5
  ·have hs:ps.length<=16777216:=by omega
   have key:=WL (g:=vA 0) (e:=kF zu (kh (kj 0) kD)) (env:=[none]) (λd=>D.bl (V8 d)) (l:=ps) λd hd=>⟨_,rfl,by simp[Uv]⟩
   simp[h.1,h.2,ZE,qN,key,kP,hs,Function.comp_def]
  · have hb:(decide ((1:Int) <= ps.length) && decide ((ps.length:Int) <= 5)) = false:=by
      rw[Bool.eq_false_iff];intro q;exact h (by simpa using q)
    have hb':(!decide ((1:Int)<=ps.length)||!decide ((ps.length:Int)<=5))=true:=by
     rw[<- Bool.not_and,hb];rfl
    simp[P.isTup,hb',ZE];intro h1 h2;exact absurd ⟨h1,h2⟩ h
 |_=>simp[P.isTup,ZE]
def jh (lo:Int)(x:D)(xs:List D):qG lo (x::xs) = .tup [.int lo,x]::qG (lo+1) xs:=rfl
def VW (r:Int) (sh pl:Option D):∀ (row:List (Option Int)) (c:Int) (acc:List D) (z4 z5:Option D),acc.length + row.length < kP →
 ∃z4' z5',P.forL (QO [4,5]) zc (qG c (row.map qJ)) [sh,some (.lst acc),some (.int r),pl,z4,z5] =
  .ok (.next [sh,some (.lst (acc++(qk r c row).map kK)),some (.int r),pl,z4',z5'])
 | [],c,acc,z4,z5,_=>⟨z4,z5,by simp[qG,qk]⟩
 |p::row,c,acc,z4,z5,h=>by
  rw[zam]at h;rw[zat,jh]
  cases p with
  |none=>
   obtain⟨y4,y5,e⟩:=VW r sh pl row (c+1) acc (some (.int c)) (some .non) (by omega);refine⟨y4,y5,?_⟩;rw[zb (env2:=[sh,some (.lst acc),some (.int r),pl,some (.int c),some .non]) rfl (by unfold zc;simp[qJ]),e,qk]
  |some v=>
   obtain⟨y4,y5,e⟩:=VW r sh pl row (c+1) (acc++[kK (r,c)]) (some (.int c)) (some (.int v)) (by rw[zap,List.length_singleton];omega);refine⟨y4,y5,?_⟩;have hl:acc.length < kP:=by omega
   rw[zb (env2:=[sh,some (.lst (acc++[kK (r,c)])),some (.int r),pl,some (.int c),some (.int v)]) rfl (by unfold zc;simp[qJ,hl,kK,show 2<=kP by decide]),e,qk,zat];simp
def XT (sh:Option D):∀ (s:kR) (r:Int) (acc:List D) (z2 z3 z4 z5:Option D),acc.length + (s.map List.length).sum < kP →
 ∃z2' z3' z4' z5',P.forL (QO [2,3]) K4 (qG r (s.map qC)) [sh,some (.lst acc),z2,z3,z4,z5] =
  .ok (.next [sh,some (.lst (acc++(cellsFrom r s).map kK)),z2',z3',z4',z5'])
 | [],r,acc,z2,z3,z4,z5,_=>⟨z2,z3,z4,z5,by simp[qG,cellsFrom]⟩
 |row::s,r,acc,z2,z3,z4,z5,h=>by
  rw[zat,List.sum_cons]at h;obtain⟨y4,y5,e⟩:=VW r sh (some (qC row)) row 0 acc z4 z5 (by omega)
  obtain⟨x2,x3,x4,x5,e'⟩:=XT sh s (r+1) (acc++(qk r 0 row).map kK) (some (.int r)) (some (qC row)) y4 y5 (by
   rw[zap,zai,xT];have:=um row
   omega)
  refine⟨x2,x3,x4,x5,?_⟩
  rw[zat,jh,zb (env2:=[sh,some (.lst (acc++(qk r 0 row).map kK)),some (.int r),some (qC row),y4,y5]) rfl (by
   unfold K4;simp only[P.kb3,P.kiH,P.khe];simp[qC]
   rw[<- qC,e]),e',cellsFrom,List.map_append,List.append_assoc]
def V5 (s:kR)(h:(s.map List.length).sum < kP):vL [kG s] = .ok (.lst ((cells s).map kK)):=by
 unfold vL;refine xG ?_;unfold zN
 obtain⟨x2,x3,x4,x5,e⟩:=XT (some (kG s)) s 0 [] none none none none (by simpa using h);simp[kP,kG];simp only[kG]at e;rw[e];simp[cells]
def kck {p:Option Int}(h:Q5 p):V8 (qJ p)=true:=by
 cases p with
 |none=>rfl
 |some v=>
  have:=h v rfl;simp[V8,qJ,qv,this.1,this.2]
def kfh {r:List (Option Int)}(h1:1<=r.length)(h5:r.length<=5)(h:∀p∈r,Q5 p):ZE (qC r)=true:=by
 have e1:(1:Int)<=r.length:=by omega
 have e2:(r.length:Int)<=5:=by omega
 simp only[ZE,qC,zai,e1,e2,decide_true,Bool.and_true,Bool.true_and,List.all_map,List.all_eq_true];exact λp hp=>kck (h p hp)
def uV (s:kR)(n:Nat)(h:∀r∈s,r.length<=n):(s.map List.length).sum<=s.length * n:=by
 induction s with
 |nil=>simp
 |cons r s ih=>
  rw[zat,List.sum_cons,zam,Nat.succ_mul];have:=ih λq hq=>h q (zah _ hq)
  have:=h r zaj;omega
def WU (s:kR)(h1:1<=s.length)(h5:s.length<=5)(hr:∀r∈s,(1<=r.length/\r.length<=5)/\∀p∈r,Q5 p) :
 xP [kG s] = .ok (.bl (s.all (λr=>r.length==(s.getD 0 []).length)&&(decide ((1:Int)<=total s)&&decide ((total s:Int)<=12)))):=by
 have hsum:(s.map List.length).sum < kP:=by
  have:=uV s 5 λr h=>(hr r h).1.2
  have:s.length * 5<=25:=by omega
  simp[kP];omega
 have hst:=V5 s hsum;unfold xP;refine xG ?_;unfold QT
 have e1:(1:Int)<=s.length:=by omega
 have e2:(s.length:Int)<=5:=by omega
 have e3:s.length<=16777216:=by omega
 have k1:=yh (g:=vA 0) (e:=kF Qg (kh (kj 0) kD)) (env:=[none]) qC (λ_=>D.bl true) (l:=s) λr hm=>⟨_,rfl,by simp[kcK,kfh (hr r hm).1.1 (hr r hm).1.2 (hr r hm).2]⟩
 have k2:=yh (g:=vA 0) (e:=kJ P.oNe (kF vD (kh (kj 0) kD)) (kF vD (kh (kJ P.oIx (kj 1) (P.cC (.int 0))) kD))) (env:=[none,some (kG s)]) qC (λr=>D.bl (!decide ((r.length:Int)=((s.getD 0 []).length:Int)))) (l:=s) λr hm=>⟨_,rfl,by
  obtain⟨r0,t,rfl⟩:∃r0 t,s=r0::t:=List.exists_cons_of_ne_nil (by intro e;subst e;simp at h1)
  simp[kG,qC]⟩
 simp only[kG]at hst k2;have a1:(s.all λ_=>true)=true:=by simp
 have a2:(s.any λr=>!decide ((r.length:Int)=((s.getD 0 []).length:Int)))=!(s.all λr=>r.length==(s.getD 0 []).length):=by
  rw[List.not_all_eq_any_not]
  congr 1
  funext r
  by_cases q:r.length=(s.getD 0 []).length
  ·rw[q];simp
  ·have:¬ (r.length:Int)=((s.getD 0 []).length:Int):=by omega
   simp only[this,decide_false,Bool.not_false,beq_eq_false_iff_ne.mpr q]
 simp only[List.getD_eq_getElem?_getD]at a2 k2 ⊢;simp[kG,e1,e2,qN,k1,kP,e3,Function.comp_def,a1];simp[k2,kP,e3,Function.comp_def,a2]
 cases hq:s.all λr=>r.length==(s[0]?.getD []).length with
 |false=>simp
 |true=>simp[hst,KI]
def V1 {r:Int}{x:Cell}:∀ {row:List (Option Int)} {c:Int},x∈qk r c row↔x.1=r/\c<=x.2/\∃v,row[(x.2 - c).toNat]?=some (some v)
 | [],c=>by simp[qk]
 |none::t,c=>by
  rw[qk,V1 (row:=t) (c:=c+1)];constructor
  ·rintro⟨h1,h2,v,h3⟩
   refine⟨h1,by omega,v,?_⟩;have:(x.2 - c).toNat=(x.2 - (c+1)).toNat+1:=by omega
   rw[this,List.getElem?_cons_succ];exact h3
  ·rintro⟨h1,h2,v,h3⟩
   by_cases e:x.2=c
   ·have:(x.2 - c).toNat=0:=by omega
    rw[this]at h3;cases h3
   ·have:(x.2 - c).toNat=(x.2 - (c+1)).toNat+1:=by omega
    rw[this,List.getElem?_cons_succ]at h3;exact⟨h1,by omega,v,h3⟩
 |some w::t,c=>by
  rw[qk,List.mem_cons,V1 (row:=t) (c:=c+1)];constructor
  ·rintro (rfl | ⟨h1,h2,v,h3⟩)
   ·exact⟨rfl,Int.le_refl _,w,by simp⟩
   ·refine⟨h1,by omega,v,?_⟩
    have:(x.2 - c).toNat=(x.2 - (c+1)).toNat+1:=by omega
    rw[this,List.getElem?_cons_succ];exact h3
  ·rintro⟨h1,h2,v,h3⟩
   by_cases e:x.2=c
   ·left
    exact Prod.ext h1 e
   ·right
    have:(x.2 - c).toNat=(x.2 - (c+1)).toNat+1:=by omega
    rw[this,List.getElem?_cons_succ]at h3;exact⟨h1,by omega,v,h3⟩
def Yl {x:Cell}:∀ {s:kR} {r:Int},x∈cellsFrom r s↔r<=x.1/\0<=x.2/\∃row v,s[(x.1 - r).toNat]?=some row/\row[x.2.toNat]?=some (some v)
 | [],r=>by simp[cellsFrom]
 |row::t,r=>by
  rw[cellsFrom,List.mem_append,V1,Yl (s:=t) (r:=r+1)];constructor
  ·rintro (⟨h1,h2,v,h3⟩ | ⟨h1,h2,row',v,h3,h4⟩)
   ·refine⟨by omega,h2,row,v,?_,by simpa using h3⟩
    rw[h1];simp
   ·refine⟨by omega,h2,row',v,?_,h4⟩
    have:(x.1 - r).toNat=(x.1 - (r+1)).toNat+1:=by omega
    rw[this,List.getElem?_cons_succ];exact h3
  ·rintro⟨h1,h2,row',v,h3,h4⟩
   by_cases e:x.1=r
   ·left
    have:(x.1 - r).toNat=0:=by omega
    rw[this]at h3;cases h3;exact⟨e,h2,v,by simpa using h4⟩
   ·right
    have:(x.1 - r).toNat=(x.1 - (r+1)).toNat+1:=by omega
    rw[this,List.getElem?_cons_succ]at h3;exact⟨by omega,h2,row',v,h3,h4⟩
def Qq {x:Cell}{s:kR}:x∈cells s↔0<=x.1/\0<=x.2/\∃row v,s[x.1.toNat]?=some row/\row[x.2.toNat]?=some (some v):=by
 unfold cells;rw[Yl,Int.sub_zero]
def UO (a b:Cell):D.kl (kK a) (kK b)=true↔a.1 < b.1∨(a.1=b.1/\a.2 < b.2):=by
 unfold kK;rw[D.kl,Vj]
 by_cases e:a.1=b.1
 ·rw[if_pos (by simp[e]),Vj]
  by_cases q:a.2=b.2
  ·rw[if_pos (by simp[q]),D.kls];simp[e,q]
  ·rw[if_neg (by simp[q]),D.kl];simp[e]
 ·rw[if_neg (by simp[e]),D.kl];simp[e]
def Xm (a:Cell):(kK a).nk=true:=by simp[kK,D.nk,D.nks]
def ZX (r:Int):∀ (row:List (Option Int)) (c:Int),zy ((qk r c row).map kK)
 | [],c=>.nil
 |none::t,c=>by rw[qk];exact ZX r t (c+1)
 |some w::t,c=>by
  rw[qk,zat];refine List.pairwise_cons.mpr ⟨λy hy=>?_,ZX r t (c+1)⟩;obtain⟨x,hx,rfl⟩:=List.mem_map.mp hy;obtain⟨h1,h2,_⟩:=V1.mp hx;rw[UO];right;exact⟨h1.symm,by show c < x.2;omega⟩
def Jq:∀ (s:kR) (r:Int),zy ((cellsFrom r s).map kK)
 | [],r=>.nil
 |row::t,r=>by
  rw[cellsFrom,List.map_append];refine List.pairwise_append.mpr ⟨ZX r row 0,Jq t (r+1),λa ha b hb=>?_⟩;obtain⟨x,hx,rfl⟩:=List.mem_map.mp ha;obtain⟨y,hy,rfl⟩:=List.mem_map.mp hb;have h1:=(V1.mp hx).1;have h2:=(Yl.mp hy).1;rw[UO];left;omega
def dC (s:kR):List D:=(cells s).map kK
def kbo (s:kR):zy (dC s):=Jq s 0
def kex (s:kR):∀c∈dC s,c.nk=true:=λc hc=>by
 obtain⟨x,_,rfl⟩:=List.mem_map.mp hc;exact Xm x
def WJ {s:kR}{most:Int}(h:qy most s)(x:Cell):vY [kG s,kK x] = .ok (.bl (decide (x∈cells s))):=by
 obtain⟨C,c1,c5,rk⟩:=h.cols;have r1:=h.rows1;obtain⟨r0,t,rfl⟩:∃r0 t,s=r0::t:=List.exists_cons_of_ne_nil (by intro e;subst e;simp at r1)
 have l0:r0.length=C:=rk.len r0 zaj;unfold vY;refine xG ?_;unfold Qx
 have w1:=wm (.int x.1) 0 (((r0::t).length:Int) - 1);have w2:=wm (.int x.2) 0 ((r0.length:Int) - 1)
 by_cases a:0<=x.1/\x.1 < (r0::t).length
 ·by_cases b:0<=x.2/\x.2 < r0.length
  ·obtain⟨row,hrow⟩:∃row,(r0::t)[x.1.toNat]?=some row:=⟨_,zaq (by omega)⟩
   have lr:row.length=C:=rk.len row (List.mem_of_getElem? hrow);obtain⟨p,hp⟩:∃p,row[x.2.toNat]?=some p:=⟨_,zaq (by omega)⟩
   have e1:P.atI ((r0::t).map qC) x.1=some (qC row):=by rw[wG a.1 (by simpa using a.2),zar,hrow];rfl
   have e2:P.atI (row.map qJ) x.2=some (qJ p):=by rw[wG b.1 (by simp;omega),zar,hp];rfl
   have g:decide (x∈cells (r0::t))=!(qJ p).isN:=by
    cases p with
    |none=>
     refine decide_eq_false λq=>?_
     obtain⟨_,_,row',v,q1,q2⟩:=Qq.mp q;rw[hrow]at q1;cases q1;rw[hp]at q2;cases q2
    |some v=>exact decide_eq_true (Qq.mpr ⟨a.1,b.1,row,v,hrow,hp⟩)
   rw[g];have d1:qv (.int x.1) 0 (((r0::t).length:Int) - 1)=true:=by simp only[qv,Bool.and_eq_true,decide_eq_true_eq];omega
   have d2:qv (.int x.2) 0 ((r0.length:Int) - 1)=true:=by simp only[qv,Bool.and_eq_true,decide_eq_true_eq];omega
   rw[d1]at w1;rw[d2]at w2;simp only[zat,qC]at e1;rw[show (((r0::t).length:Nat):Int) - 1=(t.length:Int) by simp]at w1;simp[kG,kK,qC,w1,w2,e1,e2]
  ·have d1:qv (.int x.1) 0 (((r0::t).length:Int) - 1)=true:=by simp only[qv,Bool.and_eq_true,decide_eq_true_eq];omega
   have d2:qv (.int x.2) 0 ((r0.length:Int) - 1)=false:=by simp only[qv,Bool.and_eq_false_iff,decide_eq_false_iff_not];omega
   rw[d1]at w1;rw[d2]at w2;rw[show (((r0::t).length:Nat):Int) - 1=(t.length:Int) by simp]at w1
   have g:decide (x∈cells (r0::t))=false:=decide_eq_false λq=>by
    obtain⟨_,q0,row',v,q1,q2⟩:=Qq.mp q;have l1:=rk.len row' (List.mem_of_getElem? q1);have l2:=(List.getElem?_eq_some_iff.mp q2).1;omega
   rw[g];simp[kG,kK,qC,w1,w2]
 ·have d1:qv (.int x.1) 0 (((r0::t).length:Int) - 1)=false:=by simp only[qv,Bool.and_eq_false_iff,decide_eq_false_iff_not];omega
  rw[d1]at w1;rw[show (((r0::t).length:Nat):Int) - 1=(t.length:Int) by simp]at w1
  have g:decide (x∈cells (r0::t))=false:=decide_eq_false λq=>by
   obtain⟨q0,_,row',v,q1,q2⟩:=Qq.mp q;have l2:=(List.getElem?_eq_some_iff.mp q1).1;omega
  rw[g];simp[kG,kK,qC,w1]
def cellOf:D->Option Cell
 |.tup [.int a,.int b]=>some (a,b)
 |_=>none
def far (x y:Cell):Int:=(if x.1 - y.1 < 0 then -(x.1 - y.1) else x.1 - y.1)+(if x.2 - y.2 < 0 then -(x.2 - y.2) else x.2 - y.2)
def ke4 (x y:Cell):far x y=far y x:=by unfold far;split <;> split <;> split <;> split <;> omega
def KU (x y:D):Bool:=match cellOf x,cellOf y with
 |some a,some b=>decide (far a b=1)
 |_,_=>false
def kdz (x y:D):KU x y=KU y x:=by
 unfold KU
 cases cellOf x <;> cases cellOf y <;> simp[ke4]
def kbv (x y:Cell):KU (kK x) (kK y)=decide ((if x.1 - y.1 < 0 then -(x.1 - y.1) else x.1 - y.1)+(if x.2 - y.2 < 0 then -(x.2 - y.2) else x.2 - y.2)=1):=rfl
def around (x:Cell):List Cell:=[(x.1 - 1,x.2),(x.1,x.2 - 1),(x.1,x.2+1),(x.1+1,x.2)]
def Xp (s:kR)(x:Cell):List Cell:=(around x).filter λy=>decide (y∈cells s)
def Ua {s:kR}{x y:Cell}:y∈Xp s x↔y∈cells s/\KU (kK x) (kK y)=true:=by
 unfold Xp;rw[List.mem_filter,decide_eq_true_eq,kbv,decide_eq_true_eq];obtain⟨a,b⟩:=x;obtain⟨c,d⟩:=y;simp only[around,List.mem_cons,Prod.mk.injEq,List.not_mem_nil,or_false];constructor
 ·rintro⟨h,hc⟩;refine⟨hc,?_⟩
  split <;> split <;> omega
 ·rintro⟨hc,h⟩;refine⟨?_,hc⟩
  split at h <;> split at h <;> omega
def j7 {s:kR}{most:Int}(h:qy most s)(x:Cell):xh [kG s,kK x] = .ok (.lst ((Xp s x).map kK)):=by
 unfold xh;refine xG ?_;unfold KD
 have key:=P.Yq (g:=vA 0) (t:=vF (kF vY (kh (kj 1) (kh (kj 0) kD)))) (e:=kj 0) (env:=[none,some (kG s)]) kK (λy=>decide (y∈cells s)) kK (l:=around x)
  λy hy=>⟨[some (kK y),some (kG s)],rfl,by simp[WJ h],λ_=>rfl⟩
 have e:(around x).map kK=[.tup [.int (x.1 - 1),.int x.2],.tup [.int x.1,.int (x.2 - 1)],.tup [.int x.1,.int (x.2+1)],.tup [.int (x.1+1),.int x.2]]:=rfl
 have hl:((Xp s x).map kK).length<=kP:=by
  rw[zai];refine Nat.le_trans (List.length_filter_le _ _) (by simp[around,kP])
 rw[e]at key;unfold Xp at hl ⊢;simp[kK,show 2<=kP by decide,show 4<=kP by decide,qN];rw[key,P.u7,if_pos hl];rfl
def QK (r:Int)(p:Option Int):∀ (row:List (Option Int)) (c:Int),qk r c (row++[p])=qk r c row++(match p with | some _=>[(r,c+row.length)] | none=>[])
 | [],c=>by cases p <;> simp[qk]
 |none::t,c=>by
  rw[List.cons_append,qk,qk,QK r p t (c+1)]
  cases p <;> simp;omega
 |some v::t,c=>by
  rw[List.cons_append,qk,qk,QK r p t (c+1)]
  cases p <;> simp;omega
def VZ (row:List (Option Int)):∀ (s:kR) (r:Int),cellsFrom r (s++[row])=cellsFrom r s++qk (r+s.length) 0 row
 | [],r=>by simp[cellsFrom]
 |q::t,r=>by
  rw[List.cons_append,cellsFrom,cellsFrom,VZ row t (r+1),List.append_assoc,zam]
  congr 3
  push_cast
  omega
def take_snoc {α:Type}{l:List α}{i:Nat}{x:α}(h:l[i]?=some x):l.take (i+1)=l.take i++[x]:=by
 rw[List.take_add_one,h];rfl
def kfj {n:Nat}(h:n < 1000):P.rg1 (.ok (.int n)) = .ok (P.upTo 0 n):=by
 have a:(n:Int) < 1000:=by omega
 have b:(0:Int)<=n:=by omega
 generalize hk:(n:Int)=k at a b;rw[P.Ud,if_pos ⟨by omega,by omega⟩,<- hk,Int.toNat_natCast]
def small (s:kR)(r:Int):(cellsFrom r s).length<=(s.map List.length).sum:=by
 rw[zW];unfold total
 induction s with
 |nil=>simp
 |cons row t ih=>
  have:=um row;simp only[zat,List.sum_cons];omega
def yY {s:kR}{most:Int}(h:qy most s):VQ [kG s] = .ok (.lst (dC s)):=by
 obtain⟨C,c1,c5,rk⟩:=h.cols;have r1:=h.rows1;have r3:=h.rows5
 have inner:∀ (i:Nat) (row:List (Option Int)) (acc:List D) (z3:Option D),s[i]?=some row->acc.length<=100 →
  ∃z3',P.forL (vA 3) QN (P.upTo 0 row.length) [some (kG s),some (.lst acc),some (.int i),z3] = .ok (.next [some (kG s),some (.lst (acc++(qk i 0 row).map kK)),some (.int i),z3']):=by
  intro i row acc z3 hrow hacc;have lr:=rk.len row (List.mem_of_getElem? hrow)
  have e1:P.atI (s.map qC) i=some (qC row):=by
   have:=(List.getElem?_eq_some_iff.mp hrow).1;rw[wG (by omega) (by simpa using this),zar,Int.toNat_natCast,hrow];rfl
  obtain⟨env',e,z3',q⟩:=Wy (g:=vA 3) (b:=QN) (λn env=>∃z,env=[some (kG s),some (.lst (acc++(qk i 0 (row.take n)).map kK)),some (.int i),z]) (xs:=P.upTo 0 row.length) (n:=0)
   (env:=[some (kG s),some (.lst acc),some (.int i),z3]) ⟨z3,by simp[qk]⟩ λk x env hx ⟨z,hz⟩=>by
    obtain⟨hk,rfl⟩:=zU hx;subst hz;rw[Nat.zero_add,Int.zero_add] at *;obtain⟨p,hp⟩:∃p,row[k]?=some p:=⟨_,zaq hk⟩
    have e2:P.atI (row.map qJ) k=some (qJ p):=by rw[wG (by omega) (by simpa using hk),zar,Int.toNat_natCast,hp];rfl
    have lk:((row.take k).length:Int)=k:=by rw[List.length_take];omega
    have hl:(acc++(qk i 0 (row.take k)).map kK).length < kP:=by
     rw[zap,zai,xT];have:=um (row.take k);have:(row.take k).length<=5:=by rw[List.length_take];omega
     simp[kP];omega
    refine⟨_,_,rfl,.inl ?_,some (.int k),rfl⟩;rw[take_snoc hp,QK,lk,Int.zero_add];unfold QN;rw[zap,zai]at hl;simp only[kG] at *
    cases p with
    |none=>simp[e1,qC,e2,qJ]
    |some v=>simp[e1,qC,e2,qJ,kK,hl,show 2<=kP by decide]
  rw[Nat.zero_add,wo,List.take_length]at q;exact⟨z3',by rw[e,q]⟩
 obtain⟨env',e,z2,z3,q⟩:=Wy (g:=vA 2) (b:=Wl) (λn env=>∃z2 z3,env=[some (kG s),some (.lst ((cellsFrom 0 (s.take n)).map kK)),z2,z3]) (xs:=P.upTo 0 s.length) (n:=0)
  (env:=[some (kG s),some (.lst []),none,none]) ⟨none,none,by simp[cellsFrom]⟩ λk x env hx ⟨z2,z3,hz⟩=>by
   obtain⟨hk,rfl⟩:=zU hx;subst hz;rw[Nat.zero_add,Int.zero_add] at *;obtain⟨row,hrow⟩:∃row,s[k]?=some row:=⟨_,zaq hk⟩
   have lr:=rk.len row (List.mem_of_getElem? hrow);have e1:P.atI (s.map qC) k=some (qC row):=by rw[wG (by omega) (by simpa using hk),zar,Int.toNat_natCast,hrow];rfl
   have lk:((s.take k).length:Int)=k:=by rw[List.length_take];omega
   obtain⟨z3',e⟩:=inner k row ((cellsFrom 0 (s.take k)).map kK) z3 hrow (by
    rw[zai]
    exact Nat.le_trans (small (s.take k) 0) (by
     have:(s.take k).length<=5:=by rw[List.length_take];omega
     have:=uV (s.take k) 5 λr hr=>by have:=rk.len r (List.mem_of_mem_take hr);omega
     omega))
   refine⟨_,_,rfl,.inl ?_,some (.int k),z3',rfl⟩;rw[take_snoc hrow,VZ,lk,Int.zero_add,List.map_append];unfold Wl;have hr:row.length < 1000:=by omega
   simp only[kG] at *;simp[e1,qC,kfj hr,-P.Ud];exact e
 rw[Nat.zero_add,wo,List.take_length]at q;rw[q]at e;exact KY (vJ (wY rfl) (vJ (Y0 (P.kgG (vH rfl (P.keB _)) (by rw[zai];omega)) (by rw[zai];exact e)) (xF rfl)))
def yU {α:Type}:∀ {l m:List α},l.Nodup->(∀x∈l,x∈m)->l.length<=m.length
 | [],m,_,_=>Nat.zero_le _
 |x::l,m,hn,h=>by
  rw[List.nodup_cons]at hn;obtain⟨a,b,rfl⟩:=List.append_of_mem (h x zaj)
  have:=yU (l:=l) (m:=a++b) hn.2 λy hy=>by
   rcases List.mem_append.mp (h y (zah _ hy)) with q | q
   ·exact List.mem_append_left _ q
   ·rcases List.mem_cons.mp q with q | q
    ·subst q;exact absurd hy hn.1
    ·exact List.mem_append_right _ q
  simp only[zap,zam]at this ⊢;omega
def Cs (S:List D):Prop:=∀x∈S,∃c:Cell,x=kK c
def WT {S:List D}(hS:Cs S){x:D}(hx:∃c:Cell,x=kK c):D.mem x S=true↔x∈S:=by
 induction S with
 |nil=>simp[D.mem]
 |cons y S ih=>
  have h2:=ih λz hz=>hS z (zah _ hz)
  obtain⟨c,rfl⟩:=hS y zaj;obtain⟨d,rfl⟩:=hx;rw[D.mem,Bool.or_eq_true,h2,P.eq_iff (Xm c) (Xm d),List.mem_cons];constructor
  ·rintro (q | q)
   ·exact .inl q.symm
   ·exact .inr q
  ·rintro (q | q)
   ·exact .inl q.symm
   ·exact .inr q
def kf0 (c:Cell):D.pl 40 (kK c)=true:=rfl
def jH {S:List D}(hS:Cs S):D.pls 40 S=true:=by
 rw[zj,List.all_eq_true];intro x hx;obtain⟨c,rfl⟩:=hS x hx;rfl
def kel {S R:List D}(g:KH KU R)(sub:∀y∈R,y∈S)(hn:S.Nodup)(done:∀c∈R,∀o∈S,KU c o=true->o∈R):decide ((R.length:Int)=S.length)=true↔P.JQ KU S:=by
 rw[decide_eq_true_eq];have len:=yU g.nodup sub;constructor
 ·intro q;refine⟨R,(List.perm_ext_iff_of_nodup g.nodup hn).mpr λy=>⟨sub y,λhy=>Classical.byContradiction λhc=>?_⟩,g⟩
  have:=yU (l:=y::R) (m:=S) (List.nodup_cons.mpr ⟨hc,g.nodup⟩) λz hz=>by
   rcases List.mem_cons.mp hz with r | r
   ·rw[r];exact hy
   ·exact sub z r
  rw[zam]at this;omega
 ·rintro⟨l,p,k⟩;obtain⟨y,r,q⟩:=List.exists_cons_of_ne_nil g.ne;have m:y∈R:=by rw[q];exact zaj
  have all:=k.all kdz (λc=>c∈R) (λc hc hm o ho ha=>done c hm o (p.mem_iff.mp ho) ha) ⟨y,p.mem_iff.mpr (sub y m),m⟩;have:=yU hn λy hy=>all y (p.mem_iff.mpr hy)
  omega
def zR (s:kR)(d:D):Bool:=match cellOf d with
 |some x=>decide (x∈cells s)
 |none=>false
def UA {d:D}{x:Cell}(h:cellOf d=some x):d=kK x:=by
 unfold cellOf at h;split at h
 ·cases h;rfl
 ·cases h
def jG {d:D}{lo hi:Int}(h:qv d lo hi=true):∃i,d = .int i:=by
 unfold qv at h;split at h
 ·exact⟨_,rfl⟩
 ·cases h
def XX {s:kR}{most:Int}(h:qy most s)(d:D):vY [kG s,d] = .ok (.bl (zR s d)):=by
 cases hc:cellOf d with
 |some x=>
  rw[UA hc,WJ h x];rfl
 |none=>
  have hb:zR s d=false:=by unfold zR;rw[hc]
  rw[hb];have v0:kj 0 [some (kG s),some d] = .ok (kG s):=rfl;have v1:kj 1 [some (kG s),some d] = .ok d:=rfl;unfold vY;refine xG ?_;unfold Qx
  rw[P.Zi];show P.fo (kM _ _ [some (kG s),some d])=_
  by_cases ht:∃a b,d = .tup [a,b]
  ·obtain⟨a,b,rfl⟩:=ht
   have r1:=h.rows1;obtain⟨r0,t,rfl⟩:∃r0 t,s=r0::t:=List.exists_cons_of_ne_nil (by intro e;subst e;simp at r1)
   have w1:=wm a 0 ((t.length+1:Nat) - 1);have w2:=wm b 0 ((r0.length:Int) - 1);have t0:zA (qQ (vF (P.cUn (P.bIs P.isTup) (kj 1)))) (qD (kJ P.oNe (kF vD (kh (kj 1) kD)) (P.cC (.int 2)))) [some (kG (r0::t)),some (.tup [a,b])] = .ok false:=rfl
   have t1:qQ (vF (kF qH (kh (kJ P.oIx (kj 1) (P.cC (.int 0))) (kh (P.cC (.int 0)) (kh (kJ zT (kF vD (kh (kj 0) kD)) (P.cC (.int 1))) kD))))) [some (kG (r0::t)),some (.tup [a,b])] = .ok (!qv a 0 ((t.length+1:Nat) - 1)):=by
    have e:kF qH (kh (kJ P.oIx (kj 1) (P.cC (.int 0))) (kh (P.cC (.int 0)) (kh (kJ zT (kF vD (kh (kj 0) kD)) (P.cC (.int 1))) kD))) [some (kG (r0::t)),some (.tup [a,b])]=qH [a,.int 0,.int (((t.map qC).length+1:Nat) - 1)]:=rfl;rw[P.Q9,P.XA,e,zai,w1];rfl
   have t2:qQ (vF (kF qH (kh (kJ P.oIx (kj 1) (P.cC (.int 1))) (kh (P.cC (.int 0)) (kh (kJ zT (kF vD (kh (kJ P.oIx (kj 0) (P.cC (.int 0))) kD)) (P.cC (.int 1))) kD))))) [some (kG (r0::t)),some (.tup [a,b])] = .ok (!qv b 0 ((r0.length:Int) - 1)):=by
    simp[kG,qC,w2]
   rw[Qp,KA,t0,P.kd2,P.kb5,P.kbf,Qp,KA,t1]
   cases q1:qv a 0 ((t.length+1:Nat) - 1) with
   |false=>rfl
   |true=>
    rw[Bool.not_true,P.kd2,P.kb5,P.kbf,Qp,KA,t2]
    cases q2:qv b 0 ((r0.length:Int) - 1) with
    |false=>rfl
    |true=>
     obtain⟨i,rfl⟩:=jG q1;obtain⟨j,rfl⟩:=jG q2;cases hc
  · have t0:zA (qQ (vF (P.cUn (P.bIs P.isTup) (kj 1)))) (qD (kJ P.oNe (kF vD (kh (kj 1) kD)) (P.cC (.int 2)))) [some (kG s),some d] = .ok true:=by
      cases d with
      |tup xs=>
       match xs,ht with
       | [],_=>rfl
       | [a],_=>rfl
       | [a,b],ht=>exact absurd ⟨a,b,rfl⟩ ht
       |a::b::c::r,_=>
        rw[P.Jk,P.Q9,P.XA,P.keP,v1,P.keN,P.kjV,P.UR,P.YS,P.yd,P.qa,v1,P.Kl,P.yH,P.VP,P.keB,P.kjc,P.kax]
        have e:P.oNe (.int ((a::b::c::r).length:Nat)) (.int 2) = .ok (.bl true):=by
         have:D.eq (.int ((a::b::c::r).length:Nat)) (.int 2)=false:=by
          rw[P.kaz];exact decide_eq_false (by simp;omega)
         unfold P.oNe;rw[this];rfl
        rw[e];rfl
      |_=>rfl
    rw[Qp,KA,t0];rfl
def ZV:List D->Bool
 |a::b::t=>D.kl a b&&ZV (b::t)
 |_=>true
def Vh:List D->List D
 |a::b::t=>.bl (D.kl a b)::Vh (b::t)
 |_=>[]
def JU:∀l:List D,(Vh l).all P.isBool=true/\(Vh l).all D.tru=ZV l
 | []=>⟨rfl,rfl⟩
 | [_]=>⟨rfl,rfl⟩
 |a::b::t=>by
  obtain⟨h1,h2⟩:=JU (b::t);rw[Vh,ZV,List.all_cons,List.all_cons,h1,h2];exact⟨rfl,rfl⟩
def pairs_len:∀l:List D,(Vh l).length<=l.length
 | []=>zak _
 | [_]=>Nat.zero_le _
 |a::b::t=>by
  have:=pairs_len (b::t);rw[Vh];simp only[zam]at this ⊢;omega
def kfE (a b:Cell):P.oLt (kK a) (kK b) = .ok (.bl (D.kl (kK a) (kK b))):=by
 have hc:D.QM [.int a.1,.int a.2] [.int b.1,.int b.2]=true:=by simp[D.QM,D.cmp]
 show (if D.nks [.int a.1,.int a.2]&&D.nks [.int b.1,.int b.2]&&(D.pls 40 [.int a.1,.int a.2]&&D.pls 40 [.int b.1,.int b.2])&&D.QM [.int a.1,.int a.2] [.int b.1,.int b.2] then Rs.ok (D.bl (D.kls [.int a.1,.int a.2] [.int b.1,.int b.2])) else .stuck)=_;rw[hc];rfl
def kaD {g:P.FG}{e:P.FE}{env env':P.Env}{x:D}{xs:List D}{v:D}{vs:List D}(h1:g x env = .ok env')(h3:e env' = .ok v)(ih:qT g wu e env xs = .ok vs):qT g wu e env (x::xs) = .ok (v::vs):=by
 show ((g x env).nx>>=λenv'=>(wu env').nx>>=λc=>if c=true then (e env').nx>>=λw=>qT g wu e env xs>>=λvs=>.ok (w::vs) else qT g wu e env xs)=_;rw[h1,ih];show ((e env').nx>>=_)=_;rw[h3];rfl
def kb7:∀ {l:List D},Cs l->qT (QO [0,1]) wu (kJ P.oLt (kj 0) (kj 1)) [none,none] (QJ l (l.drop 1)) = .ok (Vh l)
 | [],_=>rfl
 | [_],_=>rfl
 |a::b::t,h=>by
  have ih:=kb7 (l:=b::t) λx hx=>h x (zah _ hx)
  obtain⟨ca,rfl⟩:=h a zaj;obtain⟨cb,rfl⟩:=h b (zah _ zaj);have e:kJ P.oLt (kj 0) (kj 1) [some (kK ca),some (kK cb)] = .ok (.bl (D.kl (kK ca) (kK cb))):=kfE ca cb;show qT _ _ _ _ (.tup [kK ca,kK cb]::QJ (kK cb::t) ((kK cb::t).drop 1))=_;exact kaD (g:=QO [0,1]) (env:=[none,none]) rfl e ih
def uL {l:List D}(h:Cs l)(hl:l.length<=1000):zG [.tup l] = .ok (.bl (ZV l)):=by
 have v:kj 0 [some (D.tup l)] = .ok (.tup l):=rfl
 have c:Wt (kj 0) (VI (P.cC (.int 1))) Wg [some (D.tup l)] = .ok (.tup (l.drop 1)):=by
  show Rs.ok (D.tup (P.cut l (some 1) none))=_
  congr 2
  show (l.drop (min 1 l.length)).take (l.length - min 1 l.length)=_
  cases l with
  |nil=>rfl
  |cons x xs=>simp
 unfold zG;refine xG ?_;unfold Qm
 rw[P.Zi];show P.fo (kZ _ [some (.tup l)])=_;have i1:qN 2 [] [some (D.tup l)]=[none,none]:=rfl;obtain⟨h1,h2⟩:=JU l;have hp:=pairs_len l;rw[P.JF,P.yd,P.qa,P.U8,P.kh0,v,c,P.kjN,i1,P.keD,kb7 h,P.u7,if_pos (P.szm (by omega)),P.Kl,P.yH,P.VP,P.Jc,h1,if_pos rfl,h2];rfl
def kfz {l:List D}(h:zy l):ZV l=true:=by
 induction l with
 |nil=>rfl
 |cons a t ih=>
  cases t with
  |nil=>rfl
  |cons b t=>
   have h':=List.pairwise_cons.mp h;rw[ZV,h'.1 b zaj,ih h'.2];rfl
def kiF (sh c4:Option D){S R vs W:List D}(hS:Cs S)(hR:Cs R)(c:Cell)(lR:R.length<=1000)(lW:W.length<=1000) :
 (kK c∈S/\kK c∉R->∃vs',xY [sh,some (.tup S),some (.dic R vs),some (.lst W),c4,some (kK c)] = .ok (.next [sh,some (.tup S),some (.dic (R++[kK c]) vs'),some (.lst (W++[kK c])),c4,some (kK c)])) ∧
 (¬ (kK c∈S/\kK c∉R)->xY [sh,some (.tup S),some (.dic R vs),some (.lst W),c4,some (kK c)] = .ok (.next [sh,some (.tup S),some (.dic R vs),some (.lst W),c4,some (kK c)])):=by
 have i1:P.oIn (kK c) (.tup S) = .ok (.bl (D.mem (kK c) S)):=by
  rw[P.kjR,P.Z5,P.kdw,kf0,jH hS];rfl
 have m1:=WT hS ⟨c,rfl⟩;have m2:=WT hR ⟨c,rfl⟩;have m3:D.mem (kK c) R=false↔kK c∉R:=by rw[Bool.eq_false_iff,ne_eq,m2]
 refine⟨λ⟨h1,h2⟩=>⟨xu R vs (kK c) (.bl true),?_⟩,λh=>vh (Eq.trans (P.w_and (KZ (P.w_b rfl rfl i1)) (KZ rfl)) ?_)⟩
 ·have e2:=m3.mpr h2;rw[m1.mpr h1]at i1;refine P.w_t (P.ki8 (KZ (P.w_b rfl rfl i1)) (congrArg (λz=>Rs.ok (!z)) e2)) (vJ (P.khZ rfl rfl rfl rfl (by omega)) ((P.kaS rfl rfl (by omega)).trans ?_));rw[xy,e2];rfl
 ·show Rs.ok (_&&!D.mem (kK c) R)=_
  cases q:D.mem (kK c) S with
  |false=>rfl
  |true=>rw[Classical.byContradiction λz=>h ⟨m1.mp q,m3.mp (Bool.not_eq_true _ ▸ z)⟩];rfl
structure Dfs (S R W:List D):Prop where
 grow:KH KU R
 sub:∀y∈R,y∈S
 wsub:∀y∈W,y∈R
 done:∀x∈R,x∉W->∀y∈S,KU x y=true->y∈R
def ZW (sh:Option D) {S:List D} (hS:Cs S) (hs:S.length <= 100) (c:Cell):∀ (N:List Cell) (R vs W:List D) (z:Option D),(∀ o ∈ N,KU (kK c) (kK o) = true) -> kK c ∈ R -> KH KU R -> (∀ y ∈ R,y ∈ S) -> (∀ y ∈ W,y ∈ R) -> W.length + S.length <= 900 + R.length →
 ∃R' vs' W' z',P.forL (vA 5) xY (N.map kK) [sh,some (.tup S),some (.dic R vs),some (.lst W),some (kK c),z] = .ok (.next [sh,some (.tup S),some (.dic R' vs'),some (.lst W'),some (kK c),z']) ∧
  KH KU R'/\(∀y∈R',y∈S)/\(∀y∈W',y∈R')/\(∀y∈R,y∈R')/\(∀x∈R',x∉W'->x∈R/\x∉W)/\(∀o∈N,kK o∈S->kK o∈R')/\W'.length+R.length=W.length+R'.length
 | [],R,vs,W,z,_,_,g,s,w,_=>⟨R,vs,W,z,rfl,g,s,w,λ_ h=>h,λx h1 h2=>⟨h1,h2⟩,λo ho=>(by cases ho),rfl⟩
 |o::N,R,vs,W,z,ha,hc,g,s,w,hl=>by
  have hR:Cs R:=λx hx=>hS x (s x hx)
  have lR:R.length<=S.length:=yU g.nodup s;obtain⟨k1,k2⟩:=kiF sh (some (kK c)) hS hR o (W:=W) (vs:=vs) (by omega) (by omega);have st:vA 5 (kK o) [sh,some (.tup S),some (.dic R vs),some (.lst W),some (kK c),z] = .ok [sh,some (.tup S),some (.dic R vs),some (.lst W),some (kK c),some (kK o)]:=rfl
  by_cases q:kK o∈S/\kK o∉R
  ·obtain⟨vs1,e1⟩:=k1 q
   obtain⟨R',vs',W',z',e,a1,a2,a3,a4,a5,a6,a7⟩:=ZW sh hS hs c N (R++[kK o]) vs1 (W++[kK o]) (some (kK o)) (λx hx=>ha x (zah _ hx)) (List.mem_append_left _ hc)
    (.add g hc (ha o zaj) q.2) (λy hy=>by
     rcases List.mem_append.mp hy with r | r
     ·exact s y r
     ·rw[List.mem_singleton.mp r];exact q.1) (λy hy=>by
     rcases List.mem_append.mp hy with r | r
     ·exact List.mem_append_left _ (w y r)
     ·exact List.mem_append_right _ r) (by simp only[zap,List.length_singleton];omega)
   refine⟨R',vs',W',z',?_,a1,a2,a3,λy hy=>a4 y (List.mem_append_left _ hy),λx h1 h2=>?_,λx hx hS'=>?_,?_⟩
   ·rw[zat,zb st e1]
    exact e
   ·obtain⟨b1,b2⟩:=a5 x h1 h2
    have nw:x∉W/\x∉[kK o]:=⟨λz=>b2 (List.mem_append_left _ z),λz=>b2 (List.mem_append_right _ z)⟩
    rcases List.mem_append.mp b1 with r | r
    ·exact⟨r,nw.1⟩
    ·exact absurd r nw.2
   ·rcases List.mem_cons.mp hx with r | r
    ·rw[r];exact a4 _ (List.mem_append_right _ zaj)
    ·exact a6 x r hS'
   ·simp only[zap,List.length_singleton]at a7
    omega
  ·have e1:=k2 q
   obtain⟨R',vs',W',z',e,a1,a2,a3,a4,a5,a6,a7⟩:=ZW sh hS hs c N R vs W (some (kK o)) (λx hx=>ha x (zah _ hx)) hc g s w hl;refine⟨R',vs',W',z',?_,a1,a2,a3,a4,a5,λx hx hS'=>?_,a7⟩
   ·rw[zat,zb st e1]
    exact e
   ·rcases List.mem_cons.mp hx with r | r
    ·rw[r]at hS' ⊢
     exact a4 _ (Classical.byContradiction λz=>q ⟨hS',z⟩)
    ·exact a6 x r hS'
def kbT {s:kR}{most:Int}(hs:qy most s){S:List D}(hS:∀x∈S,∃c:Cell,x=kK c/\c∈cells s)(ls:S.length<=100){R vs W:List D}{x:D}(z4 z5:Option D)(h:Dfs S R (W++[x]))(hl:W.length+S.length<=900+R.length) :
 ∃R' vs' W' z4' z5',zz [some (kG s),some (.tup S),some (.dic R vs),some (.lst (W++[x])),z4,z5] = .ok (.next [some (kG s),some (.tup S),some (.dic R' vs'),some (.lst W'),z4',z5'])/\Dfs S R' W'/\W'.length+R.length=W.length+R'.length/\R.length<=R'.length:=by
 have cS:Cs S:=λy hy=>by obtain⟨c,e,_⟩:=hS y hy;exact⟨c,e⟩
 have xR:x∈R:=h.wsub x (List.mem_append_right _ zaj);obtain⟨c,rfl⟩:=cS x (h.sub x xR);obtain⟨R',vs',W',z',e,a1,a2,a3,a4,a5,a6,a7⟩:=ZW (some (kG s)) cS ls c (Xp s c) R vs W z5 (λo ho=>(Ua.mp ho).2) xR h.grow h.sub (λy hy=>h.wsub y (List.mem_append_left _ hy)) hl;refine⟨R',vs',W',some (kK c),z',?_,⟨a1,a2,a3,λy hy hw o ho ha=>?_⟩,a7,yU h.grow.nodup a4⟩
 ·refine vJ (env':=[some (kG s),some (.tup S),some (.dic R vs),some (.lst W),some (kK c),z5]) ?_ (Y0 (P.kea (P.QL rfl rfl (j7 hs c))) e)
  show (match (W++[kK c]).getLast? with
   |some d=>Rs.ok (Out.next _)
   |none=>.stuck)=_
  rw[List.getLast?_append];show Rs.ok (Out.next [_,_,_,some (.lst (W++[kK c]).dropLast),_,_])=_;rw[List.dropLast_concat];rfl
 ·obtain⟨b1,b2⟩:=a5 y hy hw
  by_cases q:y=kK c
  ·subst q;obtain⟨oc,rfl,oin⟩:=hS o ho;exact a6 oc (Ua.mpr ⟨oin,ha⟩) ho
  ·exact a4 _ (h.done y b1 (λz=>by
    rcases List.mem_append.mp z with r | r
    ·exact b2 r
    ·exact q (List.mem_singleton.mp r)) o ho ha)
def keQ:P.FT:=qD (kJ P.oGt (kF vD (kh (kj 3) kD)) (P.cC (.int 0)))
def JE (a b c d e:Option D)(W:List D):keQ [a,b,c,some (.lst W),d,e] = .ok (decide (0 < W.length)):=by
 refine KZ (P.w_b rfl rfl ?_);rw[P.kiW]
 congr 2
 exact decide_eq_decide.mpr (by omega)
def YN {s:kR} {most:Int} (hs:qy most s) {S:List D} (hS:∀ x ∈ S,∃ c:Cell,x = kK c /\ c ∈ cells s) (ls:S.length <= 100):∀ (f:Nat) (R vs W:List D) (z4 z5:Option D),Dfs S R W -> W.length + 2 * S.length < f + 2 * R.length -> W.length + S.length <= 900 + R.length →
 ∃R' vs' z4' z5',xM keQ zz f [some (kG s),some (.tup S),some (.dic R vs),some (.lst W),z4,z5] = .ok (.next [some (kG s),some (.tup S),some (.dic R' vs'),some (.lst []),z4',z5'])/\Dfs S R' []
 |0,R,vs,W,z4,z5,h,hf,_=>by
  have:=yU h.grow.nodup h.sub;omega
 |f+1,R,vs,W,z4,z5,h,hf,hl=>by
  by_cases hw:W=[]
  ·subst hw
   exact⟨R,vs,z4,z5,by rw[P.kbA (by rw[JE];rfl)],h⟩
  ·obtain⟨W0,x,rfl⟩:∃W0 x,W=W0++[x]:=⟨_,_,(List.dropLast_concat_getLast hw).symm⟩
   rw[zap,List.length_singleton]at hf hl;obtain⟨R1,vs1,W1,a,b,e1,h1,l1,l2⟩:=kbT hs hS ls (vs:=vs) z4 z5 h (by omega);obtain⟨R',vs',z4',z5',e,h'⟩:=YN hs hS ls f R1 vs1 W1 a b h1 (by omega) (by omega);refine⟨R',vs',z4',z5',?_,h'⟩;rw[P.kbi (by rw[JE,zap,List.length_singleton,decide_eq_true (by omega)]) e1];exact e
def kdS {s:kR}{most:Int}(hs:qy most s){S:List D}(hS:∀x∈S,∃c:Cell,x=kK c/\c∈cells s)(hn:S.Nodup)(ls:S.length<=100)(h0:S≠[]):∃b,yq [kG s,.tup S] = .ok (.bl b)/\(b=true↔P.JQ KU S):=by
 have cS:Cs S:=λy hy=>by obtain⟨c,e,_⟩:=hS y hy;exact⟨c,e⟩
 obtain⟨x,t,rfl⟩:=List.exists_cons_of_ne_nil h0;have b0:Dfs (x::t) [x] [x]:=⟨.one x,λy hy=>by rw[List.mem_singleton.mp hy];exact zaj,λy hy=>hy,λy hy hw=>absurd hy hw⟩;obtain⟨R,vs,z4,z5,e,b⟩:=YN hs hS ls 100000 [x] [.bl true] [x] none none b0 (by simp only[List.length_singleton];omega) (by simp only[List.length_singleton];omega);refine⟨decide ((R.length:Int)=(x::t).length),?_,?_⟩
 ·obtain⟨c,rfl⟩:=cS x zaj;refine KY (vJ (wY (x:=.dic [kK c] [.bl true]) ?_) (vJ (wY (P.kdv (P.kd0 rfl))) (vJ e (xF (P.w_b rfl rfl (by rw[P.kdr,P.kaz];rfl))))));unfold kaq;rw[P.kd0 rfl];rfl
 ·exact kel b.grow b.sub hn λc hm=>b.done c hm (by simp)
end G
namespace P
section
variable {m:Fn}{a b c:FE}{env env':Env}{x y z:D}{i n k:Nat}{t:FT}{f g:FS}{l:List D}{o:O2}{r:FA}
def qp (h:f (l.map some++List.replicate (n - l.length) none) = .exc k):fnOf n f l = .exc k:=by rw[Zi,h,kjD]
def kaW (h:f (l.map some++List.replicate (n - l.length) none) = .ok (.ret x)):fnOf n f l = .ok x:=by rw[Zi,h,kgz]
def qq (h:f env = .exc k):kM f g env = .exc k:=by rw[Qp,h,kjt]
def qz (h:f env = .ok (.next env'))(q:g env' = .exc k):kM f g env = .exc k:=by rw[Qp,h,kbf,q]
def yE (h:a env = .exc k):vR a env = .exc k:=by rw[kae,h,kjT]
def Uc (h:a env = .exc k):qR i a env = .exc k:=by rw[kcd,h];rfl
def vI (h:a env = .exc k):kZ a env = .exc k:=by rw[JF,h,kjm]
def kaM (ha:a env = .exc k):kF m (kh a r) env = .exc k:=by rw[yd,qa,ha];rfl
def kcQ (ha:a env = .ok x)(hb:b env = .exc k):kF m (kh a (kh b r)) env = .exc k:=by rw[yd,qa,qa,ha,hb];rfl
def WM (ha:a env = .ok x)(h:m [x] = .exc k):kF m (kh a kD) env = .exc k:=by rw[yd,qa,ha,Kl,yH,VP,h]
def zY (ha:a env = .ok x)(hb:b env = .ok y)(h:m [x,y] = .exc k):kF m (kh a (kh b kD)) env = .exc k:=by rw[yd,qa,qa,ha,hb,Kl,yH,yH,VP,h]
def uO (ha:a env = .ok x)(hb:b env = .ok y)(hc:c env = .ok z)(h:m [x,y,z] = .exc k):kF m (kh a (kh b (kh c kD))) env = .exc k:=by rw[yd,qa,qa,qa,ha,hb,hc,Kl,yH,yH,yH,VP,h]
def QG {d:FE}{v:D}(ha:a env = .ok x)(hb:b env = .ok y)(hc:c env = .ok z)(hd:d env = .ok v)(h:m [x,y,z,v] = .exc k):kF m (kh a (kh b (kh c (kh d kD)))) env = .exc k:=by rw[yd,qa,qa,qa,qa,ha,hb,hc,hd];exact h
def kiO (ha:a env = .exc k):kJ o a b env = .exc k:=by rw[YS,ha];rfl
def kju (ha:a env = .ok x)(hb:b env = .exc k):kJ o a b env = .exc k:=by rw[YS,ha,hb];rfl
def QB (h:t env = .ok true):sIf t (ya k) g env = .exc k:=by rw[KA,h,kcZ,ked]
def x_t (h:t env = .ok true)(q:f env = .exc k):sIf t f g env = .exc k:=by rw[KA,h,kcZ,q]
def kiN (h:a env = .exc k):qQ (vF a) env = .exc k:=by rw[Q9,XA,h];rfl
def x_i (h:t env = .exc k):sIf t f g env = .exc k:=by rw[KA,h,ki1]
def Vp (h:t env = .ok false):qQ t env = .ok true:=by rw[Q9,h];rfl
def wO {ms:List Fn}{j:Nat}(ha:a env = .ok (.int j))(hm:ms[j]?=some m)(hr:r env = .ok l)(h:m l = .exc k):L3.VM ms a r env = .exc k:=by
 unfold L3.VM;rw[ha,V4]
 show (match (if 0<=(j:Int) then ms[(j:Int).toNat]? else none) with
  |some m=>r env>>=m
  |none=>.stuck)=_
 rw[if_pos (by omega),Int.toNat_natCast,hm];show r env>>=m=_;rw[hr,V4,h]
def Vu {xs:List D}{i:Int}(h0:0<=i)(h1:i < xs.length):∃d∈xs,oIx (.lst xs) (.int i) = .ok d:=by
 have lt:i.toNat < xs.length:=by omega
 refine⟨xs[i.toNat],List.getElem_mem lt,?_⟩;rw[kjL,wG h0 h1,zaq lt];rfl
end
end P
namespace G
open P
def Bad (d:D):Prop:=kW [d] = .exc 1
def kgF {d:D}(h:xP [d] = .ok (.bl false)):Bad d:=qp (qq (QB (Vp (zv (vH rfl h)))))
def UU {d:D}(h:xP [d] = .ok (.bl true)):kW [d] = .ok d:=kaW (vJ (vh (Z8 (zv (vH rfl h)))) (xF rfl))
section
variable {d:D}(h:Bad d)(e g g2:D)
include h
def bd:kF kW (kh (kj 0) kD) (some d::env) = .exc 1:=WM rfl h
def Xi:za [d] = .exc 1:=qp (vI (kaM (bd h)))
def kcJ:VJ [d] = .exc 1:=qp (qq (Uc (kaM (WM rfl (Xi h)))))
def Xd:wF [d,e] = .exc 1:=qp (qq (yE (bd h)))
def UE:Qk [d] = .exc 1:=qp (qq (Uc (zY rfl rfl (Xd h _))))
def kcu:VG [d] = .exc 1:=qp (qq (yE (bd h)))
def Ux:Qn [d] = .exc 1:=qp (qq (yE (bd h)))
def Yv:xV [d] = .exc 1:=qp (qq (yE (bd h)))
def kdG:Wj [d] = .exc 1:=qp (qq (yE (bd h)))
def kfy:Qa [d,e] = .exc 1:=qp (qq (yE (bd h)))
def XZ:yy [d,e] = .exc 1:=qp (qq (yE (bd h)))
def kdP:WN [d,e] = .exc 1:=qp (qq (x_i (kiN (zY rfl rfl (XZ h _)))))
def jv:xH [d,e] = .exc 1:=qp (vI (kcQ rfl (zY rfl rfl (Xd h _))))
def kc4:vM [d,e] = .exc 1:=qp (vI (kaM (zY rfl rfl (jv h _))))
def kgv:xj [d,e] = .exc 1:=qp (qq (yE (bd h)))
def kaf:ze [d,e] = .exc 1:=qp (qq (yE (bd h)))
def kg8:vW [d,e] = .exc 1:=qp (qq (Uc (zY rfl rfl (kaf h _))))
def kc3:yX [d,e] = .exc 1:=qp (qq (yE (bd h)))
def kfN:K5 [d,e] = .exc 1:=qp (qq (yE (bd h)))
def kdb:Vy [d,e] = .exc 1:=qp (vI (kiO (WM rfl (Yv h))))
def kbD {y:D}(he:xV [e] = .ok y):Vy [e,d] = .exc 1:=qp (vI (kju (vH rfl he) (WM rfl (Yv h))))
def kaK:vE [d,e,g] = .exc 1:=qp (qq (yE (bd h)))
def kfC:qw [d,e,g,g2] = .exc 1:=qp (qq (yE (bd h)))
def kbg {y:D}(he:xV [e] = .ok y){w:Int}(w0:0<=w)(w1:w < 23):xO [.int w,d,e] = .exc 1:=by
 obtain⟨n,rfl⟩:=Int.eq_ofNat_of_zero_le w0;have hn:n < 23:=by omega
 refine qp ?_
 by_cases h8:n < 8
 ·refine qq (x_t (KZ (w_b rfl rfl (by rw[Jt,decide_eq_true (by omega)]))) (vI ?_));have:n=0∨n=1∨n=2∨n=3∨n=4∨n=5∨n=6∨n=7:=by omega
  rcases this with rfl | rfl | rfl | rfl | rfl | rfl | rfl | rfl
  ·exact wO rfl rfl rfl (Xi h)
  ·exact wO rfl rfl rfl (kcJ h)
  ·exact wO rfl rfl rfl (UE h)
  ·exact wO rfl rfl rfl (kcu h)
  ·exact wO rfl rfl rfl (Ux h)
  ·exact wO rfl rfl rfl (Yv h)
  ·exact wO rfl rfl rfl (kdG h)
  ·exact wO rfl rfl rfl (Xi h)
 refine qz (vh (KZ (w_b rfl rfl (ka1 (by omega))))) ?_
 by_cases h16:n < 16
 ·refine qq (x_t (KZ (w_b rfl rfl (by rw[Jt,decide_eq_true (by omega)]))) (vI ?_));have:n=8∨n=9∨n=10∨n=11∨n=12∨n=13∨n=14∨n=15:=by omega
  rcases this with rfl | rfl | rfl | rfl | rfl | rfl | rfl | rfl
  ·exact wO (j:=0) rfl rfl rfl (kfy h _)
  ·exact wO (j:=1) rfl rfl rfl (XZ h _)
  ·exact wO (j:=2) rfl rfl rfl (Xd h _)
  ·exact wO (j:=3) rfl rfl rfl (kdP h _)
  ·exact wO (j:=4) rfl rfl rfl (jv h _)
  ·exact wO (j:=5) rfl rfl rfl (kc4 h _)
  ·exact wO (j:=6) rfl rfl rfl (kgv h _)
  ·exact wO (j:=7) rfl rfl rfl (kaf h _)
 refine qz (vh (KZ (w_b rfl rfl (ka1 (by omega))))) ?_
 by_cases h19:n < 19
 ·refine qq (x_t (KZ (w_b rfl rfl (by rw[Jt,decide_eq_true (by omega)]))) (vI ?_));have:n=16∨n=17∨n=18:=by omega
  rcases this with rfl | rfl | rfl
  ·exact wO (j:=0) rfl rfl rfl (kg8 h _)
  ·exact wO (j:=1) rfl rfl rfl (kc3 h _)
  ·exact wO (j:=2) rfl rfl rfl (kfN h _)
 refine qz (vh (KZ (w_b rfl rfl (ka1 (by omega))))) ?_;have:n=19∨n=20∨n=21∨n=22:=by omega
 rcases this with rfl | rfl | rfl | rfl
 ·exact qq (x_t rfl (vI (zY (x:=e) (y:=d) rfl rfl (kbD h e he))))
 ·exact qq (x_t rfl (vI (zY (x:=d) (y:=e) rfl rfl (kdb h _))))
 ·exact qz (vh rfl) (qq (x_t rfl (vI (uO rfl rfl rfl (kaK h _ _)))))
 ·exact qz (vh rfl) (qz (vh rfl) (vI (QG rfl rfl rfl rfl (kfC h _ _ _))))
end
def chk {s:kR}(h:qy 6 s):xP [kG s] = .ok (.bl true):=by
 obtain⟨C,c1,c5,hr⟩:=h.cols;have r1:=h.rows1;have r3:=h.rows5;rw[WU s h.rows1 (by omega) λr hm=>⟨by rw[hr.len r hm];exact⟨c1,c5⟩,hr.ok r hm⟩]
 have e:s.all (λr=>r.length==(s.getD 0 []).length)=true:=by
  rw[List.all_eq_true];intro r hm;obtain⟨r0,t,rfl⟩:∃r0 t,s=r0::t:=List.exists_cons_of_ne_nil (by intro e;subst e;simp at r1)
  rw[hr.len r hm];show (C==r0.length)=true;rw[hr.len r0 zaj];exact beq_self_eq_true C
 have t1:=h.some1;have t2:=h.most;rw[e,decide_eq_true (by omega),decide_eq_true (by omega)];rfl
def kao {d:D}(hd:qv d 1 12=false):qS [d] = .exc 4:=qp (qq (QB (Vp (zv (zw rfl rfl rfl (by rw[wm,hd]))))))
def kim {d:D}(hd:qv d 1 12=true):qS [d] = .ok d:=kaW (vJ (vh (Z8 (zv (zw rfl rfl rfl (by rw[wm,hd]))))) (xF rfl))
def kcV {d:D}(hd:qv d 1 4=false):zP [d] = .exc 4:=qp (qq (QB (Vp (zv (zw rfl rfl rfl (by rw[wm,hd]))))))
def JL:List D:=[.int 0,.int (-1),.bl true,.str "1",.non,.int 13]
def kf5:∀d∈JL,qv d 1 12=false/\qv d 1 4=false/\∃e,kJ oIx (qO (kh (kj 3) (kh (cUn VT (cC (.int 1))) kD))) (kF Jh (kh (kJ oEq (kj 3) (cC (.int 13))) kD)) [a0,a1,a2,some d] = .ok e/\QS e 1=false:=by
 intro d hd;simp only[JL,List.mem_cons,List.not_mem_nil,or_false]at hd
 rcases hd with rfl | rfl | rfl | rfl | rfl | rfl
 ·exact⟨rfl,rfl,.int 0,rfl,rfl⟩
 ·exact⟨rfl,rfl,.int (-1),rfl,rfl⟩
 ·exact⟨rfl,rfl,.bl true,rfl,rfl⟩
 ·have hs:PySem.PyData.strOk "1" = true:=by decide +kernel
  have he:oEq (.str "1") (.int 13) = .ok (.bl false):=by
   unfold oEq;rw[Z5,Z5,kgt,hs];rfl
  exact⟨rfl,rfl,.str "1",w_b (kjp rfl rfl) (vH (w_b rfl rfl he) rfl) rfl,rfl⟩
 ·exact⟨rfl,rfl,.non,rfl,rfl⟩
 ·exact⟨rfl,rfl,.int (-1),rfl,rfl⟩
def ZO:List D:=[.tup [.int 1],.lst [],.lst [.int 0],.lst [.int 1,.int (-1)],.lst [.bl true],.lst [.str "1"],.non,.lst (List.replicate 13 (.int 1)),.lst [.int 1,.non]]
def W9 {l:List D}(h1:1<=l.length)(h2:l.length<=12)(hd:(l.all λd=>QS d 1)=false):xr [.lst l] = .exc 5:=by
 refine qp (qz (vh (khv rfl (Z8 (KZ (kjA (k:=true) (k':=true) rfl (vH rfl rfl) rfl (kgP (by omega)) (kgP (by omega))))))) (qq (QB (Vp (zv (vH (Qv (kea rfl) (WL (λd=>D.bl (QS d 1)) λd hd=>⟨_,rfl,QL rfl rfl (Kc d 1)⟩) ?_) ?_))))))
 ·rw[zai];omega
 ·rw[Jc,kbQ (λd=>QS d 1),UK (λd=>QS d 1),hd];rfl
def kfM:∀d∈ZO,xr [d] = .exc 5:=by
 intro d hd;simp only[ZO,List.mem_cons,List.not_mem_nil,or_false]at hd
 rcases hd with rfl | rfl | rfl | rfl | rfl | rfl | rfl | rfl | rfl
 ·exact qp (qq (QB rfl))
 ·exact qp (qq (QB rfl))
 ·exact W9 (by decide) (by decide) rfl
 ·exact W9 (by decide) (by decide) rfl
 ·exact W9 (by decide) (by decide) rfl
 ·exact W9 (by decide) (by decide) rfl
 ·exact qp (qq (QB rfl))
 ·exact qp (qq (QB rfl))
 ·exact W9 (by decide) (by decide) rfl
section
variable {s:kR}(h:qy 6 s)
include h
def ck:kF kW (kh (kj 0) kD) (some (kG s)::env) = .ok (kG s):=vH rfl (UU (chk h))
def ji {d:D}(hd:qv d 1 12=false):wF [kG s,d] = .exc 4:=qp (qz (v8 (ck h)) (qq (yE (WM rfl (kao hd)))))
def jB {d:D}(hd:qv d 1 12=false):xH [kG s,d] = .exc 4:=qp (vI (kcQ rfl (zY rfl rfl (ji h hd))))
def kei {d:D}(hd:qv d 1 12=false):vM [kG s,d] = .exc 4:=qp (vI (kaM (zY rfl rfl (jB h hd))))
def kfg {d:D}(hd:qv d 1 12=false):K5 [kG s,d] = .exc 4:=qp (qz (v8 (ck h)) (qq (yE (WM rfl (kao hd)))))
def kf7 {d e g:D}(hd:qv d 1 12=false):qw [kG s,d,e,g] = .exc 4:=qp (qz (v8 (ck h)) (qq (yE (WM rfl (kao hd)))))
def khn {d:D}(hd:QS d 1=false):xj [kG s,d] = .exc 4:=qp (qz (v8 (ck h)) (qq (QB (Vp (zv (QL rfl rfl (by rw[Kc,hd])))))))
def keC {d:D}(hd:zR s d=false):vQ [kG s,d] = .exc 2:=qp (qq (QB (Vp (zv (QL rfl rfl (by rw[XX h,hd]))))))
def kiy {d:D}(hd:zR s d=true):vQ [kG s,d] = .ok d:=kaW (vJ (vh (Z8 (zv (QL rfl rfl (by rw[XX h,hd]))))) (xF rfl))
def keY {d:D}(hd:zR s d=false):Qa [kG s,d] = .exc 2:=qp (qz (v8 (ck h)) (vI (kcQ rfl (zY rfl rfl (keC h hd)))))
def YX {d e:D}(hd:zR s d=false):vE [kG s,d,e] = .exc 2:=qp (qz (v8 (ck h)) (qq (yE (zY rfl rfl (keC h hd)))))
def YI {d e:D}(hd:zR s d=true)(he:qv e 1 9999=false):vE [kG s,d,e] = .exc 4:=qp (qz (v8 (ck h)) (qz (v8 (QL rfl rfl (kiy h hd))) (qq (QB (Vp (zv (zw rfl rfl rfl (by rw[wm,he]))))))))
def U4 {n d e:D}{k:Nat}(hn:qv n 1 12=true)(hc:vE [kG s,d,e] = .exc k):qw [kG s,n,d,e] = .exc k:=qp (qz (v8 (ck h)) (qz (v8 (vH rfl (kim hn))) (qq (Uc (uO rfl rfl rfl hc)))))
def kb4 {d e:D}(hd:zR s d=false){w:Int}(w0:0<=w)(w1:w < 3):x6 [.int w,kG s,d,e] = .exc 2:=by
 have:w=0∨w=1∨w=2:=by omega
 rcases this with rfl | rfl | rfl
 ·exact qp (qq (x_t rfl (vI (zY rfl rfl (keY h hd)))))
 ·exact qp (qz (vh rfl) (qq (x_t rfl (vI (uO rfl rfl rfl (YX h hd))))))
 ·exact qp (qz (vh rfl) (qz (vh rfl) (vI (QG rfl rfl rfl rfl (U4 h rfl (YX h hd))))))
def ka8 {d e:D}(hd:zR s d=true)(he:qv e 1 9999=false){w:Int}(w0:0<=w)(w1:w < 2):xJ [.int w,kG s,d,e] = .exc 4:=by
 have:w=0∨w=1:=by omega
 rcases this with rfl | rfl
 ·exact qp (qq (x_t rfl (vI (uO rfl rfl rfl (YI h hd he)))))
 ·exact qp (qz (vh rfl) (vI (QG rfl rfl rfl rfl (U4 h rfl (YI h hd he)))))
def Up {d c:D}(hd:d∈JL){w:Int}(w0:0<=w)(w1:w < 7):xw [.int w,kG s,c,d] = .exc 4:=by
 obtain⟨h1,h2,e,h3,h4⟩:=kf5 (a0:=some (.int w)) (a1:=some (kG s)) (a2:=some c) d hd;refine qp ?_;have:w=0∨w=1∨w=2∨w=3∨w=4∨w=5∨w=6:=by omega
 rcases this with rfl | rfl | rfl | rfl | rfl | rfl | rfl
 ·exact qq (x_t rfl (vI (wO (j:=0) rfl rfl rfl (ji h h1))))
 ·exact qq (x_t rfl (vI (wO (j:=1) rfl rfl rfl (jB h h1))))
 ·exact qq (x_t rfl (vI (wO (j:=2) rfl rfl rfl (kei h h1))))
 ·exact qq (x_t rfl (vI (wO (j:=3) rfl rfl rfl (kfg h h1))))
 ·exact qz (vh rfl) (qq (x_t rfl (vI (WM rfl (kcV h2)))))
 ·exact qz (vh rfl) (qz (vh rfl) (qq (x_t rfl (vI (QG rfl rfl rfl rfl (kf7 h h1))))))
 ·exact qz (vh rfl) (qz (vh rfl) (qz (vh rfl) (vI (zY rfl h3 (khn h h4)))))
def US {d:D}(hd:d∈ZO):ze [kG s,d] = .exc 5:=qp (qz (v8 (ck h)) (qq (yE (WM rfl (kfM d hd)))))
def khl {d:D}(hd:d∈ZO):vW [kG s,d] = .exc 5:=qp (qq (Uc (zY rfl rfl (US h hd))))
end
def plc (s:kR)(x:Cell):Option Int:=if 0<=x.1/\0<=x.2 then (s.getD x.1.toNat []).getD x.2.toNat none else none
def ja {s:kR}{x:Cell}:x∈cells s↔∃v,plc s x=some v:=by
 rw[Qq];unfold plc;constructor
 ·rintro⟨a,b,row,v,h1,h2⟩
  refine⟨v,?_⟩;rw[if_pos ⟨a,b⟩,List.getD_eq_getElem?_getD,List.getD_eq_getElem?_getD,h1];show (row[x.2.toNat]?).getD none=_;rw[h2];rfl
 ·rintro⟨v,h⟩
  split at h
  ·rename_i q
   refine⟨q.1,q.2,?_⟩;rw[List.getD_eq_getElem?_getD,List.getD_eq_getElem?_getD]at h
   cases e:s[x.1.toNat]? with
   |none=>rw[e]at h;cases h
   |some row=>
    rw[e]at h;have h:(row[x.2.toNat]?).getD none=some v:=h
    cases e2:row[x.2.toNat]? with
    |none=>rw[e2]at h;cases h
    |some p=>
     rw[e2]at h;have h:p=some v:=h;exact⟨row,v,rfl,by rw[e2,h]⟩
  ·cases h
structure Way (s t:kR)(f g:Cell->Cell):Prop where
 gf:∀x,g (f x)=x
 fg:∀x,f (g x)=x
 far:∀x y,far (f x) (f y)=far x y
 plc:∀x,plc t (f x)=plc s x
def Way.mem {s t:kR}{f g:Cell->Cell}(w:Way s t f g){x:Cell}:f x∈cells t↔x∈cells s:=by rw[ja,ja,w.plc]
def Way.inv {s t:kR}{f g:Cell->Cell}(w:Way s t f g):Way t s g f :=
 ⟨w.fg,w.gf,λx y=>by rw[<- w.far,w.fg,w.fg],λx=>by rw[<- w.plc,w.fg]⟩
def Way.id (s:kR):Way s s (λx=>x) (λx=>x):=⟨λ_=>rfl,λ_=>rfl,λ_ _=>rfl,λ_=>rfl⟩
def XU (s:kR):(cells s).Nodup:=List.Pairwise.of_map kK (λa b n e=>n (congrArg kK e)) ((kbo s).nodup (kex s))
def Way.perm {s t:kR}{f g:Cell->Cell}(w:Way s t f g):((cells s).map f).Perm (cells t):=by
 refine (List.perm_ext_iff_of_nodup ?_ (XU t)).mpr λx=>⟨λh=>?_,λh=>?_⟩
 ·refine List.Pairwise.map _ ?_ (XU s);exact λa b n e=>n (by rw[<- w.gf a,e,w.gf])
 ·obtain⟨y,hy,rfl⟩:=List.mem_map.mp h;exact w.mem.mpr hy
 ·exact List.mem_map.mpr ⟨g x,by rw[<- w.mem,w.fg];exact h,w.fg x⟩
def Way.total {s t:kR}{f g:Cell->Cell}(w:Way s t f g):total t=total s:=by
 rw[<- KI,<- KI,<- w.perm.length_eq,zai]
def wid (s:kR):Nat:=(s.getD 0 []).length
def W5 (s:kR)(c:Nat):List (Option Int):=s.reverse.map λr=>r.getD c none
def trn (s:kR):kR:=(List.range (wid s)).map (W5 s)
def mir (s:kR):kR:=s.map List.reverse
def Zn {C:Nat}{s:kR}(h1:1<=s.length)(h:yV C s):wid s=C:=by
 obtain⟨r0,t,rfl⟩:∃r0 t,s=r0::t:=List.exists_cons_of_ne_nil (by intro e;subst e;simp at h1)
 exact h.len r0 zaj
def JR {C:Nat}{s:kR}(h:yV C s)(x:Cell)(hx:¬ (0<=x.1/\x.1 < s.length/\0<=x.2/\x.2 < C)):plc s x=none:=by
 unfold plc;split
 ·rename_i q
  rw[List.getD_eq_getElem?_getD,List.getD_eq_getElem?_getD]
  cases e:s[x.1.toNat]? with
  |none=>rfl
  |some row=>
   show (row[x.2.toNat]?).getD none=none;have lt:=(List.getElem?_eq_some_iff.mp e).1;have lr:=h.len row (List.mem_of_getElem? e);rw[List.getElem?_eq_none (by omega)];rfl
 ·rfl
def kcY (R:Int)(x y:Cell):far (x.2,R - 1 - x.1) (y.2,R - 1 - y.1)=far x y:=by
 unfold far;simp only
 repeat' split
 all_goals omega
def kfZ (C:Int)(x y:Cell):far (x.1,C - 1 - x.2) (y.1,C - 1 - y.2)=far x y:=by
 unfold far;simp only
 repeat' split
 all_goals omega
def J3 {C:Nat}{s:kR}(h1:1<=s.length)(h:yV C s):(trn s).length=C/\yV s.length (trn s):=by
 have w:=Zn h1 h;refine⟨by rw[trn,zai,List.length_range,w],⟨λr hr=>?_,λr hr p hp=>?_⟩⟩
 ·obtain⟨c,_,rfl⟩:=List.mem_map.mp hr;rw[W5,zai,List.length_reverse]
 ·obtain⟨c,_,rfl⟩:=List.mem_map.mp hr;obtain⟨q,hq,rfl⟩:=List.mem_map.mp hp;rw[List.getD_eq_getElem?_getD]
  cases e:q[c]? with
  |none=>intro v hv;cases hv
  |some p=>exact h.ok q (List.mem_reverse.mp hq) p (List.mem_of_getElem? e)
def kf4 {C:Nat}{s:kR}(h1:1<=s.length)(h:yV C s):Way s (trn s) (λx=>(x.2,(s.length:Int) - 1 - x.1)) (λx=>((s.length:Int) - 1 - x.2,x.1)):=by
 obtain⟨tl,tr⟩:=J3 h1 h;have w:=Zn h1 h;refine⟨λx=>Prod.ext (show (s.length:Int) - 1 - (s.length - 1 - x.1)=x.1 by omega) rfl,λx=>Prod.ext rfl (show (s.length:Int) - 1 - (s.length - 1 - x.2)=x.2 by omega),kcY _,λx=>?_⟩
 by_cases q:0<=x.1/\x.1 < s.length/\0<=x.2/\x.2 < C
 ·unfold plc;rw[if_pos ⟨q.2.2.1,by show 0<=(s.length:Int) - 1 - x.1;omega⟩,if_pos ⟨q.1,q.2.2.1⟩];show ((trn s).getD x.2.toNat []).getD ((s.length:Int) - 1 - x.1).toNat none=_
  have e1:(trn s)[x.2.toNat]?=some (W5 s x.2.toNat):=by
   rw[trn,zar,List.getElem?_range (by omega)];rfl
  have e2:(s.reverse)[((s.length:Int) - 1 - x.1).toNat]?=s[x.1.toNat]?:=by
   rw[List.getElem?_reverse (by omega)]
   congr 1
   omega
  have e3:s[x.1.toNat]?=some (s[x.1.toNat]'(by omega)):=zaq (by omega);rw[List.getD_eq_getElem?_getD (l:=trn s),e1];show (W5 s x.2.toNat).getD _ none=_;rw[W5,List.getD_eq_getElem?_getD,zar,e2,e3,List.getD_eq_getElem?_getD (l:=s),e3];rfl
 ·rw[JR h x q,JR tr _ ?_];rw[tl];show ¬ (0<=x.2/\x.2 < (C:Int)/\0<=(s.length:Int) - 1 - x.1/\(s.length:Int) - 1 - x.1 < (s.length:Nat));omega
def Jl {C:Nat}{s:kR}(h:yV C s):(mir s).length=s.length/\yV C (mir s):=by
 refine⟨zai ..,⟨λr hr=>?_,λr hr p hp=>?_⟩⟩
 ·obtain⟨c,hc,rfl⟩:=List.mem_map.mp hr;rw[List.length_reverse,h.len c hc]
 ·obtain⟨c,hc,rfl⟩:=List.mem_map.mp hr;exact h.ok c hc p (List.mem_reverse.mp hp)
def kfs {C:Nat}{s:kR}(h:yV C s):Way s (mir s) (λx=>(x.1,(C:Int) - 1 - x.2)) (λx=>(x.1,(C:Int) - 1 - x.2)):=by
 obtain⟨tl,tr⟩:=Jl h;have inv:∀x:Cell,(x.1,(C:Int) - 1 - (C - 1 - x.2))=x:=λx=>Prod.ext rfl (show (C:Int) - 1 - (C - 1 - x.2)=x.2 by omega)
 refine⟨inv,inv,kfZ _,λx=>?_⟩
 by_cases q:0<=x.1/\x.1 < s.length/\0<=x.2/\x.2 < C
 ·unfold plc;rw[if_pos ⟨q.1,by show 0<=(C:Int) - 1 - x.2;omega⟩,if_pos ⟨q.1,q.2.2.1⟩];show ((mir s).getD x.1.toNat []).getD ((C:Int) - 1 - x.2).toNat none=_;have e3:s[x.1.toNat]?=some (s[x.1.toNat]'(by omega)):=zaq (by omega);have el:=h.len _ (List.getElem_mem (l:=s) (n:=x.1.toNat) (by omega));have e1:(mir s)[x.1.toNat]?=some (s[x.1.toNat]'(by omega)).reverse:=by rw[mir,zar,e3];rfl
  rw[List.getD_eq_getElem?_getD (l:=mir s),e1,List.getD_eq_getElem?_getD (l:=s),e3];show (s[x.1.toNat]'(by omega)).reverse.getD _ none=(s[x.1.toNat]'(by omega)).getD _ none;rw[List.getD_eq_getElem?_getD,List.getD_eq_getElem?_getD,List.getElem?_reverse (by omega)]
  congr 2
  omega
 ·rw[JR h x q,JR tr _ ?_];rw[tl];show ¬ (0<=x.1/\x.1 < (s.length:Int)/\0<=(C:Int) - 1 - x.2/\(C:Int) - 1 - x.2 < (C:Nat));omega
def V7 {most:Int}{s:kR}(h:qy most s):qy most (trn s):=by
 obtain⟨C,c1,c5,hr⟩:=h.cols;obtain⟨tl,tr⟩:=J3 h.rows1 hr;have t:=(kf4 h.rows1 hr).total;exact⟨by omega,by omega,⟨_,h.rows1,h.rows5,tr⟩,by rw[t];exact h.some1,by rw[t];exact h.most⟩
def Zb {most:Int}{s:kR}(h:qy most s):qy most (mir s):=by
 obtain⟨C,c1,c5,hr⟩:=h.cols;obtain⟨tl,tr⟩:=Jl hr;have t:=(kfs hr).total;exact⟨by rw[tl];exact h.rows1,by rw[tl];exact h.rows5,⟨_,c1,c5,tr⟩,by rw[t];exact h.some1,by rw[t];exact h.most⟩
def ken (s:kR)(env:Env):L3.kcS (kj 0) (some (kG s)::env) = .ok (s.reverse.map qC):=by
 show Rs.ok (s.map qC).reverse=_;rw[List.map_reverse]
def kg9 {r:List (Option Int)}{c:Nat}(h:c < r.length):oIx (qC r) (.int c) = .ok (qJ (r.getD c none)):=by
 rw[qC,kjM,wG (by omega) (by rw[zai];omega),Int.toNat_natCast,zar,List.getD_eq_getElem?_getD,zaq h];rfl
def khH {C c:Nat}{s:kR}(h5:s.length<=5)(h:yV C s)(hc:c < C):xA [kG s,.int c] = .ok (qC (W5 s c)):=by
 refine KY (xF (vH (Qv (ken s _) (yh qC (λr=>qJ (r.getD c none)) (l:=s.reverse) λr hr=>⟨_,rfl,w_b rfl rfl (kg9 (by rw[h.len r (List.mem_reverse.mp hr)];exact hc))⟩) ?_) ?_))
 ·rw[zai,List.length_reverse];omega
 ·rw[qC,W5,List.map_map];rfl
section
variable {most:Int}{s:kR}
def kd6 (h:qy most s)(hm:most<=12):kW [kG s] = .ok (kG s):=by
 obtain⟨C,c1,c5,hr⟩:=h.cols;have r1:=h.rows1;refine UU ?_;rw[WU s h.rows1 h.rows5 λr hm=>⟨by rw[hr.len r hm];exact⟨c1,c5⟩,hr.ok r hm⟩]
 have e:s.all (λr=>r.length==(s.getD 0 []).length)=true:=by
  rw[List.all_eq_true];intro r hm;rw[hr.len r hm,<- Zn r1 hr];exact beq_self_eq_true _
 have t1:=h.some1;have t2:=h.most;rw[e,decide_eq_true (by omega),decide_eq_true (by omega)];rfl
def kcz (h:qy most s)(hm:most<=12):WC [kG s] = .ok (kG (trn s)):=by
 obtain⟨C,c1,c5,hr⟩:=h.cols;have w:=Zn h.rows1 hr
 have e0:kF vD (kh (kJ oIx (kj 0) (cC (.int 0))) kD) [some (kG s)] = .ok (.int C):=by
  obtain⟨r0,t,rfl⟩:∃r0 t,s=r0::t:=List.exists_cons_of_ne_nil (by intro e;have:=h.rows1;subst e;simp at this)
  refine vH (kd0 (x:=qC r0) rfl) ?_;show Rs.ok (D.int ((r0.map qJ).length:Nat))=_;rw[zai,hr.len r0 zaj]
 refine KY (vJ (v8 (vH rfl (kd6 h hm))) (xF (vH (Qv (l:=(List.range C).map λc:Nat=>D.int c) ((kgG e0 (by omega)).trans ?_) (yh (λc:Nat=>D.int c) (λc=>qC (W5 s c)) (l:=List.range C) λc hc=>⟨_,rfl,QL rfl rfl (khH h.rows5 hr (List.mem_range.mp hc))⟩) ?_) ?_)))
 ·rw[Jv];simp only[Int.zero_add]
 ·rw[zai,List.length_range];omega
 ·rw[kG,trn,List.map_map,w];rfl
def Uy (h:qy most s)(hm:most<=12):QU [kG s] = .ok (kG (mir s)):=by
 have r5:=h.rows5;refine KY (vJ (v8 (vH rfl (kd6 h hm))) (xF (vH (Qv (l:=s.map qC) rfl (yh qC (λr=>qC r.reverse) λr hr=>⟨_,rfl,?_⟩) ?_) ?_)))
 ·show Rs.ok (D.tup (r.map qJ).reverse)=_;rw[qC,List.map_reverse]
 ·rw[zai];omega
 ·rw[kG,mir,List.map_map];rfl
def Zk (s:kR):List kR:=[s,mir s,trn s,mir (trn s),trn (trn s),mir (trn (trn s)),trn (trn (trn s)),mir (trn (trn (trn s)))]
def QY (h:qy most s)(hm:most<=12)(a z:Option D){l:List D}(hl:l.length < 100):Xl [a,some (.lst l),some (kG s),z] = .ok (.next [a,some (.lst (l++[kG s]++[kG (mir s)])),some (kG (trn s)),z]) :=
 vJ (kaS rfl rfl (by omega)) (vJ (kaS (vH rfl (Uy h hm)) rfl (by rw[zap,List.length_singleton];omega)) (wY (vH rfl (kcz h hm))))
def JZ (h:qy most s)(hm:most<=12):zK [kG s] = .ok (.lst ((Zk s).map kG)):=by
 have h1:=V7 h;have h2:=V7 h1;refine KY (vJ (wY kjh) (vJ (wY rfl) (vJ (Y0 (l:=[.int 0,.int 1,.int 2,.int 3]) rfl (Jz rfl (QY h hm _ _ (by decide)) (Jz rfl (QY h1 hm _ _ (by simp)) (Jz rfl (QY h2 hm _ _ (by simp)) (Jz rfl (QY (V7 h2) hm _ _ (by simp)) rfl))))) (xF rfl))))
def rk:Option Int->Int
 |none=>0
 |some v=>v
def rank (s:kR):List Int:=(s.length:Int)::(s.map λr=>r.map rk).flatten
def jY (p:Option Int):Ks [qJ p] = .ok (.int (rk p)):=by cases p <;> rfl
def jE (a:Option D):∀ (l:kR) (acc:List Int) (z:Option D),(∀ r ∈ l,r.length <= 5) -> acc.length + 5 * l.length <= 1000 →
 ∃z',forL (vA 2) WS (l.map qC) [a,some (.lst (acc.map .int)),z] = .ok (.next [a,some (.lst ((acc++(l.map λr=>r.map rk).flatten).map .int)),z'])
 | [],acc,z,_,_=>⟨z,by rw[List.map_nil,List.map_nil,List.flatten_nil,List.append_nil];rfl⟩
 |r::l,acc,z,h,hl=>by
  have h5:=h r zaj;rw[zam]at hl;obtain⟨z',e⟩:=jE a l (acc++r.map rk) (some (qC r)) (λq hq=>h q (zah _ hq)) (by rw[zap,zai];omega);refine⟨z',?_⟩;rw[zat,zat,List.flatten_cons,<- List.append_assoc];refine Jz rfl (kh1 (Qv (l:=r.map qJ) rfl (yh qJ (λp=>.int (rk p)) λp _=>⟨_,rfl,vH rfl (jY p)⟩) ?_) rfl ?_) (Eq.trans ?_ e)
  ·rw[zai];omega
  ·rw[zai,zai];omega
  ·rw[List.map_append,List.map_map]
   rfl
def kga (h:qy most s):vd [kG s] = .ok (.lst ((rank s).map .int)):=by
 obtain⟨C,c1,c5,hr⟩:=h.cols;have r5:=h.rows5;obtain⟨z,e⟩:=jE (some (kG s)) s [(s.length:Int)] none (λr hm=>by rw[hr.len r hm];exact c5) (by rw[List.length_singleton];omega);refine KY (vJ (wY (kdv (vH rfl (r:=.int s.length) ?_))) (vJ (Y0 (l:=s.map qC) rfl e) (xF rfl)));show Rs.ok (D.int ((s.map qC).length:Nat))=_;rw[zai]
def kci (h:qy most s):L3.QE (vd [kG s]) = .ok (rank s):=by
 rw[kga h];show (if ((rank s).map D.int).all D.isI=true then Rs.ok (((rank s).map D.int).map D.num) else .stuck)=_;rw[if_pos (by rw[List.all_map,List.all_eq_true];exact λ_ _=>rfl),List.map_map]
 congr 1
 exact List.map_id'' (λ_=>rfl) _
def Z7:kR->List kR->kR
 |d,[]=>d
 |d,x::xs=>if L3.ltZ (rank x) (rank d) then Z7 x xs else Z7 d xs
def ZR:∀ (xs:List kR) (d:kR),(∀x∈xs,qy most x)->L3.K9 vd (kG d) (rank d) (xs.map kG) = .ok (kG (Z7 d xs))
 | [],d,_=>rfl
 |x::xs,d,h=>by
  show (L3.QE (vd [kG x])>>=λkx=>if L3.ltZ kx (rank d) then L3.K9 vd (kG x) kx (xs.map kG) else L3.K9 vd (kG d) (rank d) (xs.map kG)) = .ok (kG (if L3.ltZ (rank x) (rank d) then Z7 x xs else Z7 d xs));rw[kci (h x zaj),V4];split
  ·exact ZR xs x λy hy=>h y (zah _ hy)
  ·exact ZR xs d λy hy=>h y (zah _ hy)
def kbx (h:qy most s):∀x∈Zk s,qy most x:=by
 have h1:=V7 h;have h2:=V7 h1;have h3:=V7 h2;intro x hx;simp only[Zk,List.mem_cons,List.not_mem_nil,or_false]at hx
 rcases hx with rfl | rfl | rfl | rfl | rfl | rfl | rfl | rfl
 ·exact h
 ·exact Zb h
 ·exact h1
 ·exact Zb h1
 ·exact h2
 ·exact Zb h2
 ·exact h3
 ·exact Zb h3
def kdB (h:qy most s)(hm:most<=12):xV [kG s] = .ok (kG (Z7 s ((Zk s).drop 1))):=by
 refine kaW (vJ (v8 (vH rfl (kd6 h hm))) (xF ?_));show (kF zK (kh (kj 0) kD) [some (kG s)]>>=L3.minD vd)=_;rw[vH rfl (JZ h hm),V4];show (L3.QE (vd [kG s])>>=λk=>L3.K9 vd (kG s) k (((Zk s).drop 1).map kG))=_;rw[kci h,V4];exact ZR _ _ λx hx=>kbx h x (List.mem_of_mem_drop hx)
end
def kej (a b:Cell):D.cmp (kK a) (kK b)=true:=by
 simp only[kK,D.cmp,D.QM]
 split <;> (try rfl)
 split <;> rfl
def ZD {S:List D}(h:Cs S):P.sortable S=true:=by
 unfold P.sortable;simp only[Bool.or_eq_true,Bool.and_eq_true,List.all_eq_true];refine .inr ⟨.inl λx hx=>?_,λx hx=>?_,jH h,λx hx y hy=>?_⟩
 ·obtain⟨c,rfl⟩:=h x hx;rfl
 ·obtain⟨c,rfl⟩:=h x hx;exact Xm c
 ·obtain⟨c,rfl⟩:=h x hx;obtain⟨d,rfl⟩:=h y hy;exact kej c d
def kcq {S:List D}(h:Cs S)(n:Nat):D.pls (n+1) S=true:=by
 rw[zj,List.all_eq_true];intro x hx;obtain⟨c,rfl⟩:=h x hx;simp[kK]
def keT (s:kR):Cs (dC s):=λx hx=>by
 obtain⟨c,_,rfl⟩:=List.mem_map.mp hx;exact⟨c,rfl⟩
def UQ:∀ {xs ys:List D},D.eqs xs ys=true->xs.length=ys.length
 | [],[],_=>rfl
 | [],_::_,h=>by cases h
 |_::_,[],h=>by cases h
 |x::xs,y::ys,h=>by
  rw[kb6,Bool.and_eq_true]at h;rw[zam,zam,UQ h.2]
def khN {X Y:List D}(hX:Cs X)(hY:Cs Y)(n:X.length≠Y.length):oEq (.lst X) (.lst Y) = .ok (.bl false):=by
 have hp:((D.lst X).plain&&(D.lst Y).plain)=true:=by
  rw[Bool.and_eq_true];exact⟨kcq hX 38,kcq hY 38⟩
 rw[kdr,if_pos hp];show Rs.ok (D.bl (D.eqs X Y))=_;rw[show D.eqs X Y=false from by rw[Bool.eq_false_iff];exact λe=>n (UQ e)]
def YF (sh pd:Option D):∀ (L:List (List D)) (acc:List D) (z:Option D),acc.length + L.flatten.length <= 1000 →
 ∃z',P.forL (vA 3) VC (L.map .tup) [sh,pd,some (.lst acc),z] = .ok (.next [sh,pd,some (.lst (acc++L.flatten)),z'])
 | [],acc,z,_=>⟨z,by rw[List.flatten_nil,List.append_nil];rfl⟩
 |S::L,acc,z,hl=>by
  rw[List.flatten_cons,zap]at hl;obtain⟨z',e⟩:=YF sh pd L (acc++S) (some (.tup S)) (by rw[zap];omega);refine⟨z',?_⟩;have eb:VC [sh,pd,some (.lst acc),some (.tup S)] = .ok (.next [sh,pd,some (.lst (acc++S)),some (.tup S)]):=if_pos (P.szm (by omega));rw[zat,zb rfl eb,e,List.flatten_cons,List.append_assoc]
def keE {d:D}(hd:KQ d=false):xU [kG s,d] = .ok (.bl false):=by
 refine KY (JM (w_t (Vp (zv (w_u rfl ?_))) (xF rfl)));show Rs.ok (D.bl (KQ d))=_;rw[hd]
def kfd {l:List D}(v:D->Bool)(hv:l.all v=false):QI [.lst (l.map λd=>.bl (v d))] = .ok (.bl false):=by
 rw[Jc,kbQ v,UK v,hv];rfl
def JP {l:List D}(hl:l.length<=1000)(v:D->Bool)(hv:∀d∈l,wA [kG s,d] = .ok (.bl (v d)))(ha:l.all v=false):xU [kG s,.lst l] = .ok (.bl false) :=
 KY (vJ (vh rfl) (JM (w_t (Vp (zv (vH (Qv (kea rfl) (WL (λd=>D.bl (v d)) λd hd=>⟨_,rfl,QL rfl rfl (hv d hd)⟩) (by rw[zai];omega)) (kfd v ha)))) (xF rfl))))
section
variable {s:kR}(h:qy 6 s)
include h
def keO {d:D}(hd:isTup d=false):wA [kG s,d] = .ok (.bl false):=by
 refine KY (vJ (v8 (ck h)) (JM (w_t (kiX (Vp (zv (w_u rfl ?_)))) (xF rfl))));show Rs.ok (D.bl (isTup d))=_;rw[hd]
def khJ:wA [kG s,.tup []] = .ok (.bl false):=KY (vJ (v8 (ck h)) (JM (w_t rfl (xF rfl))))
def YL:(dC s).length<=6/\1<=(dC s).length:=by
 have e:(dC s).length=total s:=by rw[dC,zai,KI]
 have:=h.most;have:=h.some1;omega
def kbC {xs:List D}(hs:xs.Sublist (dC s)):∃b,wA [kG s,.tup xs] = .ok (.bl b):=by
 by_cases h0:xs=[]
 ·subst h0;exact⟨_,khJ h⟩
 have hc:∀x∈xs,x∈dC s:=λx hx=>hs.subset hx
 have l6:=(YL h).1;have hl:=hs.length_le
 have co:∀x∈xs,∃c:Cell,x=kK c/\c∈cells s:=λx hx=>by
  obtain⟨c,m,e⟩:=List.mem_map.mp (hc x hx);exact⟨c,e.symm,m⟩
 have cs:Cs xs:=λx hx=>by obtain⟨c,e,_⟩:=co x hx;exact⟨c,e⟩
 have hr:zy xs:=List.Pairwise.sublist hs (kbo s);have ri:=uL cs (by omega);rw[kfz hr]at ri;obtain⟨b,e,i⟩:=kdS h co (hr.nodup λy hy=>kex s y (hc y hy)) (by omega) h0;refine⟨b,KY (vJ (v8 (ck h)) (vJ (vh (khv rfl (KZ (w_b rfl rfl (kjf ?_))))) (vJ (vh (Z8 (zv (vH (Qv rfl (WL (λ_=>D.bl true) λd hd=>⟨_,rfl,QL rfl rfl ?_⟩) ?_) (w_all xs))))) (xF (ki7 (vH rfl ri) (QL rfl rfl e))))))⟩
 ·have:=List.length_pos_iff.mpr h0;omega
 ·obtain⟨c,rfl,m⟩:=co d hd;rw[WJ h,decide_eq_true m]
 ·rw[zai];omega
def kdx {d:D}(hd:xU [kG s,d] = .ok (.bl false)):yX [kG s,d] = .exc 3:=qp (qz (v8 (ck h)) (qq (QB (Vp (zv (QL rfl rfl hd))))))
def sm:(s.map List.length).sum < kP:=by
 obtain⟨C,c1,c5,rk⟩:=h.cols;have:=uV s 5 λr hr=>by have:=rk.len r hr;omega
 have:=h.rows5;show _ < 16777216;omega
def ur {L:List (List D)}(hL:∀S∈L,S.Sublist (dC s))(l2:L.length<=2)(ln:L.flatten.length≠(dC s).length)(l20:L.flatten.length<=20):xU [kG s,.lst (L.map .tup)] = .ok (.bl false):=by
 have hv:∀S∈L,∃b,wA [kG s,.tup S] = .ok (.bl b):=λS hS=>kbC h (hL S hS)
 by_cases q:∀S∈L,wA [kG s,.tup S] = .ok (.bl true)
 ·obtain⟨z,e⟩:=YF (some (kG s)) (some (.lst (L.map .tup))) L [] none (by rw[List.length_nil];omega)
  have cF:Cs L.flatten:=λx hx=>by
   obtain⟨S,hS,hx⟩:=List.mem_flatten.mp hx;exact keT s x ((hL S hS).subset hx)
  have cK:Cs (xx L.flatten):=λx hx=>cF x ((yk _).mem_iff.mp hx)
  refine KY (vJ (vh rfl) (vJ (vh (P.Z8 (P.zv (vH (P.Qv rfl (yh D.tup (λ_=>D.bl true) λS hS=>⟨_,rfl,P.QL rfl rfl (q S hS)⟩) ?_) (P.w_all L))))) (vJ (wY rfl) (vJ (Y0 rfl e) (xF (P.w_b (vH rfl ?_) (vH rfl (V5 s (sm h))) (khN cK (keT s) ?_)))))))
  ·rw[zai];omega
  ·rw[List.nil_append];exact kiI (ZD cF) (by omega)
  ·rw[(yk _).length_eq];exact ln
 ·have hc:∃f:List D->Bool,∀S∈L,wA [kG s,.tup S] = .ok (.bl (f S)):=by
   classical
   refine⟨λS=>if hS:S∈L then (hv S hS).choose else false,λS hS=>?_⟩;simp only[dif_pos hS];exact (hv S hS).choose_spec
  obtain⟨f,hf⟩:=hc;have hl:(L.map D.tup).length<=1000:=by rw[zai];omega
  refine JP hl (λd=>match d with | .tup S=>f S | _=>false) (λd hd=>?_) ?_
  ·obtain⟨S,hS,rfl⟩:=List.mem_map.mp hd;exact hf S hS
  ·rw[Bool.eq_false_iff];intro z;rw[List.all_map,List.all_eq_true]at z;exact q λS hS=>by rw[hf S hS,show f S=true from z S hS]
def kaH (s:kR):List D:=[.lst [.tup (dC s),.tup (dC s)],.lst [.tup ((dC s).drop 1)],.tup [.tup (dC s)],.non,.lst [],.lst [.lst (dC s)],.lst [.tup (dC s),.non]]
def kgd:∀d∈kaH s,yX [kG s,d] = .exc 3:=by
 obtain⟨l6,l1⟩:=YL h;intro d hd;refine kdx h ?_;simp only[kaH,List.mem_cons,List.not_mem_nil,or_false]at hd
 rcases hd with rfl | rfl | rfl | rfl | rfl | rfl | rfl
 ·refine ur h (L:=[dC s,dC s]) (λS hS=>?_) (by simp) ?_ ?_
  ·have:S=dC s:=by simpa using hS
   rw[this];exact List.Sublist.refl _
  ·rw[List.flatten_cons,List.flatten_cons,List.flatten_nil,List.append_nil,zap];omega
  ·rw[List.flatten_cons,List.flatten_cons,List.flatten_nil,List.append_nil,zap];omega
 ·refine ur h (L:=[(dC s).drop 1]) (λS hS=>?_) (by simp) ?_ ?_
  ·rw[List.mem_singleton.mp hS];exact List.drop_sublist _ _
  ·rw[List.flatten_cons,List.flatten_nil,List.append_nil,List.length_drop];omega
  ·rw[List.flatten_cons,List.flatten_nil,List.append_nil,List.length_drop];omega
 ·exact keE rfl
 ·exact keE rfl
 ·refine ur h (L:=[]) (λS hS=>by cases hS) (by decide) ?_ (by decide);rw[List.flatten_nil,List.length_nil];omega
 ·exact JP (by simp) (λ_=>false) (λd hd=>by rw[List.mem_singleton.mp hd];exact keO h rfl) rfl
 ·obtain⟨b,e⟩:=kbC h (List.Sublist.refl (dC s));refine JP (l:=[.tup (dC s),.non]) (by simp) (λd=>match d with | .tup _=>b | _=>false) (λd hd=>?_) ?_
  ·simp only[List.mem_cons,List.not_mem_nil,or_false]at hd
   rcases hd with rfl | rfl
   ·exact e
   ·exact keO h rfl
  ·simp
end
def KS {a:FE}{env:Env}{i j:Int}(ha:a env = .ok (.int i))(hj:0 < j):kJ oMod a (cC (.int j)) env = .ok (.int (i % j)):=w_b ha rfl (if_pos hj)
def kjg {a:FE}{env:Env}{i:Int}(ha:a env = .ok (.int i)):kJ oDiv a (cC (.int 9)) env = .ok (.int (i / 9)):=w_b ha rfl rfl
def keu (s:kR):List D:=[.non,.lst (s.map qC),.tup [],.tup [.tup [.int 0]],.tup [.tup [.non]],.tup [.tup [.bl true]]]
def kfJ (s:kR):∀d∈keu s,Bad d:=by
 intro d hd;simp only[keu,List.mem_cons,List.not_mem_nil,or_false]at hd
 rcases hd with rfl | rfl | rfl | rfl | rfl | rfl <;> exact kgF rfl
def kbd (c:Cell):List D:=[.tup [.int 5,.int 0],.tup [.int 0,.int 7],.tup [.int (-1),.int 0],.lst [.int 0,.int 0],.tup [.bl true,.int 0],.tup [.int 0],.non,.str "00",.tup [.int c.1,.int c.2,.int 0]]
def kfp {s:kR}(h:qy 6 s)(c:Cell):∀d∈kbd c,zR s d=false:=by
 obtain⟨C,c1,c5,hr⟩:=h.cols;have r5:=h.rows5
 have no:∀x:Cell,¬ (0<=x.1/\x.1 < s.length/\0<=x.2/\x.2 < C)->decide (x∈cells s)=false:=λx hx=>decide_eq_false λm=>by
  obtain⟨v,e⟩:=ja.mp m;rw[JR hr x hx]at e;cases e
 intro d hd;simp only[kbd,List.mem_cons,List.not_mem_nil,or_false]at hd
 rcases hd with rfl | rfl | rfl | rfl | rfl | rfl | rfl | rfl | rfl
 ·exact no (5,0) (by show ¬ (0<=(5:Int)/\(5:Int) < s.length/\0<=(0:Int)/\(0:Int) < C);omega)
 ·exact no (0,7) (by show ¬ (0<=(0:Int)/\(0:Int) < s.length/\0<=(7:Int)/\(7:Int) < C);omega)
 ·exact no (-1,0) (by show ¬ (0<=(-1:Int)/\(-1:Int) < s.length/\0<=(0:Int)/\(0:Int) < C);omega)
 all_goals rfl
def kal:List D:=[.int 0,.int (-1),.bl true,.str "1",.non,.int 10000]
def kfY:∀d∈kal,qv d 1 9999=false:=by
 intro d hd;simp only[kal,List.mem_cons,List.not_mem_nil,or_false]at hd
 rcases hd with rfl | rfl | rfl | rfl | rfl | rfl <;> rfl
def md (x:Int){k:Int}(hk:0 < k):0<=x % k/\x % k < k:=⟨Int.emod_nonneg _ (by omega),Int.emod_lt_of_pos _ hk⟩
def ki9 {a:FE}{env:Env}{l:List D}(ha:a env = .ok (.lst l))(h1:1<=l.length):Wt a (VI (cC (.int 1))) Wg env = .ok (.lst (l.drop 1)):=by
 have e:Wt a (VI (cC (.int 1))) Wg env = .ok (.lst (cut l (some 1) none)):=by
  unfold Wt;rw[ha];rfl
 rw[e]
 congr 2
 have e1:sIx l.length 0 (some 1)=1:=by
  show min 1 l.length=1;omega
 unfold cut;rw[e1];show (l.drop 1).take (l.length - 1)=_;rw[List.take_of_length_le (by rw[List.length_drop];omega)]
section
variable {s:kR}(h:qy 6 s){what cell:Int}
include h
def uH:∃c t,dC s=kK c::t/\c∈cells s:=by
 have l1:=(YL h).2
 cases e:cells s with
 |nil=>rw[dC,e]at l1;simp at l1
 |cons c t=>exact⟨c,t.map kK,by rw[dC,e];rfl,zaj⟩
def kiK:wD [kG s,.int 0,.int what,.int cell] = .exc 1:=by
 obtain⟨d,hd,e⟩:=Vu (xs:=keu s) (md cell (show 0 < 6 by decide)).1 (md cell (show 0 < 6 by decide)).2;obtain⟨w0,w1⟩:=md what (show 0 < 23 by decide);exact qp (qz (wY (vH rfl (yY h))) (qq (x_t rfl (vI (uO (KS rfl (by decide)) (w_b rfl (KS rfl (by decide)) e) rfl (kbg (kfJ s d hd) (kG s) (kdB h (by decide)) w0 w1))))))
def case1:wD [kG s,.int 1,.int what,.int cell] = .exc 2:=by
 obtain⟨c,t,ec,hc⟩:=uH h;have lc:=yY h;rw[ec]at lc;obtain⟨d,hd,e⟩:=Vu (xs:=kbd c) (md cell (show 0 < 9 by decide)).1 (md cell (show 0 < 9 by decide)).2;obtain⟨d2,_,e2⟩:=Vu (xs:=[.non,.int 3]) (md (cell / 9) (show 0 < 2 by decide)).1 (md (cell / 9) (show 0 < 2 by decide)).2;obtain⟨w0,w1⟩:=md what (show 0 < 3 by decide);refine qp (qz (wY (vH rfl lc)) (qz (vh rfl) (qq (x_t rfl (qz (wY (w_b (x:=.lst (kbd c)) ?_ (KS rfl (by decide)) e)) (vI (QG (KS rfl (by decide)) rfl rfl (w_b rfl (KS (kjg rfl) (by decide)) e2) (kb4 h (kfp h c d hd) w0 w1))))))));have e9:kJ vZ (kJ oIx (kj 4) (cC (.int 0))) (wV (kh (cC (.int 0)) kD)) [some (kG s),some (.int 1),some (.int what),some (.int cell),some (.lst (kK c::t)),none,none] = .ok (.tup [.int c.1,.int c.2,.int 0]):=w_b (kdy rfl) rfl rfl
 rw[Y8,qa,qa,qa,qa,qa,qa,qa,qa,qa];refine Eq.trans (congrArg (λz=>ls (co _ (co _ (co _ (co _ (co _ (co _ (co _ (co _ (co z _))))))))) ) e9) ?_;rfl
def case2:wD [kG s,.int 2,.int what,.int cell] = .exc 3:=by
 obtain⟨d,hd,e⟩:=Vu (xs:=kaH s) (md cell (show 0 < 7 by decide)).1 (md cell (show 0 < 7 by decide)).2;refine qp (qz (wY (vH rfl (yY h))) (qz (vh rfl) (qz (vh rfl) (qq (x_t rfl (qz (wY (x:=.lst [.lst [.tup (dC s),.tup (dC s)],.lst [.tup ((dC s).drop 1)],.tup [.tup (dC s)],.non,.lst [],.lst [.lst (dC s)]]) ?_) (vI (zY rfl (w_b (x:=.lst (kaH s)) rfl (KS rfl (by decide)) e) (kgd h d hd)))))))));have c1:=ki9 (a:=kj 4) (env:=[some (kG s),some (.int 2),some (.int what),some (.int cell),some (.lst (dC s)),none,none]) (l:=dC s) rfl (YL h).2;have e2:=kdv (vH (m:=wR) (r:=.tup ((dC s).drop 1)) c1 rfl);rw[Y8,qa,qa]
 refine Eq.trans (congrArg (λz=>ls (co _ (co z _))) e2) ?_;rfl
def case3:wD [kG s,.int 3,.int what,.int cell] = .exc 4:=by
 obtain⟨c,t,ec,hc⟩:=uH h;have lc:=yY h;rw[ec]at lc;obtain⟨d,hd,e⟩:=Vu (xs:=JL) (md cell (show 0 < 6 by decide)).1 (md cell (show 0 < 6 by decide)).2;obtain⟨d2,hd2,e2⟩:=Vu (xs:=kal) (md cell (show 0 < 6 by decide)).1 (md cell (show 0 < 6 by decide)).2;obtain⟨w0,w1⟩:=md what (show 0 < 9 by decide)
 have cb:zR s (kK c)=true:=by
  show decide (c∈cells s)=true;exact decide_eq_true hc
 refine qp (qz (wY (vH rfl lc)) (qz (vh rfl) (qz (vh rfl) (qz (vh rfl) (qq (x_t rfl (qz (wY (w_b (x:=.lst JL) rfl (KS rfl (by decide)) e)) ?_)))))))
 by_cases q:what % 9 < 7
 ·exact qq (x_t (KZ (w_b (KS rfl (by decide)) rfl (by rw[Jt,decide_eq_true q]))) (vI (QG (KS rfl (by decide)) rfl (kdy rfl) rfl (Up h hd w0 q))))
 ·exact qz (vh (KZ (w_b (KS rfl (by decide)) rfl (ka1 q)))) (vI (QG (w_b (KS rfl (by decide)) rfl rfl) rfl (kdy rfl) (w_b (x:=.lst kal) rfl (KS rfl (by decide)) e2) (ka8 h cb (kfY d2 hd2) (by omega) (by omega))))
def case4:wD [kG s,.int 4,.int what,.int cell] = .exc 5:=by
 obtain⟨d,hd,e⟩:=Vu (xs:=ZO) (md cell (show 0 < 9 by decide)).1 (md cell (show 0 < 9 by decide)).2;obtain⟨w0,w1⟩:=md what (show 0 < 2 by decide);refine qp (qz (wY (vH rfl (yY h))) (qz (vh rfl) (qz (vh rfl) (qz (vh rfl) (qz (vh rfl) (qz (wY (w_b (x:=.lst ZO) rfl (KS rfl (by decide)) e)) (vI ?_)))))));have:what % 2=0∨what % 2=1:=by omega
 have em:=KS (a:=kj 2) (j:=2) (env:=[some (kG s),some (.int 4),some (.int what),some (.int cell),some (.lst (dC s)),some d,none]) rfl (by decide)
 rcases this with q | q <;> rw[q]at em
 ·exact wO (j:=0) em rfl rfl (US h hd)
 ·exact wO (j:=1) em rfl rfl (khl h hd)
end
def khr (ns:List Int)(_:ns.length<=63):Wn [.lsf (ns.map .int)] = .ok (.bl true):=by
 obtain⟨s,es,h⟩:=kbz ns 4 6 (by decide) (by decide);have e0:=Km ns 0 5 (by decide) (by decide);have e1:=Km ns 1 414 (by decide) (by decide);have e2:=Km ns 2 1000000 (by decide) (by decide);have k0:=Vk ns 0 (show (0:Int) < 5 by decide);have k1:=Vf ns 0 (show (0:Int) < 5 by decide);generalize mixed ns 0 5=kind at *;refine KY (vJ (wY (zw rfl rfl rfl es)) (vJ (wY (zw rfl rfl rfl e0)) (JM ?_)))
 have go:∀ (k:Nat) (r:FE),r [some (dI ns),some (kG s),some (.int k),none,none] = .exc (k+1)->k < 5->L3.Je 2 r [some (dI ns),some (kG s),some (.int k),none,none] = .ok (.ret (.bl true)):=λk r hr hk=>by
  unfold L3.Je;rw[hr];show (if 1<=k+1/\k+1 < 6/\(k:Int)=((k+1:Nat):Int) - 1 then Rs.ok (Out.ret (D.bl true)) else .stuck)=_;rw[if_pos ⟨by omega,by omega,by omega⟩]
 have:kind=0∨kind=1∨kind=2∨kind=3∨kind=4:=by omega
 rcases this with rfl | rfl | rfl | rfl | rfl
 ·exact go 0 _ (QG rfl rfl (zw rfl rfl rfl e1) (zw rfl rfl rfl e2) (kiK h)) (by decide)
 ·exact go 1 _ (QG rfl rfl (zw rfl rfl rfl e1) (zw rfl rfl rfl e2) (case1 h)) (by decide)
 ·exact go 2 _ (QG rfl rfl (zw rfl rfl rfl e1) (zw rfl rfl rfl e2) (case2 h)) (by decide)
 ·exact go 3 _ (QG rfl rfl (zw rfl rfl rfl e1) (zw rfl rfl rfl e2) (case3 h)) (by decide)
 ·exact go 4 _ (QG rfl rfl (zw rfl rfl rfl e1) (zw rfl rfl rfl e2) (case4 h)) (by decide)
end G
namespace G
open PySem PySem.Spec PyProof.Rows L2 L3
open P (D Rs Out)
def top (i:Nat):Stmt:=PySem.Challenge.pw_stampsheet_k15_refused.main.body.getD i (.Pass ⟨0,0,0,0⟩)
structure Txt (K:zFr)(mg:Str->Option Value):Prop where
 b_ValueError:mg "ValueError" = none
 b_all:mg "all" = none
 b_any:mg "any" = none
 b_bool:mg "bool" = none
 b_enumerate:mg "enumerate" = none
 b_int:mg "int" = none
 b_isinstance:mg "isinstance" = none
 b_len:mg "len" = none
 b_list:mg "list" = none
 b_min:mg "min" = none
 b_range:mg "range" = none
 b_reversed:mg "reversed" = none
 b_sorted:mg "sorted" = none
 b_tuple:mg "tuple" = none
 b_zip:mg "zip" = none
 g_MOST_COLUMNS:∃t,mg "MOST_COLUMNS" = some (.int 5 t)
 g_MOST_ROWS:∃t,mg "MOST_ROWS" = some (.int 5 t)
 g_MOST_STAMPS:∃t,mg "MOST_STAMPS" = some (.int 12 t)
 g_MOST_STRIP_STAMPS:∃t,mg "MOST_STRIP_STAMPS" = some (.int 4 t)
 g_MOST_WANTS:∃t,mg "MOST_WANTS" = some (.int 12 t)
 g_MOST_WORTH:∃t,mg "MOST_WORTH" = some (.int 9999 t)
structure Xs (K:zFr)(mg:Str->Option Value)(ca:Nat->Addr):Prop where
 m_SheetError:mg "SheetError" = some (.ref (ca 0))
 m_NoSheet:mg "NoSheet" = some (.ref (ca 1))
 m_NoCell:mg "NoCell" = some (.ref (ca 2))
 m_NoPiece:mg "NoPiece" = some (.ref (ca 3))
 m_NoNumber:mg "NoNumber" = some (.ref (ca 4))
 m_NoWants:mg "NoWants" = some (.ref (ca 5))
 m_NoText:mg "NoText" = some (.ref (ca 6))
 e_NoCell:zS K (ca 2)
 e_NoNumber:zS K (ca 4)
 e_NoPiece:zS K (ca 3)
 e_NoSheet:zS K (ca 1)
 e_NoWants:zS K (ca 5)
 k_NoCell_NoCell:PySem.W.kitOne K (.ref (ca 2)) (.ref (ca 2))=some true
 k_NoCell_NoNumber:PySem.W.kitOne K (.ref (ca 2)) (.ref (ca 4))=some false
 k_NoCell_NoPiece:PySem.W.kitOne K (.ref (ca 2)) (.ref (ca 3))=some false
 k_NoCell_NoSheet:PySem.W.kitOne K (.ref (ca 2)) (.ref (ca 1))=some false
 k_NoCell_NoText:PySem.W.kitOne K (.ref (ca 2)) (.ref (ca 6))=some false
 k_NoCell_NoWants:PySem.W.kitOne K (.ref (ca 2)) (.ref (ca 5))=some false
 k_NoCell_ValueError:PySem.W.kitOne K (.ref (ca 2)) (.type "ValueError")=some true
 k_NoNumber_NoCell:PySem.W.kitOne K (.ref (ca 4)) (.ref (ca 2))=some false
 k_NoNumber_NoNumber:PySem.W.kitOne K (.ref (ca 4)) (.ref (ca 4))=some true
 k_NoNumber_NoPiece:PySem.W.kitOne K (.ref (ca 4)) (.ref (ca 3))=some false
 k_NoNumber_NoSheet:PySem.W.kitOne K (.ref (ca 4)) (.ref (ca 1))=some false
 k_NoNumber_NoText:PySem.W.kitOne K (.ref (ca 4)) (.ref (ca 6))=some false
 k_NoNumber_NoWants:PySem.W.kitOne K (.ref (ca 4)) (.ref (ca 5))=some false
 k_NoNumber_ValueError:PySem.W.kitOne K (.ref (ca 4)) (.type "ValueError")=some true
 k_NoPiece_NoCell:PySem.W.kitOne K (.ref (ca 3)) (.ref (ca 2))=some false
 k_NoPiece_NoNumber:PySem.W.kitOne K (.ref (ca 3)) (.ref (ca 4))=some false
 k_NoPiece_NoPiece:PySem.W.kitOne K (.ref (ca 3)) (.ref (ca 3))=some true
 k_NoPiece_NoSheet:PySem.W.kitOne K (.ref (ca 3)) (.ref (ca 1))=some false
 k_NoPiece_NoText:PySem.W.kitOne K (.ref (ca 3)) (.ref (ca 6))=some false
 k_NoPiece_NoWants:PySem.W.kitOne K (.ref (ca 3)) (.ref (ca 5))=some false
 k_NoPiece_ValueError:PySem.W.kitOne K (.ref (ca 3)) (.type "ValueError")=some true
 k_NoSheet_NoCell:PySem.W.kitOne K (.ref (ca 1)) (.ref (ca 2))=some false
 k_NoSheet_NoNumber:PySem.W.kitOne K (.ref (ca 1)) (.ref (ca 4))=some false
 k_NoSheet_NoPiece:PySem.W.kitOne K (.ref (ca 1)) (.ref (ca 3))=some false
 k_NoSheet_NoSheet:PySem.W.kitOne K (.ref (ca 1)) (.ref (ca 1))=some true
 k_NoSheet_NoText:PySem.W.kitOne K (.ref (ca 1)) (.ref (ca 6))=some false
 k_NoSheet_NoWants:PySem.W.kitOne K (.ref (ca 1)) (.ref (ca 5))=some false
 k_NoSheet_ValueError:PySem.W.kitOne K (.ref (ca 1)) (.type "ValueError")=some true
 k_NoWants_NoCell:PySem.W.kitOne K (.ref (ca 5)) (.ref (ca 2))=some false
 k_NoWants_NoNumber:PySem.W.kitOne K (.ref (ca 5)) (.ref (ca 4))=some false
 k_NoWants_NoPiece:PySem.W.kitOne K (.ref (ca 5)) (.ref (ca 3))=some false
 k_NoWants_NoSheet:PySem.W.kitOne K (.ref (ca 5)) (.ref (ca 1))=some false
 k_NoWants_NoText:PySem.W.kitOne K (.ref (ca 5)) (.ref (ca 6))=some false
 k_NoWants_NoWants:PySem.W.kitOne K (.ref (ca 5)) (.ref (ca 5))=some true
 k_NoWants_ValueError:PySem.W.kitOne K (.ref (ca 5)) (.type "ValueError")=some true
 u_SheetError:PySem.W.ktsIn K (ca 0) "BaseException" = true
 w_NoSheet:PySem.W.mroIn K (ca 1) (.ref (ca 0))=some true
 w_NoCell:PySem.W.mroIn K (ca 2) (.ref (ca 0))=some true
 w_NoPiece:PySem.W.mroIn K (ca 3) (.ref (ca 0))=some true
 w_NoNumber:PySem.W.mroIn K (ca 4) (.ref (ca 0))=some true
 w_NoWants:PySem.W.mroIn K (ca 5) (.ref (ca 0))=some true
section
variable {PP:Program}{w:World}{K:zFr}{mg:Str->Option Value}{base:Heap}{cls:Nat->Value}{ca:Nat->Addr}
abbrev zE:Stmt:=top 86
def uR:kQ ["_law_script","_law_k"] ["_law_script","_law_k"] (kL zE):=⟨rfl,rfl,rfl,by decide +kernel,rfl,by decide +kernel,by decide +kernel⟩
def JW {f:Addr}{fd:FuncData}(T:Txt K mg)(C:Fn1 K mg "_law_cell_at" zE ["_law_script","_law_k"] f fd)(XS:Xs K mg ca) :
 Fk PP w K mg base (CL ca) "_law_cell_at" zE ["_law_script","_law_k"] 1 zC:=by
 have sc:=uR;refine fk C (qh (qf (k:=0) (fb:=λenv=>(Qj env).nx) C.F sc [false,false] (by decide) λcdv A outer s H E Ah hr=>qV ?_) (v7 Qj));have hu:=hr.units
 exact (kC (qe (qo (yu hu) yT (ko (i:=1)) (qj qM T.b_len (by kernel_rfl) (kg (ko (i:=0)) ki)))
  (kH (kN (qx (ko (i:=0)) (ko (i:=1)))))
  kU)
  (kC (qe (qo (wB hu) x9 (ko (i:=0)) (qF.s (k6 ki)))
  (kH (kN ku))
  kU)
  (kH (kN (Snd.any (kO vp (Snd.any (kO Kh (qx (ko (i:=0)) (Snd.any (kO vn (ko (i:=1)) (qj qM T.b_len (by kernel_rfl) (kg (ko (i:=0)) ki))))) ku)) (ko (i:=1))))))))
abbrev Kf:Stmt:=top 87
def ka0:kQ ["_law_script","_law_k","_law_many","_law_drawn"] ["_law_script","_law_k","_law_many"] (kL Kf):=⟨rfl,rfl,rfl,by decide +kernel,rfl,by decide +kernel,by decide +kernel⟩
def kam {f:Addr}{fd:FuncData}(T:Txt K mg)(C:Fn1 K mg "_law_mixed" Kf ["_law_script","_law_k","_law_many"] f fd)(XS:Xs K mg ca)(c_l_cell_at:Fk PP w K mg base (CL ca) "_law_cell_at" zE ["_law_script","_law_k"] 1 zC) :
 Fk PP w K mg base (CL ca) "_law_mixed" Kf ["_law_script","_law_k","_law_many"] 2 vO:=by
 have sc:=ka0;refine fk C (qh (qf (k:=1) (fb:=λenv=>(VH env).nx) C.F sc [false,false,false,false] (by decide) λcdv A outer s H E Ah hr=>qV ?_) (v7 VH));have hu:=hr.units
 exact (kC (qL (i:=3) sc.nd (Snd.any (kO vn (Snd.any (kO Kh (Snd.any (kO vp (Snd.any (kO vp (qu c_l_cell_at hr (kg (kr (i:=0)) (kg (kr (i:=1)) ki))) (Snd.any (kO Kh ku (ko (i:=1)))))) ku)) ku)) ku)))
  (kH (kN (Snd.any (kO vn (Snd.any (kO vn (Snd.any (kO vp (Snd.any (kO vp (Snd.any (kO Kh (ko (i:=3)) (ko (i:=3)))) (Snd.any (kO Kh ku (ko (i:=3)))))) (ko (i:=1)))) ku)) (ko (i:=2)))))))
abbrev Qy:Stmt:=top 88
def ka7:kQ ["_law_script","_law_at","_law_most","_law_rows","_law_columns","_law_top","_law_holes","_law_left","_law_made","_law_row","_law_places","_law_column","_law_cell","_law_place"] ["_law_script","_law_at","_law_most"] (kL Qy):=⟨rfl,rfl,rfl,by decide +kernel,rfl,by decide +kernel,by decide +kernel⟩
def kav {f:Addr}{fd:FuncData}(T:Txt K mg)(C:Fn1 K mg "_law_sheet" Qy ["_law_script","_law_at","_law_most"] f fd)(XS:Xs K mg ca)(c_l_mixed:Fk PP w K mg base (CL ca) "_law_mixed" Kf ["_law_script","_law_k","_law_many"] 2 vO) :
 Fk PP w K mg base (CL ca) "_law_sheet" Qy ["_law_script","_law_at","_law_most"] 3 Qu:=by
 have sc:=ka7;refine fk C (qh (qf (k:=2) (fb:=λenv=>(VL env).nx) C.F sc [false,false,false,false,false,false,false,false,true,false,true,false,false,false] (by decide) λcdv A outer s H E Ah hr=>qV ?_) (v7 VL));have hu:=hr.units
 exact (kC (qL (i:=3) sc.nd (Snd.any (kO vp ku (qu c_l_mixed hr (kg (kr (i:=0)) (kg (kr (i:=1)) (kg ku ki)))))))
  (kC (qL (i:=4) sc.nd (Snd.any (kO vp ku (qu c_l_mixed hr (kg (kr (i:=0)) (kg (Snd.any (kO vp (ko (i:=1)) ku)) (kg ku ki)))))))
  (kC (qL (i:=5) sc.nd (qx (qF.s (k6 (kg ku (kg ku (kg ku (kg ku (kg ku ki))))))) (qu c_l_mixed hr (kg (kr (i:=0)) (kg (Snd.any (kO vp (ko (i:=1)) ku)) (kg ku ki))))))
  (kC (qL (i:=6) sc.nd (qu c_l_mixed hr (kg (kr (i:=0)) (kg (Snd.any (kO vp (ko (i:=1)) ku)) (kg ku ki)))))
  (kC (qL (i:=7) sc.nd (kr (i:=2)))
  (kC (ym (i:=8) sc.nd (k6 ki))
  (kC (yx (is:=[9]) PassesOwn.never rfl (yz (ko (i:=3)) T.b_range) (qZ (i:=9) sc.nd)
  (kC (ym (i:=10) sc.nd (k6 ki))
  (kC (yx (is:=[11]) PassesOwn.never rfl (yz (ko (i:=4)) T.b_range) (qZ (i:=11) sc.nd)
  (kC (qL (i:=12) sc.nd (qu c_l_mixed hr (kg (kr (i:=0)) (kg (Snd.any (kO vp (Snd.any (kO vp (Snd.any (kO vp (ko (i:=1)) ku)) (Snd.any (kO Kh (ko (i:=4)) (ko (i:=9)))))) (ko (i:=11)))) (kg (Snd.any (kO Kh ku (ko (i:=5)))) ki)))))
  (kC (qL (i:=13) sc.nd (Snd.any (kO vp ku (Snd.any (kO kag (ko (i:=12)) ku)))))
  (kC (qe (yF.t (zd (qo (wB hu) x9 (ko (i:=7)) ku) (yS (yF.t (uu (qo (yu hu) yT (Snd.any (kO vn (ko (i:=12)) ku)) (ko (i:=6))) (jr (yF.t (zd (qo (yu hu) yT (ko (i:=7)) (ko (i:=2))) (zd (qo (yu hu) yT (Snd.any (kO vp (ko (i:=9)) ku)) (ko (i:=3))) (yS (qo (yu hu) yT (Snd.any (kO vp (ko (i:=11)) ku)) (ko (i:=4)))))))))))))
  (kH (qL (i:=13) sc.nd vt))
  (kH (qL (i:=7) sc.nd (Snd.any (kO Kn (ko (i:=7)) ku)))))
  (kH (K0 (i:=10) (kr (i:=13))))))))
  (kH (K0 (i:=8) (vC vP T.b_tuple (by kernel_rfl) (kg (ko (i:=10)) ki)))))))
  (kH (kN (vC vP T.b_tuple (by kernel_rfl) (kg (ko (i:=8)) ki)))))))))))
abbrev Qo:Stmt:=top 89
def kaT:kQ ["_law_sheet_here","_law_found","_law_row","_law_column"] ["_law_sheet_here"] (kL Qo):=⟨rfl,rfl,rfl,by decide +kernel,rfl,by decide +kernel,by decide +kernel⟩
def kaL {f:Addr}{fd:FuncData}(T:Txt K mg)(C:Fn1 K mg "_law_cells" Qo ["_law_sheet_here"] f fd)(XS:Xs K mg ca) :
 Fk PP w K mg base (CL ca) "_law_cells" Qo ["_law_sheet_here"] 1 VQ:=by
 have sc:=kaT;refine fk C (qh (qf (k:=0) (fb:=λenv=>(WZ env).nx) C.F sc [false,true,false,false] (by decide) λcdv A outer s H E Ah hr=>qV ?_) (v7 WZ));have hu:=hr.units
 exact (kC (ym (i:=1) sc.nd (k6 ki))
  (kC (yx (is:=[2]) PassesOwn.never rfl (yz (qj qM T.b_len (by kernel_rfl) (kg (ko (i:=0)) ki)) T.b_range) (qZ (i:=2) sc.nd)
  (kH (yx (is:=[3]) PassesOwn.never rfl (yz (qj qM T.b_len (by kernel_rfl) (kg (qx (ko (i:=0)) (ko (i:=2))) ki)) T.b_range) (qZ (i:=3) sc.nd)
  (kH (qe (jo (qx (qx (ko (i:=0)) (ko (i:=2))) (ko (i:=3))))
  (kH (K0 (i:=1) (vq (kg (kr (i:=2)) (kg (kr (i:=3)) ki)))))
  kU)))))
  (kH (Wq (i:=1)))))
abbrev wM:Stmt:=top 19
def ZJ:kQ ["sheet","cells","row","places","column","place"] ["sheet"] (kL wM):=⟨rfl,rfl,rfl,by decide +kernel,rfl,by decide +kernel,by decide +kernel⟩
def Z6 {f:Addr}{fd:FuncData}(T:Txt K mg)(C:Fn1 K mg "stamp_cells" wM ["sheet"] f fd)(XS:Xs K mg ca) :
 Fk PP w K mg base (CL ca) "stamp_cells" wM ["sheet"] 1 vL:=by
 have sc:=ZJ;refine fk C (qh (qf (k:=0) (fb:=λenv=>(zN env).nx) C.F sc [false,true,false,false,false,false] (by decide) λcdv A outer s H E Ah hr=>qV ?_) (v7 zN));have hu:=hr.units
 exact (kC (ym (i:=1) sc.nd (k6 ki))
  (kC (yx (is:=[2,3]) PassesOwn.never rfl (jD (kr (i:=0)) T.b_enumerate) (YA rfl (zk (i:=2) sc.nd (zk (i:=3) sc.nd Xb)))
  (kH (yx (is:=[4,5]) PassesOwn.never rfl (jD (kr (i:=3)) T.b_enumerate) (YA rfl (zk (i:=4) sc.nd (zk (i:=5) sc.nd Xb)))
  (kH (qe (jo (ko (i:=5)))
  (kH (K0 (i:=1) (vq (kg (kr (i:=2)) (kg (kr (i:=4)) ki)))))
  kU)))))
  (kH (Wq (i:=1)))))
abbrev vU:Stmt:=top 1
def YE:kQ ["thing","lowest"] ["thing","lowest"] (kL vU):=⟨rfl,rfl,rfl,by decide +kernel,rfl,by decide +kernel,by decide +kernel⟩
def X6 {f:Addr}{fd:FuncData}(T:Txt K mg)(C:Fn1 K mg "is_whole_from" vU ["thing","lowest"] f fd)(XS:Xs K mg ca) :
 Fk PP w K mg base (CL ca) "is_whole_from" vU ["thing","lowest"] 1 vm:=by
 have sc:=YE;refine fk C (qh (qf (k:=0) (fb:=λenv=>(yK env).nx) C.F sc [false,false] (by decide) λcdv A outer s H E Ah hr=>qV ?_) (v7 yK));have hu:=hr.units
 exact (kC (qe (yF.t (zd (qA (Ke kdn (ko (i:=0)) T.b_isinstance T.b_bool)) (yS (qB (qA (Ke kgc (ko (i:=0)) T.b_isinstance T.b_int))))))
  (kH (kN vN))
  kU)
  (kH (kN (Snd.any (Ko zH (ko (i:=1)) (ko (i:=0)))))))
abbrev wW:Stmt:=top 2
def Uu:kQ ["thing","lowest","highest"] ["thing","lowest","highest"] (kL wW):=⟨rfl,rfl,rfl,by decide +kernel,rfl,by decide +kernel,by decide +kernel⟩
def Ur {f:Addr}{fd:FuncData}(T:Txt K mg)(C:Fn1 K mg "is_whole" wW ["thing","lowest","highest"] f fd)(XS:Xs K mg ca)(c_is_whole_from:Fk PP w K mg base (CL ca) "is_whole_from" vU ["thing","lowest"] 1 vm) :
 Fk PP w K mg base (CL ca) "is_whole" wW ["thing","lowest","highest"] 2 qH:=by
 have sc:=Uu;refine fk C (qh (qf (k:=1) (fb:=λenv=>(Q0 env).nx) C.F sc [false,false,false] (by decide) λcdv A outer s H E Ah hr=>qV ?_) (v7 Q0));have hu:=hr.units;exact (kH (kN (snd_and (qu c_is_whole_from hr (kg (kr (i:=0)) (kg (kr (i:=1)) ki))) (ZK (Snd.any (Ko zH (ko (i:=0)) (ko (i:=2))))))))
abbrev Ku:Stmt:=top 16
def Ui:kQ ["thing"] ["thing"] (kL Ku):=⟨rfl,rfl,rfl,by decide +kernel,rfl,by decide +kernel,by decide +kernel⟩
def Um {f:Addr}{fd:FuncData}(T:Txt K mg)(C:Fn1 K mg "is_place" Ku ["thing"] f fd)(XS:Xs K mg ca)(c_is_whole:Fk PP w K mg base (CL ca) "is_whole" wW ["thing","lowest","highest"] 2 qH) :
 Fk PP w K mg base (CL ca) "is_place" Ku ["thing"] 3 zu:=by
 have sc:=Ui;refine fk C (qh (qf (k:=2) (fb:=λenv=>(QX env).nx) C.F sc [false] (by decide) λcdv A outer s H E Ah hr=>qV ?_) (v7 QX));have hu:=hr.units;exact (kH (kN (kgI (Snd.any (kfW (ko (i:=0)))) (ZK (qu c_is_whole hr (kg (kr (i:=0)) (kg ku (kg (yo T.g_MOST_WORTH.choose_spec) ki))))))))
abbrev Vz:Stmt:=top 17
def kcI:kQ ["thing"] ["thing"] (kL Vz):=⟨rfl,rfl,rfl,by decide +kernel,rfl,by decide +kernel,by decide +kernel⟩
def kbL {f:Addr}{fd:FuncData}(T:Txt K mg)(C:Fn1 K mg "is_row" Vz ["thing"] f fd)(XS:Xs K mg ca)(c_is_place:Fk PP w K mg base (CL ca) "is_place" Ku ["thing"] 3 zu) :
 Fk PP w K mg base (CL ca) "is_row" Vz ["thing"] 4 Qg:=by
 have sc:=kcI;refine fk C (qh (qf (k:=3) (fb:=λenv=>(Wh env).nx) C.F sc [false] (by decide) λcdv A outer s H E Ah hr=>qV ?_) (v7 Wh));have hu:=hr.units
 exact (kC (qe (yF.t (zd (qB (qA (Ke VF (ko (i:=0)) T.b_isinstance T.b_tuple))) (yS (qB (Wm zH zH Vv Vv ku (qj qM T.b_len (by kernel_rfl) (kg (ko (i:=0)) ki)) (yo T.g_MOST_COLUMNS.choose_spec))))))
  (kH (kN vN))
  kU)
  (kH (kN (qj (Kg rfl) T.b_all (by kernel_rfl) (kg (qF.s (wJ (ns:=["place"]) (free:=[]) (pick:=[]) (is:=[0]) (vK.of (qs.nox (qs.fn sc)) rfl (by kernel_rfl) .nil (by decide +kernel)) rfl (by decide) (by decide) (wQ (ko (i:=0))) (λ_ _ _ _ _=>(qZ (i:=0) (show (["place"]:List Str).Nodup from by decide +kernel))) (λ_ _ _ _ _=>wC) (λ_ _ _ _ _=>(qu c_is_place hr (kg (kr (i:=0)) ki))))) ki)))))
abbrev KG:Stmt:=top 18
def Ut:kQ ["thing"] ["thing"] (kL KG):=⟨rfl,rfl,rfl,by decide +kernel,rfl,by decide +kernel,by decide +kernel⟩
def UG {f:Addr}{fd:FuncData}(T:Txt K mg)(C:Fn1 K mg "is_sheet" KG ["thing"] f fd)(XS:Xs K mg ca)(c_is_row:Fk PP w K mg base (CL ca) "is_row" Vz ["thing"] 4 Qg)(c_stamp_cells:Fk PP w K mg base (CL ca) "stamp_cells" wM ["sheet"] 1 vL) :
 Fk PP w K mg base (CL ca) "is_sheet" KG ["thing"] 5 xP:=by
 have sc:=Ut;refine fk C (qh (qf (k:=4) (fb:=λenv=>(QT env).nx) C.F sc [false] (by decide) λcdv A outer s H E Ah hr=>qV ?_) (v7 QT));have hu:=hr.units
 exact (kC (qe (yF.t (zd (qB (qA (Ke VF (ko (i:=0)) T.b_isinstance T.b_tuple))) (yS (qB (Wm zH zH Vv Vv ku (qj qM T.b_len (by kernel_rfl) (kg (ko (i:=0)) ki)) (yo T.g_MOST_ROWS.choose_spec))))))
  (kH (kN vN))
  kU)
  (kC (qe (qB (qA (qj (Kg rfl) T.b_all (by kernel_rfl) (kg (qF.s (wJ (ns:=["row"]) (free:=[]) (pick:=[]) (is:=[0]) (vK.of (qs.nox (qs.fn sc)) rfl (by kernel_rfl) .nil (by decide +kernel)) rfl (by decide) (by decide) (wQ (ko (i:=0))) (λ_ _ _ _ _=>(qZ (i:=0) (show (["row"]:List Str).Nodup from by decide +kernel))) (λ_ _ _ _ _=>wC) (λ_ _ _ _ _=>(qu c_is_row hr (kg (kr (i:=0)) ki))))) ki))))
  (kH (kN vN))
  kU)
  (kC (qe (qA (qj (kb8 rfl) T.b_any (by kernel_rfl) (kg (qF.s (wJ (ns:=["row"]) (free:=["thing"]) (pick:=[0]) (is:=[0]) (vK.of (qs.nox (qs.fn sc)) rfl (by kernel_rfl) (.cons ⟨rfl,rfl⟩ .nil) (by decide +kernel)) rfl (by decide) (by decide) (wQ (ko (i:=0))) (λ_ _ _ _ _=>(qZ (i:=0) (show (["row","thing"]:List Str).Nodup from by decide +kernel))) (λ_ _ _ _ _=>wC) (λ_ _ _ _ _=>(Snd.any (Ko (kbw hu) (qj qM T.b_len (by kernel_rfl) (kg (ko (i:=0)) ki)) (qj qM T.b_len (by kernel_rfl) (kg (qx (ko (i:=1)) ku) ki))))))) ki)))
  (kH (kN vN))
  kU)
  (kH (kN (Snd.any (kbF zH zH Vv ku (qj qM T.b_len (by kernel_rfl) (kg (qu c_stamp_cells hr (kg (kr (i:=0)) ki)) ki)) (yo T.g_MOST_STAMPS.choose_spec))))))))
abbrev qP:Stmt:=top 22
def kbh:kQ ["sheet"] ["sheet"] (kL qP):=⟨rfl,rfl,rfl,by decide +kernel,rfl,by decide +kernel,by decide +kernel⟩
def Uk {f:Addr}{fd:FuncData}(T:Txt K mg)(C:Fn1 K mg "checked" qP ["sheet"] f fd)(XS:Xs K mg ca)(c_is_sheet:Fk PP w K mg base (CL ca) "is_sheet" KG ["thing"] 5 xP) :
 FkX PP w K mg base (CL ca) "checked" qP ["sheet"] 6 kW:=by
 have sc:=kbh;refine fkx C (qh (qf (k:=5) (fb:=VO) C.F sc [false] (by decide) λcdv A outer s H E Ah hr=>?_) (qX VO));have hu:=hr.units
 exact (kC (qe (qB (qA (qu c_is_sheet hr (kg (kr (i:=0)) ki))))
  (kH (wZ (c:=1) XS.m_NoSheet rfl XS.e_NoSheet.ex))
  kU)
  (kH (kN (kr (i:=0)))))
abbrev zX:Stmt:=top 23
def kcm:kQ ["sheet"] ["sheet"] (kL zX):=⟨rfl,rfl,rfl,by decide +kernel,rfl,by decide +kernel,by decide +kernel⟩
def kaV {f:Addr}{fd:FuncData}(T:Txt K mg)(C:Fn1 K mg "stamps" zX ["sheet"] f fd)(XS:Xs K mg ca)(c_stamp_cells:Fk PP w K mg base (CL ca) "stamp_cells" wM ["sheet"] 1 vL)(cx_checked:FkX PP w K mg base (CL ca) "checked" qP ["sheet"] 6 kW) :
 FkX PP w K mg base (CL ca) "stamps" zX ["sheet"] 7 za:=by
 have sc:=kcm;refine fkx C (qh (qf (k:=6) (fb:=WD) C.F sc [false] (by decide) λcdv A outer s H E Ah hr=>?_) (qX WD));have hu:=hr.units;exact (kH (kN (qu c_stamp_cells hr (kg (qd cx_checked hr (kT.passes kI rfl) (kg (kr (i:=0)) ki)) ki))))
abbrev Qe:Stmt:=top 34
def kbJ:kQ ["sheet","many"] ["sheet"] (kL Qe):=⟨rfl,rfl,rfl,by decide +kernel,rfl,by decide +kernel,by decide +kernel⟩
def kaX {f:Addr}{fd:FuncData}(T:Txt K mg)(C:Fn1 K mg "counts" Qe ["sheet"] f fd)(XS:Xs K mg ca)(cx_stamps:FkX PP w K mg base (CL ca) "stamps" zX ["sheet"] 7 za) :
 FkX PP w K mg base (CL ca) "counts" Qe ["sheet"] 8 VJ:=by
 have sc:=kbJ;refine fkx C (qh (qf (k:=7) (fb:=WA) C.F sc [false,false] (by decide) λcdv A outer s H E Ah hr=>?_) (qX WA));have hu:=hr.units
 exact (kC (qL (i:=1) sc.nd (qj qM T.b_len (by kernel_rfl) (kg (qd cx_stamps hr (kT.passes kI rfl) (kg (kr (i:=0)) ki)) ki)))
  qY)
abbrev vz:Stmt:=top 27
def XI:kQ ["number"] ["number"] (kL vz):=⟨rfl,rfl,rfl,by decide +kernel,rfl,by decide +kernel,by decide +kernel⟩
def W7 {f:Addr}{fd:FuncData}(T:Txt K mg)(C:Fn1 K mg "checked_number" vz ["number"] f fd)(XS:Xs K mg ca)(c_is_whole:Fk PP w K mg base (CL ca) "is_whole" wW ["thing","lowest","highest"] 2 qH) :
 FkX PP w K mg base (CL ca) "checked_number" vz ["number"] 3 qS:=by
 have sc:=XI;refine fkx C (qh (qf (k:=2) (fb:=yp) C.F sc [false] (by decide) λcdv A outer s H E Ah hr=>?_) (qX yp));have hu:=hr.units
 exact (kC (qe (qB (qA (qu c_is_whole hr (kg (kr (i:=0)) (kg ku (kg (yo T.g_MOST_STAMPS.choose_spec) ki))))))
  (kH (wZ (c:=4) XS.m_NoNumber rfl XS.e_NoNumber.ex))
  kU)
  (kH (kN (kr (i:=0)))))
abbrev yi:Stmt:=top 33
def kbS:kQ ["sheet","most","ordered","same"] ["sheet","most"] (kL yi):=⟨rfl,rfl,rfl,by decide +kernel,rfl,by decide +kernel,by decide +kernel⟩
def kay {f:Addr}{fd:FuncData}(T:Txt K mg)(C:Fn1 K mg "pieces" yi ["sheet","most"] f fd)(XS:Xs K mg ca)(cx_checked:FkX PP w K mg base (CL ca) "checked" qP ["sheet"] 6 kW)(cx_checked_number:FkX PP w K mg base (CL ca) "checked_number" vz ["number"] 3 qS) :
 FkX PP w K mg base (CL ca) "pieces" yi ["sheet","most"] 7 wF:=by
 have sc:=kbS;refine fkx C (qh (qf (k:=6) (fb:=We) C.F sc [false,false,true,false] (by decide) λcdv A outer s H E Ah hr=>?_) (qX We));have hu:=hr.units
 exact (kC (vg (w:=false) (qd cx_checked hr (kT.passes kI rfl) (kg (kr (i:=0)) ki)))
  (kC (vg (w:=false) (qd cx_checked_number hr (kT.passes kI rfl) (kg (kr (i:=1)) ki)))
  qY))
abbrev zg:Stmt:=top 44
def Ug:kQ ["sheet","every","cells","missing"] ["sheet"] (kL zg):=⟨rfl,rfl,rfl,by decide +kernel,rfl,by decide +kernel,by decide +kernel⟩
def uF {f:Addr}{fd:FuncData}(T:Txt K mg)(C:Fn1 K mg "needless" zg ["sheet"] f fd)(XS:Xs K mg ca)(cx_pieces:FkX PP w K mg base (CL ca) "pieces" yi ["sheet","most"] 7 wF) :
 FkX PP w K mg base (CL ca) "needless" zg ["sheet"] 8 Qk:=by
 have sc:=Ug;refine fkx C (qh (qf (k:=7) (fb:=QW) C.F sc [false,false,false,false] (by decide) λcdv A outer s H E Ah hr=>?_) (qX QW));have hu:=hr.units
 exact (kC (qL (i:=1) sc.nd (qd cx_pieces hr (kT.passes kI rfl) (kg (kr (i:=0)) (kg (yo T.g_MOST_STAMPS.choose_spec) ki))))
  qY)
abbrev wc:Stmt:=top 77
def Wz:kQ ["sheet","column"] ["sheet","column"] (kL wc):=⟨rfl,rfl,rfl,by decide +kernel,rfl,by decide +kernel,by decide +kernel⟩
def WB {f:Addr}{fd:FuncData}(T:Txt K mg)(C:Fn1 K mg "column_from_below" wc ["sheet","column"] f fd)(XS:Xs K mg ca) :
 Fk PP w K mg base (CL ca) "column_from_below" wc ["sheet","column"] 1 xA:=by
 have sc:=Wz;refine fk C (qh (qf (k:=0) (fb:=λenv=>(yD env).nx) C.F sc [false,false] (by decide) λcdv A outer s H E Ah hr=>qV ?_) (v7 yD));have hu:=hr.units;exact (kH (kN (vC vP T.b_tuple (by kernel_rfl) (kg (qF.s (wJ (ns:=["row"]) (free:=["column"]) (pick:=[1]) (is:=[0]) (vK.of (qs.nox (qs.fn sc)) rfl (by kernel_rfl) (.cons ⟨rfl,rfl⟩ .nil) (by decide +kernel)) rfl (by decide) (by decide) (kdL (ko (i:=0)) T.b_reversed) (λ_ _ _ _ _=>(qZ (i:=0) (show (["row","column"]:List Str).Nodup from by decide +kernel))) (λ_ _ _ _ _=>wC) (λ_ _ _ _ _=>(qx (ko (i:=0)) (ko (i:=1)))))) ki))))
abbrev zV:Stmt:=top 78
def kcG:kQ ["sheet"] ["sheet"] (kL zV):=⟨rfl,rfl,rfl,by decide +kernel,rfl,by decide +kernel,by decide +kernel⟩
def kaO {f:Addr}{fd:FuncData}(T:Txt K mg)(C:Fn1 K mg "turned" zV ["sheet"] f fd)(XS:Xs K mg ca)(c_column_from_below:Fk PP w K mg base (CL ca) "column_from_below" wc ["sheet","column"] 1 xA)(cx_checked:FkX PP w K mg base (CL ca) "checked" qP ["sheet"] 6 kW) :
 FkX PP w K mg base (CL ca) "turned" zV ["sheet"] 7 VG:=by
 have sc:=kcG;refine fkx C (qh (qf (k:=6) (fb:=Wi) C.F sc [false] (by decide) λcdv A outer s H E Ah hr=>?_) (qX Wi));have hu:=hr.units
 exact (kC (vg (w:=false) (qd cx_checked hr (kT.passes kI rfl) (kg (kr (i:=0)) ki)))
  (kH (kN (vC vP T.b_tuple (by kernel_rfl) (kg (qF.s (wJ (ns:=["column"]) (free:=["sheet"]) (pick:=[0]) (is:=[0]) (vK.of (qs.fn sc) rfl (by kernel_rfl) (.cons ⟨rfl,rfl⟩ .nil) (by decide +kernel)) rfl (by decide) (by decide) (yz (qj qM T.b_len (by kernel_rfl) (kg (qx (ko (i:=0)) ku) ki)) T.b_range) (λ_ _ _ _ _=>(qZ (i:=0) (show (["column","sheet"]:List Str).Nodup from by decide +kernel))) (λ_ _ _ _ _=>wC) (λ_ _ _ _ _=>(qu c_column_from_below hr (kg (kr (i:=1)) (kg (kr (i:=0)) ki)))))) ki)))))
abbrev yj:Stmt:=top 79
def Uj:kQ ["sheet"] ["sheet"] (kL yj):=⟨rfl,rfl,rfl,by decide +kernel,rfl,by decide +kernel,by decide +kernel⟩
def Js {f:Addr}{fd:FuncData}(T:Txt K mg)(C:Fn1 K mg "mirrored" yj ["sheet"] f fd)(XS:Xs K mg ca)(cx_checked:FkX PP w K mg base (CL ca) "checked" qP ["sheet"] 6 kW) :
 FkX PP w K mg base (CL ca) "mirrored" yj ["sheet"] 7 Qn:=by
 have sc:=Uj;refine fkx C (qh (qf (k:=6) (fb:=QZ) C.F sc [false] (by decide) λcdv A outer s H E Ah hr=>?_) (qX QZ));have hu:=hr.units
 exact (kC (vg (w:=false) (qd cx_checked hr (kT.passes kI rfl) (kg (kr (i:=0)) ki)))
  (kH (kN (vC vP T.b_tuple (by kernel_rfl) (kg (qF.s (wJ (ns:=["row"]) (free:=[]) (pick:=[]) (is:=[0]) (vK.of (qs.fn sc) rfl (by kernel_rfl) .nil (by decide +kernel)) rfl (by decide) (by decide) (wQ (ko (i:=0))) (λ_ _ _ _ _=>(qZ (i:=0) (show (["row"]:List Str).Nodup from by decide +kernel))) (λ_ _ _ _ _=>wC) (λ_ _ _ _ _=>(kaJ hr (ko (i:=0)) T.b_reversed T.b_tuple)))) ki)))))
abbrev zD:Stmt:=top 80
def JT:kQ ["sheet","eight","way","quarter"] ["sheet"] (kL zD):=⟨rfl,rfl,rfl,by decide +kernel,rfl,by decide +kernel,by decide +kernel⟩
def uB {f:Addr}{fd:FuncData}(T:Txt K mg)(C:Fn1 K mg "all_eight" zD ["sheet"] f fd)(XS:Xs K mg ca)(c_mirrored:Fk PP w K mg base (CL ca) "mirrored" yj ["sheet"] 7 QU)(c_turned:Fk PP w K mg base (CL ca) "turned" zV ["sheet"] 7 WC) :
 Fk PP w K mg base (CL ca) "all_eight" zD ["sheet"] 8 zK:=by
 have sc:=JT;refine fk C (qh (qf (k:=7) (fb:=λenv=>(VR env).nx) C.F sc [false,true,false,false] (by decide) λcdv A outer s H E Ah hr=>qV ?_) (v7 VR));have hu:=hr.units
 exact (kC (ym (i:=1) sc.nd (k6 ki))
  (kC (qL (i:=2) sc.nd (kr (i:=0)))
  (kC (yx (is:=[3]) PassesOwn.never rfl (yz ku T.b_range) (qZ (i:=3) sc.nd)
  (kC (K0 (i:=1) (kr (i:=2)))
  (kC (K0 (i:=1) (qu c_mirrored hr (kg (kr (i:=2)) ki)))
  (kH (qL (i:=2) sc.nd (qu c_turned hr (kg (kr (i:=2)) ki)))))))
  (kH (Wq (i:=1))))))
abbrev y9:Stmt:=top 81
def jQ:kQ ["place"] ["place"] (kL y9):=⟨rfl,rfl,rfl,by decide +kernel,rfl,by decide +kernel,by decide +kernel⟩
def j8 {f:Addr}{fd:FuncData}(T:Txt K mg)(C:Fn1 K mg "place_rank" y9 ["place"] f fd)(XS:Xs K mg ca) :
 Fk PP w K mg base (CL ca) "place_rank" y9 ["place"] 1 Ks:=by
 have sc:=jQ;refine fk C (qh (qf (k:=0) (fb:=λenv=>(Vw env).nx) C.F sc [false] (by decide) λcdv A outer s H E Ah hr=>qV ?_) (v7 Vw));have hu:=hr.units;exact (kH (kN (kbM (kds (ko (i:=0))) ku (kr (i:=0)))))
abbrev yQ:Stmt:=top 82
def j5:kQ ["sheet","ranks","row"] ["sheet"] (kL yQ):=⟨rfl,rfl,rfl,by decide +kernel,rfl,by decide +kernel,by decide +kernel⟩
def jW {f:Addr}{fd:FuncData}(T:Txt K mg)(C:Fn1 K mg "sheet_rank" yQ ["sheet"] f fd)(XS:Xs K mg ca)(c_place_rank:Fk PP w K mg base (CL ca) "place_rank" y9 ["place"] 1 Ks) :
 Fk PP w K mg base (CL ca) "sheet_rank" yQ ["sheet"] 2 vd:=by
 have sc:=j5;refine fk C (qh (qf (k:=1) (fb:=λenv=>(VA env).nx) C.F sc [false,true,false] (by decide) λcdv A outer s H E Ah hr=>qV ?_) (v7 VA));have hu:=hr.units
 exact (kC (ym (i:=1) sc.nd (k6 (kg (qj qM T.b_len (by kernel_rfl) (kg (ko (i:=0)) ki)) ki)))
  (kC (yx (is:=[2]) PassesOwn.never rfl (wQ (kr (i:=0))) (qZ (i:=2) sc.nd)
  (kH (keX (i:=1) (qF.s (wJ (ns:=["place"]) (free:=[]) (pick:=[]) (is:=[0]) (vK.of (qs.nox (qs.fn sc)) rfl (by kernel_rfl) .nil (by decide +kernel)) rfl (by decide) (by decide) (wQ (ko (i:=2))) (λ_ _ _ _ _=>(qZ (i:=0) (show (["place"]:List Str).Nodup from by decide +kernel))) (λ_ _ _ _ _=>wC) (λ_ _ _ _ _=>(qu c_place_rank hr (kg (kr (i:=0)) ki))))))))
  (kH (Wq (i:=1)))))
abbrev K1:Stmt:=top 83
def kdo:kQ ["sheet"] ["sheet"] (kL K1):=⟨rfl,rfl,rfl,by decide +kernel,rfl,by decide +kernel,by decide +kernel⟩
def kbk {f:Addr}{fd:FuncData}(T:Txt K mg)(C:Fn1 K mg "least" K1 ["sheet"] f fd)(XS:Xs K mg ca)(c_all_eight:Fk PP w K mg base (CL ca) "all_eight" zD ["sheet"] 8 zK)(c_sheet_rank:Fk PP w K mg base (CL ca) "sheet_rank" yQ ["sheet"] 2 vd)(cx_checked:FkX PP w K mg base (CL ca) "checked" qP ["sheet"] 6 kW) :
 FkX PP w K mg base (CL ca) "least" K1 ["sheet"] 9 xV:=by
 have sc:=kdo;refine fkx C (qh (qf (k:=8) (fb:=Xo) C.F sc [false] (by decide) λcdv A outer s H E Ah hr=>?_) (qX Xo));have hu:=hr.units
 exact (kC (vg (w:=false) (qd cx_checked hr (kT.passes kI rfl) (kg (kr (i:=0)) ki)))
  (kH (kN (kdN c_sheet_rank hr T.b_min (qu c_all_eight hr (kg (kr (i:=0)) ki))))))
abbrev Ve:Stmt:=top 75
def kdU:kQ ["sheet"] ["sheet"] (kL Ve):=⟨rfl,rfl,rfl,by decide +kernel,rfl,by decide +kernel,by decide +kernel⟩
def kbB {f:Addr}{fd:FuncData}(T:Txt K mg)(C:Fn1 K mg "shown" Ve ["sheet"] f fd)(XS:Xs K mg ca)(cx_checked:FkX PP w K mg base (CL ca) "checked" qP ["sheet"] 6 kW) :
 FkX PP w K mg base (CL ca) "shown" Ve ["sheet"] 7 Wj:=by
 have sc:=kdU;refine fkx C (qh (qf (k:=6) (fb:=Xr) C.F sc [false] (by decide) λcdv A outer s H E Ah hr=>?_) (qX Xr));have hu:=hr.units
 exact (kC (vg (w:=false) (qd cx_checked hr (kT.passes kI rfl) (kg (kr (i:=0)) ki)))
  qY)
abbrev yM:Stmt:=top 20
def kaP:kQ ["sheet","thing"] ["sheet","thing"] (kL yM):=⟨rfl,rfl,rfl,by decide +kernel,rfl,by decide +kernel,by decide +kernel⟩
def kbb {f:Addr}{fd:FuncData}(T:Txt K mg)(C:Fn1 K mg "is_cell" yM ["sheet","thing"] f fd)(XS:Xs K mg ca)(c_is_whole:Fk PP w K mg base (CL ca) "is_whole" wW ["thing","lowest","highest"] 2 qH) :
 Fk PP w K mg base (CL ca) "is_cell" yM ["sheet","thing"] 3 vY:=by
 have sc:=kaP;refine fk C (qh (qf (k:=2) (fb:=λenv=>(Qx env).nx) C.F sc [false,false] (by decide) λcdv A outer s H E Ah hr=>qV ?_) (v7 Qx));have hu:=hr.units
 exact (kC (qe (yF.t (zd (qB (qA (Ke VF (ko (i:=1)) T.b_isinstance T.b_tuple))) (yS (qo (kbw hu) kgB (qj qM T.b_len (by kernel_rfl) (kg (ko (i:=1)) ki)) ku))))
  (kH (kN vN))
  kU)
  (kC (qe (qB (qA (qu c_is_whole hr (kg (qx (ko (i:=1)) ku) (kg ku (kg (Snd.any (kO Kn (qj qM T.b_len (by kernel_rfl) (kg (ko (i:=0)) ki)) ku)) ki))))))
  (kH (kN vN))
  kU)
  (kC (qe (qB (qA (qu c_is_whole hr (kg (qx (ko (i:=1)) ku) (kg ku (kg (Snd.any (kO Kn (qj qM T.b_len (by kernel_rfl) (kg (qx (ko (i:=0)) ku) ki)) ku)) ki))))))
  (kH (kN vN))
  kU)
  (kH (kN (Snd.any (kc0 (qx (qx (ko (i:=0)) (qx (ko (i:=1)) ku)) (qx (ko (i:=1)) ku)))))))))
abbrev yg:Stmt:=top 21
def jZ:kQ ["sheet","cell","row","column","around"] ["sheet","cell"] (kL yg):=⟨rfl,rfl,rfl,by decide +kernel,rfl,by decide +kernel,by decide +kernel⟩
def jT {f:Addr}{fd:FuncData}(T:Txt K mg)(C:Fn1 K mg "near_cells" yg ["sheet","cell"] f fd)(XS:Xs K mg ca)(c_is_cell:Fk PP w K mg base (CL ca) "is_cell" yM ["sheet","thing"] 3 vY) :
 Fk PP w K mg base (CL ca) "near_cells" yg ["sheet","cell"] 4 xh:=by
 have sc:=jZ;refine fk C (qh (qf (k:=3) (fb:=λenv=>(KD env).nx) C.F sc [false,false,false,false,false] (by decide) λcdv A outer s H E Ah hr=>qV ?_) (v7 KD));have hu:=hr.units
 exact (kC (qL (i:=2) sc.nd (qx (ko (i:=1)) ku))
  (kC (qL (i:=3) sc.nd (qx (ko (i:=1)) ku))
  (kC (qL (i:=4) sc.nd (qF.s (k6 (kg (vq (kg (Snd.any (kO Kn (ko (i:=2)) ku)) (kg (kr (i:=3)) ki))) (kg (vq (kg (kr (i:=2)) (kg (Snd.any (kO Kn (ko (i:=3)) ku)) ki))) (kg (vq (kg (kr (i:=2)) (kg (Snd.any (kO vp (ko (i:=3)) ku)) ki))) (kg (vq (kg (Snd.any (kO vp (ko (i:=2)) ku)) (kg (kr (i:=3)) ki))) ki)))))))
  (kH (kN (qF.s (wJ (ns:=["other"]) (free:=["sheet"]) (pick:=[0]) (is:=[0]) (vK.of (qs.nox (qs.fn sc)) rfl (by kernel_rfl) (.cons ⟨rfl,rfl⟩ .nil) (by decide +kernel)) rfl (by decide) (by decide) (wQ (ko (i:=4))) (λ_ _ _ _ _=>(qZ (i:=0) (show (["other","sheet"]:List Str).Nodup from by decide +kernel))) (λ_ _ _ _ _=>(kbI (qA (qu c_is_cell hr (kg (kr (i:=1)) (kg (kr (i:=0)) ki)))))) (λ_ _ _ _ _=>(kr (i:=0))))))))))
abbrev wj:Stmt:=top 24
def Zl:kQ ["sheet","cell"] ["sheet","cell"] (kL wj):=⟨rfl,rfl,rfl,by decide +kernel,rfl,by decide +kernel,by decide +kernel⟩
def X7 {f:Addr}{fd:FuncData}(T:Txt K mg)(C:Fn1 K mg "checked_cell" wj ["sheet","cell"] f fd)(XS:Xs K mg ca)(c_is_cell:Fk PP w K mg base (CL ca) "is_cell" yM ["sheet","thing"] 3 vY) :
 FkX PP w K mg base (CL ca) "checked_cell" wj ["sheet","cell"] 4 vQ:=by
 have sc:=Zl;refine fkx C (qh (qf (k:=3) (fb:=zo) C.F sc [false,false] (by decide) λcdv A outer s H E Ah hr=>?_) (qX zo));have hu:=hr.units
 exact (kC (qe (qB (qA (qu c_is_cell hr (kg (kr (i:=0)) (kg (kr (i:=1)) ki)))))
  (kH (wZ (c:=2) XS.m_NoCell rfl XS.e_NoCell.ex))
  kU)
  (kH (kN (kr (i:=1)))))
abbrev Vi:Stmt:=top 25
def ke1:kQ ["sheet","cell"] ["sheet","cell"] (kL Vi):=⟨rfl,rfl,rfl,by decide +kernel,rfl,by decide +kernel,by decide +kernel⟩
def kd5 {f:Addr}{fd:FuncData}(T:Txt K mg)(C:Fn1 K mg "near" Vi ["sheet","cell"] f fd)(XS:Xs K mg ca)(c_near_cells:Fk PP w K mg base (CL ca) "near_cells" yg ["sheet","cell"] 4 xh)(cx_checked:FkX PP w K mg base (CL ca) "checked" qP ["sheet"] 6 kW)(cx_checked_cell:FkX PP w K mg base (CL ca) "checked_cell" wj ["sheet","cell"] 4 vQ) :
 FkX PP w K mg base (CL ca) "near" Vi ["sheet","cell"] 7 Qa:=by
 have sc:=ke1;refine fkx C (qh (qf (k:=6) (fb:=Zg) C.F sc [false,false] (by decide) λcdv A outer s H E Ah hr=>?_) (qX Zg));have hu:=hr.units
 exact (kC (vg (w:=false) (qd cx_checked hr (kT.passes kI rfl) (kg (kr (i:=0)) ki)))
  (kH (kN (qu c_near_cells hr (kg (kr (i:=0)) (kg (qd cx_checked_cell hr (kT.passes kI rfl) (kg (kr (i:=0)) (kg (kr (i:=1)) ki))) ki))))))
abbrev zF:Stmt:=top 28
def uh:kQ ["cells"] ["cells"] (kL zF):=⟨rfl,rfl,rfl,by decide +kernel,rfl,by decide +kernel,by decide +kernel⟩
def uW {f:Addr}{fd:FuncData}(T:Txt K mg)(C:Fn1 K mg "is_rising" zF ["cells"] f fd)(XS:Xs K mg ca) :
 Fk PP w K mg base (CL ca) "is_rising" zF ["cells"] 1 zG:=by
 have sc:=uh;refine fk C (qh (qf (k:=0) (fb:=λenv=>(Qm env).nx) C.F sc [false] (by decide) λcdv A outer s H E Ah hr=>qV ?_) (v7 Qm));have hu:=hr.units;exact (kH (kN (qj (Kg rfl) T.b_all (by kernel_rfl) (kg (qF.s (wJ (ns:=["one","other"]) (free:=[]) (pick:=[]) (is:=[0,1]) (vK.of (qs.nox (qs.fn sc)) rfl (by kernel_rfl) .nil (by decide +kernel)) rfl (by decide) (by decide) (kdk (ko (i:=0)) (uE (ko (i:=0)) (jl ku) jz) T.b_zip) (λ_ _ _ _ _=>(YA rfl (zk (i:=0) (show (["one","other"]:List Str).Nodup from by decide +kernel) (zk (i:=1) (show (["one","other"]:List Str).Nodup from by decide +kernel) Xb)))) (λ_ _ _ _ _=>wC) (λ_ _ _ _ _=>(Snd.any (Ko (yu hu) (ko (i:=0)) (ko (i:=1))))))) ki))))
abbrev xm:Stmt:=top 29
def XM:kQ ["sheet","cells","reached","waiting","cell","other"] ["sheet","cells"] (kL xm):=⟨rfl,rfl,rfl,by decide +kernel,rfl,by decide +kernel,by decide +kernel⟩
def XJ {f:Addr}{fd:FuncData}(T:Txt K mg)(C:Fn1 K mg "hangs_together" xm ["sheet","cells"] f fd)(XS:Xs K mg ca)(c_near_cells:Fk PP w K mg base (CL ca) "near_cells" yg ["sheet","cell"] 4 xh) :
 Fk PP w K mg base (CL ca) "hangs_together" xm ["sheet","cells"] 5 yq:=by
 have sc:=XM;refine fk C (qh (qf (k:=4) (fb:=λenv=>(Ka env).nx) C.F sc [false,false,true,true,false,false] (by decide) λcdv A outer s H E Ah hr=>qV ?_) (v7 Ka));have hu:=hr.units
 exact (kC (ym (i:=2) sc.nd (kbn hr.u9 (qx (ko (i:=1)) ku) vN))
  (kC (ym (i:=3) sc.nd (k6 (kg (qx (ko (i:=1)) ku) ki)))
  (kC (kcL (n:=100000) PassesOwn.never (qo khs khC (qj qM T.b_len (by kernel_rfl) (kg (ko (i:=3)) ki)) ku)
  (kC (kfU (i:=3) (k:=4) sc.nd)
  (kH (yx (is:=[5]) PassesOwn.never rfl (wQ (qu c_near_cells hr (kg (kr (i:=0)) (kg (kr (i:=4)) ki)))) (qZ (i:=5) sc.nd)
  (kH (qe (yF.t (uu (qo (kht hu) khx (ko (i:=5)) (ko (i:=1))) (jr (qo (kdm hr.u9) kcW (ko (i:=5)) (ko (i:=2))))))
  (kC (kfT (i:=2) hr.u9 (kr (i:=5)) vN)
  (kH (K0 (i:=3) (kr (i:=5)))))
  kU))))))
  (kH (kN (Snd.any (Ko (wB hu) (qj kaI T.b_len (by kernel_rfl) (kg (ko (i:=2)) ki)) (qj qM T.b_len (by kernel_rfl) (kg (ko (i:=1)) ki)))))))))
abbrev xS:Stmt:=top 30
def UD:kQ ["sheet","thing"] ["sheet","thing"] (kL xS):=⟨rfl,rfl,rfl,by decide +kernel,rfl,by decide +kernel,by decide +kernel⟩
def J0 {f:Addr}{fd:FuncData}(T:Txt K mg)(C:Fn1 K mg "is_piece" xS ["sheet","thing"] f fd)(XS:Xs K mg ca)(c_is_cell:Fk PP w K mg base (CL ca) "is_cell" yM ["sheet","thing"] 3 vY)(c_is_rising:Fk PP w K mg base (CL ca) "is_rising" zF ["cells"] 1 zG)(c_hangs_together:Fk PP w K mg base (CL ca) "hangs_together" xm ["sheet","cells"] 5 yq)(cx_checked:FkX PP w K mg base (CL ca) "checked" qP ["sheet"] 6 kW) :
 FkX PP w K mg base (CL ca) "is_piece" xS ["sheet","thing"] 7 yy:=by
 have sc:=UD;refine fkx C (qh (qf (k:=6) (fb:=QV) C.F sc [false,false] (by decide) λcdv A outer s H E Ah hr=>?_) (qX QV));have hu:=hr.units
 exact (kC (vg (w:=false) (qd cx_checked hr (kT.passes kI rfl) (kg (kr (i:=0)) ki)))
  (kC (qe (yF.t (zd (qB (qA (Ke VF (ko (i:=1)) T.b_isinstance T.b_tuple))) (yS (qo (wB hu) x9 (qj qM T.b_len (by kernel_rfl) (kg (ko (i:=1)) ki)) ku))))
  (kH (kN vN))
  kU)
  (kC (qe (qB (qA (qj (Kg rfl) T.b_all (by kernel_rfl) (kg (qF.s (wJ (ns:=["cell"]) (free:=["sheet"]) (pick:=[0]) (is:=[0]) (vK.of (qs.fn sc) rfl (by kernel_rfl) (.cons ⟨rfl,rfl⟩ .nil) (by decide +kernel)) rfl (by decide) (by decide) (wQ (ko (i:=1))) (λ_ _ _ _ _=>(qZ (i:=0) (show (["cell","sheet"]:List Str).Nodup from by decide +kernel))) (λ_ _ _ _ _=>wC) (λ_ _ _ _ _=>(qu c_is_cell hr (kg (kr (i:=1)) (kg (kr (i:=0)) ki)))))) ki))))
  (kH (kN vN))
  kU)
  (kH (kN (snd_and (qu c_is_rising hr (kg (kr (i:=1)) ki)) (ZK (qu c_hangs_together hr (kg (kr (i:=0)) (kg (kr (i:=1)) ki))))))))))
abbrev Q6:Stmt:=top 39
def kcT:kQ ["sheet","piece"] ["sheet","piece"] (kL Q6):=⟨rfl,rfl,rfl,by decide +kernel,rfl,by decide +kernel,by decide +kernel⟩
def kbO {f:Addr}{fd:FuncData}(T:Txt K mg)(C:Fn1 K mg "worth" Q6 ["sheet","piece"] f fd)(XS:Xs K mg ca)(cx_is_piece:FkX PP w K mg base (CL ca) "is_piece" xS ["sheet","thing"] 7 yy) :
 FkX PP w K mg base (CL ca) "worth" Q6 ["sheet","piece"] 8 WN:=by
 have sc:=kcT;refine fkx C (qh (qf (k:=7) (fb:=XE) C.F sc [false,false] (by decide) λcdv A outer s H E Ah hr=>?_) (qX XE));have hu:=hr.units
 exact (kC (qe (qB (qA (qd cx_is_piece hr (kT.passes kI rfl) (kg (kr (i:=0)) (kg (kr (i:=1)) ki)))))
  (kH (wZ (c:=3) XS.m_NoPiece rfl XS.e_NoPiece.ex))
  kU)
  qY)
abbrev xQ:Stmt:=top 37
def Ye:kQ ["sheet","some"] ["sheet","some"] (kL xQ):=⟨rfl,rfl,rfl,by decide +kernel,rfl,by decide +kernel,by decide +kernel⟩
def Yh {f:Addr}{fd:FuncData}(T:Txt K mg)(C:Fn1 K mg "rising_worths" xQ ["sheet","some"] f fd)(XS:Xs K mg ca) :
 Fk PP w K mg base (CL ca) "rising_worths" xQ ["sheet","some"] 1 Kq:=by
 have sc:=Ye;refine fk C (qh (qf (k:=0) (fb:=λenv=>(KO env).nx) C.F sc [false,false] (by decide) λcdv A outer s H E Ah hr=>qV ?_) (v7 KO));have hu:=hr.units;exact qY
abbrev yW:Stmt:=top 40
def kcE:kQ ["sheet","most"] ["sheet","most"] (kL yW):=⟨rfl,rfl,rfl,by decide +kernel,rfl,by decide +kernel,by decide +kernel⟩
def kau {f:Addr}{fd:FuncData}(T:Txt K mg)(C:Fn1 K mg "worths" yW ["sheet","most"] f fd)(XS:Xs K mg ca)(c_rising_worths:Fk PP w K mg base (CL ca) "rising_worths" xQ ["sheet","some"] 1 Kq)(cx_pieces:FkX PP w K mg base (CL ca) "pieces" yi ["sheet","most"] 7 wF) :
 FkX PP w K mg base (CL ca) "worths" yW ["sheet","most"] 8 xH:=by
 have sc:=kcE;refine fkx C (qh (qf (k:=7) (fb:=WH) C.F sc [false,false] (by decide) λcdv A outer s H E Ah hr=>?_) (qX WH));have hu:=hr.units;exact (kH (kN (qu c_rising_worths hr (kg (kr (i:=0)) (kg (qd cx_pieces hr (kT.passes kI rfl) (kg (kr (i:=0)) (kg (kr (i:=1)) ki))) ki)))))
abbrev xK:Stmt:=top 38
def Yp:kQ ["rising","missing","number"] ["rising"] (kL xK):=⟨rfl,rfl,rfl,by decide +kernel,rfl,by decide +kernel,by decide +kernel⟩
def Yo {f:Addr}{fd:FuncData}(T:Txt K mg)(C:Fn1 K mg "least_missing" xK ["rising"] f fd)(XS:Xs K mg ca) :
 Fk PP w K mg base (CL ca) "least_missing" xK ["rising"] 1 KC:=by
 have sc:=Yp;refine fk C (qh (qf (k:=0) (fb:=λenv=>(KP env).nx) C.F sc [false,false,false] (by decide) λcdv A outer s H E Ah hr=>qV ?_) (v7 KP));have hu:=hr.units;exact qY
abbrev vV:Stmt:=top 41
def Yc:kQ ["sheet","most"] ["sheet","most"] (kL vV):=⟨rfl,rfl,rfl,by decide +kernel,rfl,by decide +kernel,by decide +kernel⟩
def XO {f:Addr}{fd:FuncData}(T:Txt K mg)(C:Fn1 K mg "first_missing" vV ["sheet","most"] f fd)(XS:Xs K mg ca)(c_least_missing:Fk PP w K mg base (CL ca) "least_missing" xK ["rising"] 1 KC)(cx_worths:FkX PP w K mg base (CL ca) "worths" yW ["sheet","most"] 8 xH) :
 FkX PP w K mg base (CL ca) "first_missing" vV ["sheet","most"] 9 vM:=by
 have sc:=Yc;refine fkx C (qh (qf (k:=8) (fb:=yJ) C.F sc [false,false] (by decide) λcdv A outer s H E Ah hr=>?_) (qX yJ));have hu:=hr.units;exact (kH (kN (qu c_least_missing hr (kg (qd cx_worths hr (kT.passes kI rfl) (kg (kr (i:=0)) (kg (kr (i:=1)) ki))) ki))))
abbrev xW:Stmt:=top 42
def uQ:kQ ["sheet","number","piece"] ["sheet","number"] (kL xW):=⟨rfl,rfl,rfl,by decide +kernel,rfl,by decide +kernel,by decide +kernel⟩
def j4 {f:Addr}{fd:FuncData}(T:Txt K mg)(C:Fn1 K mg "piece_for" xW ["sheet","number"] f fd)(XS:Xs K mg ca)(c_is_whole_from:Fk PP w K mg base (CL ca) "is_whole_from" vU ["thing","lowest"] 1 vm)(cx_checked:FkX PP w K mg base (CL ca) "checked" qP ["sheet"] 6 kW) :
 FkX PP w K mg base (CL ca) "piece_for" xW ["sheet","number"] 7 xj:=by
 have sc:=uQ;refine fkx C (qh (qf (k:=6) (fb:=Ql) C.F sc [false,false,false] (by decide) λcdv A outer s H E Ah hr=>?_) (qX Ql));have hu:=hr.units
 exact (kC (vg (w:=false) (qd cx_checked hr (kT.passes kI rfl) (kg (kr (i:=0)) ki)))
  (kC (qe (qB (qA (qu c_is_whole_from hr (kg (kr (i:=1)) (kg ku ki)))))
  (kH (wZ (c:=4) XS.m_NoNumber rfl XS.e_NoNumber.ex))
  kU)
  qY))
abbrev wH:Stmt:=top 47
def X0:kQ ["wants"] ["wants"] (kL wH):=⟨rfl,rfl,rfl,by decide +kernel,rfl,by decide +kernel,by decide +kernel⟩
def XN {f:Addr}{fd:FuncData}(T:Txt K mg)(C:Fn1 K mg "checked_wants" wH ["wants"] f fd)(XS:Xs K mg ca)(c_is_whole_from:Fk PP w K mg base (CL ca) "is_whole_from" vU ["thing","lowest"] 1 vm) :
 FkX PP w K mg base (CL ca) "checked_wants" wH ["wants"] 2 xr:=by
 have sc:=X0;refine fkx C (qh (qf (k:=1) (fb:=yL) C.F sc [false] (by decide) λcdv A outer s H E Ah hr=>?_) (qX yL));have hu:=hr.units
 exact (kC (qe (yF.t (zd (qB (qA (Ke J9 (ko (i:=0)) T.b_isinstance T.b_list))) (yS (qB (Wm zH zH Vv Vv ku (qj qM T.b_len (by kernel_rfl) (kg (ko (i:=0)) ki)) (yo T.g_MOST_WANTS.choose_spec))))))
  (kH (wZ (c:=5) XS.m_NoWants rfl XS.e_NoWants.ex))
  kU)
  (kC (qe (qB (qA (qj (Kg rfl) T.b_all (by kernel_rfl) (kg (qF.s (wJ (ns:=["number"]) (free:=[]) (pick:=[]) (is:=[0]) (vK.of (qs.fn sc) rfl (by kernel_rfl) .nil (by decide +kernel)) rfl (by decide) (by decide) (wQ (ko (i:=0))) (λ_ _ _ _ _=>(qZ (i:=0) (show (["number"]:List Str).Nodup from by decide +kernel))) (λ_ _ _ _ _=>wC) (λ_ _ _ _ _=>(qu c_is_whole_from hr (kg (kr (i:=0)) (kg ku ki)))))) ki))))
  (kH (wZ (c:=5) XS.m_NoWants rfl XS.e_NoWants.ex))
  kU)
  (kH (kN (kr (i:=0))))))
abbrev Qt:Stmt:=top 58
def kfq:kQ ["sheet","wants","cells","best"] ["sheet","wants"] (kL Qt):=⟨rfl,rfl,rfl,by decide +kernel,rfl,by decide +kernel,by decide +kernel⟩
def kc9 {f:Addr}{fd:FuncData}(T:Txt K mg)(C:Fn1 K mg "torn" Qt ["sheet","wants"] f fd)(XS:Xs K mg ca)(cx_checked:FkX PP w K mg base (CL ca) "checked" qP ["sheet"] 6 kW)(cx_checked_wants:FkX PP w K mg base (CL ca) "checked_wants" wH ["wants"] 2 xr) :
 FkX PP w K mg base (CL ca) "torn" Qt ["sheet","wants"] 7 ze:=by
 have sc:=kfq;refine fkx C (qh (qf (k:=6) (fb:=Zv) C.F sc [false,false,false,false] (by decide) λcdv A outer s H E Ah hr=>?_) (qX Zv));have hu:=hr.units
 exact (kC (vg (w:=false) (qd cx_checked hr (kT.passes kI rfl) (kg (kr (i:=0)) ki)))
  (kC (vg (w:=false) (qd cx_checked_wants hr (kT.passes kI rfl) (kg (kr (i:=1)) ki)))
  qY))
abbrev we:Stmt:=top 59
def Y7:kQ ["sheet","wants","plan"] ["sheet","wants"] (kL we):=⟨rfl,rfl,rfl,by decide +kernel,rfl,by decide +kernel,by decide +kernel⟩
def Yn {f:Addr}{fd:FuncData}(T:Txt K mg)(C:Fn1 K mg "fewest_tears" we ["sheet","wants"] f fd)(XS:Xs K mg ca)(cx_torn:FkX PP w K mg base (CL ca) "torn" Qt ["sheet","wants"] 7 ze) :
 FkX PP w K mg base (CL ca) "fewest_tears" we ["sheet","wants"] 8 vW:=by
 have sc:=Y7;refine fkx C (qh (qf (k:=7) (fb:=zm) C.F sc [false,false,false] (by decide) λcdv A outer s H E Ah hr=>?_) (qX zm));have hu:=hr.units
 exact (kC (qL (i:=2) sc.nd (qd cx_torn hr (kT.passes kI rfl) (kg (kr (i:=0)) (kg (kr (i:=1)) ki))))
  qY)
abbrev zJ:Stmt:=top 48
def uw:kQ ["sheet","thing","cells","part"] ["sheet","thing"] (kL zJ):=⟨rfl,rfl,rfl,by decide +kernel,rfl,by decide +kernel,by decide +kernel⟩
def uU {f:Addr}{fd:FuncData}(T:Txt K mg)(C:Fn1 K mg "are_parts" zJ ["sheet","thing"] f fd)(XS:Xs K mg ca)(c_is_piece:Fk PP w K mg base (CL ca) "is_piece" xS ["sheet","thing"] 7 wA)(c_stamp_cells:Fk PP w K mg base (CL ca) "stamp_cells" wM ["sheet"] 1 vL) :
 Fk PP w K mg base (CL ca) "are_parts" zJ ["sheet","thing"] 8 xU:=by
 have sc:=uw;refine fk C (qh (qf (k:=7) (fb:=λenv=>(VV env).nx) C.F sc [false,false,true,false] (by decide) λcdv A outer s H E Ah hr=>qV ?_) (v7 VV));have hu:=hr.units
 exact (kC (qe (qB (qA (Ke J9 (ko (i:=1)) T.b_isinstance T.b_list)))
  (kH (kN vN))
  kU)
  (kC (qe (qB (qA (qj (Kg rfl) T.b_all (by kernel_rfl) (kg (qF.s (wJ (ns:=["part"]) (free:=["sheet"]) (pick:=[0]) (is:=[0]) (vK.of (qs.nox (qs.fn sc)) rfl (by kernel_rfl) (.cons ⟨rfl,rfl⟩ .nil) (by decide +kernel)) rfl (by decide) (by decide) (wQ (ko (i:=1))) (λ_ _ _ _ _=>(qZ (i:=0) (show (["part","sheet"]:List Str).Nodup from by decide +kernel))) (λ_ _ _ _ _=>wC) (λ_ _ _ _ _=>(qu c_is_piece hr (kg (kr (i:=1)) (kg (kr (i:=0)) ki)))))) ki))))
  (kH (kN vN))
  kU)
  (kC (ym (i:=2) sc.nd (k6 ki))
  (kC (yx (is:=[3]) PassesOwn.never rfl (wQ (kr (i:=1))) (qZ (i:=3) sc.nd)
  (kH (kdd (i:=2) (ko (i:=3)))))
  (kH (kN (Snd.any (Ko (wB hu) (qj (uY hr.u66 rfl).s T.b_sorted (by kernel_rfl) (kg (ko (i:=2)) ki)) (qu c_stamp_cells hr (kg (kr (i:=0)) ki))))))))))
abbrev Qh:Stmt:=top 51
def kdj:kQ ["sheet","parts","pairs"] ["sheet","parts"] (kL Qh):=⟨rfl,rfl,rfl,by decide +kernel,rfl,by decide +kernel,by decide +kernel⟩
def kbX {f:Addr}{fd:FuncData}(T:Txt K mg)(C:Fn1 K mg "tears" Qh ["sheet","parts"] f fd)(XS:Xs K mg ca)(c_are_parts:Fk PP w K mg base (CL ca) "are_parts" zJ ["sheet","thing"] 8 xU)(cx_checked:FkX PP w K mg base (CL ca) "checked" qP ["sheet"] 6 kW) :
 FkX PP w K mg base (CL ca) "tears" Qh ["sheet","parts"] 9 yX:=by
 have sc:=kdj;refine fkx C (qh (qf (k:=8) (fb:=Xw) C.F sc [false,false,false] (by decide) λcdv A outer s H E Ah hr=>?_) (qX Xw));have hu:=hr.units
 exact (kC (vg (w:=false) (qd cx_checked hr (kT.passes kI rfl) (kg (kr (i:=0)) ki)))
  (kC (qe (qB (qA (qu c_are_parts hr (kg (kr (i:=0)) (kg (kr (i:=1)) ki)))))
  (kH (wZ (c:=3) XS.m_NoPiece rfl XS.e_NoPiece.ex))
  kU)
  qY))
abbrev Vs:Stmt:=top 60
def kfu:kQ ["sheet","many","whole"] ["sheet","many"] (kL Vs):=⟨rfl,rfl,rfl,by decide +kernel,rfl,by decide +kernel,by decide +kernel⟩
def kdi {f:Addr}{fd:FuncData}(T:Txt K mg)(C:Fn1 K mg "fair" Vs ["sheet","many"] f fd)(XS:Xs K mg ca)(cx_checked:FkX PP w K mg base (CL ca) "checked" qP ["sheet"] 6 kW)(cx_checked_number:FkX PP w K mg base (CL ca) "checked_number" vz ["number"] 3 qS) :
 FkX PP w K mg base (CL ca) "fair" Vs ["sheet","many"] 7 K5:=by
 have sc:=kfu;refine fkx C (qh (qf (k:=6) (fb:=Zd) C.F sc [false,false,false] (by decide) λcdv A outer s H E Ah hr=>?_) (qX Zd));have hu:=hr.units
 exact (kC (vg (w:=false) (qd cx_checked hr (kT.passes kI rfl) (kg (kr (i:=0)) ki)))
  (kC (vg (w:=false) (qd cx_checked_number hr (kT.passes kI rfl) (kg (kr (i:=1)) ki)))
  qY))
abbrev Q4:Stmt:=top 84
def kdc:kQ ["one","other"] ["one","other"] (kL Q4):=⟨rfl,rfl,rfl,by decide +kernel,rfl,by decide +kernel,by decide +kernel⟩
def kct {f:Addr}{fd:FuncData}(T:Txt K mg)(C:Fn1 K mg "alike" Q4 ["one","other"] f fd)(XS:Xs K mg ca)(cx_least:FkX PP w K mg base (CL ca) "least" K1 ["sheet"] 9 xV) :
 FkX PP w K mg base (CL ca) "alike" Q4 ["one","other"] 10 Vy:=by
 have sc:=kdc;refine fkx C (qh (qf (k:=9) (fb:=Xz) C.F sc [false,false] (by decide) λcdv A outer s H E Ah hr=>?_) (qX Xz));have hu:=hr.units;exact (kH (kN (Snd.any (Ko (wB hu) (qd cx_least hr (kT.passes kI rfl) (kg (kr (i:=0)) ki)) (qd cx_least hr (kT.passes kI rfl) (kg (kr (i:=1)) ki))))))
abbrev xE:Stmt:=top 63
def kaF:kQ ["sheet","cell","number","row"] ["sheet","cell","number"] (kL xE):=⟨rfl,rfl,rfl,by decide +kernel,rfl,by decide +kernel,by decide +kernel⟩
def Uz {f:Addr}{fd:FuncData}(T:Txt K mg)(C:Fn1 K mg "changed" xE ["sheet","cell","number"] f fd)(XS:Xs K mg ca)(c_is_whole:Fk PP w K mg base (CL ca) "is_whole" wW ["thing","lowest","highest"] 2 qH)(cx_checked:FkX PP w K mg base (CL ca) "checked" qP ["sheet"] 6 kW)(cx_checked_cell:FkX PP w K mg base (CL ca) "checked_cell" wj ["sheet","cell"] 4 vQ) :
 FkX PP w K mg base (CL ca) "changed" xE ["sheet","cell","number"] 7 vE:=by
 have sc:=kaF;refine fkx C (qh (qf (k:=6) (fb:=VD) C.F sc [false,false,false,false] (by decide) λcdv A outer s H E Ah hr=>?_) (qX VD));have hu:=hr.units
 exact (kC (vg (w:=false) (qd cx_checked hr (kT.passes kI rfl) (kg (kr (i:=0)) ki)))
  (kC (vg (w:=false) (qd cx_checked_cell hr (kT.passes kI rfl) (kg (kr (i:=0)) (kg (kr (i:=1)) ki))))
  (kC (qe (qB (qA (qu c_is_whole hr (kg (kr (i:=2)) (kg ku (kg (yo T.g_MOST_WORTH.choose_spec) ki))))))
  (kH (wZ (c:=4) XS.m_NoNumber rfl XS.e_NoNumber.ex))
  kU)
  qY)))
abbrev vj:Stmt:=top 64
def Yi:kQ ["sheet","most","cell","number","other","before","after"] ["sheet","most","cell","number"] (kL vj):=⟨rfl,rfl,rfl,by decide +kernel,rfl,by decide +kernel,by decide +kernel⟩
def XH {f:Addr}{fd:FuncData}(T:Txt K mg)(C:Fn1 K mg "gone_and_come" vj ["sheet","most","cell","number"] f fd)(XS:Xs K mg ca)(cx_checked:FkX PP w K mg base (CL ca) "checked" qP ["sheet"] 6 kW)(cx_checked_number:FkX PP w K mg base (CL ca) "checked_number" vz ["number"] 3 qS)(cx_changed:FkX PP w K mg base (CL ca) "changed" xE ["sheet","cell","number"] 7 vE) :
 FkX PP w K mg base (CL ca) "gone_and_come" vj ["sheet","most","cell","number"] 8 qw:=by
 have sc:=Yi;refine fkx C (qh (qf (k:=7) (fb:=yI) C.F sc [false,false,false,false,false,false,false] (by decide) λcdv A outer s H E Ah hr=>?_) (qX yI));have hu:=hr.units
 exact (kC (vg (w:=false) (qd cx_checked hr (kT.passes kI rfl) (kg (kr (i:=0)) ki)))
  (kC (vg (w:=false) (qd cx_checked_number hr (kT.passes kI rfl) (kg (kr (i:=1)) ki)))
  (kC (qL (i:=4) sc.nd (qd cx_changed hr (kT.passes kI rfl) (kg (kr (i:=0)) (kg (kr (i:=2)) (kg (kr (i:=3)) ki)))))
  qY)))
abbrev w5:Stmt:=top 90
def Zr:kQ ["_law_what","_law_bad","_law_good"] ["_law_what","_law_bad","_law_good"] (kL w5):=⟨rfl,rfl,rfl,by decide +kernel,rfl,by decide +kernel,by decide +kernel⟩
def WX {f:Addr}{fd:FuncData}(T:Txt K mg)(C:Fn1 K mg "_law_with_sheet" w5 ["_law_what","_law_bad","_law_good"] f fd)(XS:Xs K mg ca)(cx_stamps:FkX PP w K mg base (CL ca) "stamps" zX ["sheet"] 7 za)(cx_counts:FkX PP w K mg base (CL ca) "counts" Qe ["sheet"] 8 VJ)(cx_needless:FkX PP w K mg base (CL ca) "needless" zg ["sheet"] 8 Qk)(cx_turned:FkX PP w K mg base (CL ca) "turned" zV ["sheet"] 7 VG)(cx_mirrored:FkX PP w K mg base (CL ca) "mirrored" yj ["sheet"] 7 Qn)(cx_least:FkX PP w K mg base (CL ca) "least" K1 ["sheet"] 9 xV)(cx_shown:FkX PP w K mg base (CL ca) "shown" Ve ["sheet"] 7 Wj)(cx_near:FkX PP w K mg base (CL ca) "near" Vi ["sheet","cell"] 7 Qa)(cx_is_piece:FkX PP w K mg base (CL ca) "is_piece" xS ["sheet","thing"] 7 yy)(cx_pieces:FkX PP w K mg base (CL ca) "pieces" yi ["sheet","most"] 7 wF)(cx_worth:FkX PP w K mg base (CL ca) "worth" Q6 ["sheet","piece"] 8 WN)(cx_worths:FkX PP w K mg base (CL ca) "worths" yW ["sheet","most"] 8 xH)(cx_first_missing:FkX PP w K mg base (CL ca) "first_missing" vV ["sheet","most"] 9 vM)(cx_piece_for:FkX PP w K mg base (CL ca) "piece_for" xW ["sheet","number"] 7 xj)(cx_torn:FkX PP w K mg base (CL ca) "torn" Qt ["sheet","wants"] 7 ze)(cx_fewest_tears:FkX PP w K mg base (CL ca) "fewest_tears" we ["sheet","wants"] 8 vW)(cx_tears:FkX PP w K mg base (CL ca) "tears" Qh ["sheet","parts"] 9 yX)(cx_fair:FkX PP w K mg base (CL ca) "fair" Vs ["sheet","many"] 7 K5)(cx_alike:FkX PP w K mg base (CL ca) "alike" Q4 ["one","other"] 10 Vy)(cx_changed:FkX PP w K mg base (CL ca) "changed" xE ["sheet","cell","number"] 7 vE)(cx_gone_and_come:FkX PP w K mg base (CL ca) "gone_and_come" vj ["sheet","most","cell","number"] 8 qw) :
 FkX PP w K mg base (CL ca) "_law_with_sheet" w5 ["_law_what","_law_bad","_law_good"] 11 xO:=by
 have sc:=Zr;refine fkx C (qh (qf (k:=10) (fb:=zq) C.F sc [false,false,false] (by decide) λcdv A outer s H E Ah hr=>?_) (qX zq));have hu:=hr.units
 exact (kC (qe (qo (yu hu) yT (ko (i:=0)) ku)
  (kH (kN (VB (wL cx_stamps hr (kT.passes kI rfl) (wL cx_counts hr (kT.passes kI rfl) (wL cx_needless hr (kT.passes kI rfl) (wL cx_turned hr (kT.passes kI rfl) (wL cx_mirrored hr (kT.passes kI rfl) (wL cx_least hr (kT.passes kI rfl) (wL cx_shown hr (kT.passes kI rfl) (wL cx_stamps hr (kT.passes kI rfl) .nil)))))))) (ko (i:=0)) (kg (kr (i:=1)) ki))))
  kU)
  (kC (qe (qo (yu hu) yT (ko (i:=0)) ku)
  (kH (kN (VB (wL cx_near hr (kT.passes kI rfl) (wL cx_is_piece hr (kT.passes kI rfl) (wL cx_pieces hr (kT.passes kI rfl) (wL cx_worth hr (kT.passes kI rfl) (wL cx_worths hr (kT.passes kI rfl) (wL cx_first_missing hr (kT.passes kI rfl) (wL cx_piece_for hr (kT.passes kI rfl) (wL cx_torn hr (kT.passes kI rfl) .nil)))))))) (Snd.any (kO Kn (ko (i:=0)) ku)) (kg (kr (i:=1)) (kg vt ki)))))
  kU)
  (kC (qe (qo (yu hu) yT (ko (i:=0)) ku)
  (kH (kN (VB (wL cx_fewest_tears hr (kT.passes kI rfl) (wL cx_tears hr (kT.passes kI rfl) (wL cx_fair hr (kT.passes kI rfl) .nil))) (Snd.any (kO Kn (ko (i:=0)) ku)) (kg (kr (i:=1)) (kg vt ki)))))
  kU)
  (kC (qe (qo (yu hu) yT (ko (i:=0)) ku)
  (kH (kN (qd cx_alike hr (kT.passes kI rfl) (kg (qx (qF.s (k6 (kg (kr (i:=1)) (kg (kr (i:=2)) ki)))) (Snd.any (kO vn (ko (i:=0)) ku))) (kg (qx (qF.s (k6 (kg (kr (i:=2)) (kg (kr (i:=1)) ki)))) (Snd.any (kO vn (ko (i:=0)) ku))) ki)))))
  kU)
  (kC (qe (qo (wB hu) x9 (ko (i:=0)) ku)
  (kH (kN (qd cx_changed hr (kT.passes kI rfl) (kg (kr (i:=1)) (kg vt (kg vt ki))))))
  kU)
  (kH (kN (qd cx_gone_and_come hr (kT.passes kI rfl) (kg (kr (i:=1)) (kg vt (kg vt (kg vt ki))))))))))))
abbrev xC:Stmt:=top 91
def ZT:kQ ["_law_what","_law_sheet_here","_law_bad","_law_number"] ["_law_what","_law_sheet_here","_law_bad","_law_number"] (kL xC):=⟨rfl,rfl,rfl,by decide +kernel,rfl,by decide +kernel,by decide +kernel⟩
def W4 {f:Addr}{fd:FuncData}(T:Txt K mg)(C:Fn1 K mg "_law_with_cell" xC ["_law_what","_law_sheet_here","_law_bad","_law_number"] f fd)(XS:Xs K mg ca)(cx_near:FkX PP w K mg base (CL ca) "near" Vi ["sheet","cell"] 7 Qa)(cx_changed:FkX PP w K mg base (CL ca) "changed" xE ["sheet","cell","number"] 7 vE)(cx_gone_and_come:FkX PP w K mg base (CL ca) "gone_and_come" vj ["sheet","most","cell","number"] 8 qw) :
 FkX PP w K mg base (CL ca) "_law_with_cell" xC ["_law_what","_law_sheet_here","_law_bad","_law_number"] 9 x6:=by
 have sc:=ZT;refine fkx C (qh (qf (k:=8) (fb:=zL) C.F sc [false,false,false,false] (by decide) λcdv A outer s H E Ah hr=>?_) (qX zL));have hu:=hr.units
 exact (kC (qe (qo (wB hu) x9 (ko (i:=0)) ku)
  (kH (kN (qd cx_near hr (kT.passes kI rfl) (kg (kr (i:=1)) (kg (kr (i:=2)) ki)))))
  kU)
  (kC (qe (qo (wB hu) x9 (ko (i:=0)) ku)
  (kH (kN (qd cx_changed hr (kT.passes kI rfl) (kg (kr (i:=1)) (kg (kr (i:=2)) (kg (kr (i:=3)) ki))))))
  kU)
  (kH (kN (qd cx_gone_and_come hr (kT.passes kI rfl) (kg (kr (i:=1)) (kg ku (kg (kr (i:=2)) (kg (kr (i:=3)) ki)))))))))
abbrev ye:Stmt:=top 71
def j0:kQ ["many","reach","row"] ["many"] (kL ye):=⟨rfl,rfl,rfl,by decide +kernel,rfl,by decide +kernel,by decide +kernel⟩
def Z3 {f:Addr}{fd:FuncData}(T:Txt K mg)(C:Fn1 K mg "best_strip" ye ["many"] f fd)(XS:Xs K mg ca)(c_is_whole:Fk PP w K mg base (CL ca) "is_whole" wW ["thing","lowest","highest"] 2 qH) :
 FkX PP w K mg base (CL ca) "best_strip" ye ["many"] 3 zP:=by
 have sc:=j0;refine fkx C (qh (qf (k:=2) (fb:=KJ) C.F sc [false,false,false] (by decide) λcdv A outer s H E Ah hr=>?_) (qX KJ));have hu:=hr.units
 exact (kC (qe (qB (qA (qu c_is_whole hr (kg (kr (i:=0)) (kg ku (kg (yo T.g_MOST_STRIP_STAMPS.choose_spec) ki))))))
  (kH (wZ (c:=4) XS.m_NoNumber rfl XS.e_NoNumber.ex))
  kU)
  qY)
abbrev wI:Stmt:=top 92
def Yd:kQ ["_law_what","_law_sheet_here","_law_cell","_law_bad"] ["_law_what","_law_sheet_here","_law_cell","_law_bad"] (kL wI):=⟨rfl,rfl,rfl,by decide +kernel,rfl,by decide +kernel,by decide +kernel⟩
def Wu {f:Addr}{fd:FuncData}(T:Txt K mg)(C:Fn1 K mg "_law_with_number" wI ["_law_what","_law_sheet_here","_law_cell","_law_bad"] f fd)(XS:Xs K mg ca)(cx_pieces:FkX PP w K mg base (CL ca) "pieces" yi ["sheet","most"] 7 wF)(cx_worths:FkX PP w K mg base (CL ca) "worths" yW ["sheet","most"] 8 xH)(cx_first_missing:FkX PP w K mg base (CL ca) "first_missing" vV ["sheet","most"] 9 vM)(cx_fair:FkX PP w K mg base (CL ca) "fair" Vs ["sheet","many"] 7 K5)(cx_best_strip:FkX PP w K mg base (CL ca) "best_strip" ye ["many"] 3 zP)(cx_gone_and_come:FkX PP w K mg base (CL ca) "gone_and_come" vj ["sheet","most","cell","number"] 8 qw)(cx_piece_for:FkX PP w K mg base (CL ca) "piece_for" xW ["sheet","number"] 7 xj) :
 FkX PP w K mg base (CL ca) "_law_with_number" wI ["_law_what","_law_sheet_here","_law_cell","_law_bad"] 10 xw:=by
 have sc:=Yd;refine fkx C (qh (qf (k:=9) (fb:=yG) C.F sc [false,false,false,false] (by decide) λcdv A outer s H E Ah hr=>?_) (qX yG));have hu:=hr.units
 exact (kC (qe (qo (yu hu) yT (ko (i:=0)) ku)
  (kH (kN (VB (wL cx_pieces hr (kT.passes kI rfl) (wL cx_worths hr (kT.passes kI rfl) (wL cx_first_missing hr (kT.passes kI rfl) (wL cx_fair hr (kT.passes kI rfl) .nil)))) (ko (i:=0)) (kg (kr (i:=1)) (kg (kr (i:=3)) ki)))))
  kU)
  (kC (qe (qo (wB hu) x9 (ko (i:=0)) ku)
  (kH (kN (qd cx_best_strip hr (kT.passes kI rfl) (kg (kr (i:=3)) ki))))
  kU)
  (kC (qe (qo (wB hu) x9 (ko (i:=0)) ku)
  (kH (kN (qd cx_gone_and_come hr (kT.passes kI rfl) (kg (kr (i:=1)) (kg (kr (i:=3)) (kg vt (kg vt ki)))))))
  kU)
  (kH (kN (qd cx_piece_for hr (kT.passes kI rfl) (kg (kr (i:=1)) (kg (qx (qF.s (k6 (kg (kr (i:=3)) (kg (Snd.any (Xk Wd ku)) ki)))) (vC kco T.b_int (by kernel_rfl) (kg (Snd.any (Ko (wB hu) (ko (i:=3)) ku)) ki))) ki))))))))
abbrev w6:Stmt:=top 93
def Zh:kQ ["_law_what","_law_sheet_here","_law_cell","_law_bad"] ["_law_what","_law_sheet_here","_law_cell","_law_bad"] (kL w6):=⟨rfl,rfl,rfl,by decide +kernel,rfl,by decide +kernel,by decide +kernel⟩
def WW {f:Addr}{fd:FuncData}(T:Txt K mg)(C:Fn1 K mg "_law_with_worth" w6 ["_law_what","_law_sheet_here","_law_cell","_law_bad"] f fd)(XS:Xs K mg ca)(cx_changed:FkX PP w K mg base (CL ca) "changed" xE ["sheet","cell","number"] 7 vE)(cx_gone_and_come:FkX PP w K mg base (CL ca) "gone_and_come" vj ["sheet","most","cell","number"] 8 qw) :
 FkX PP w K mg base (CL ca) "_law_with_worth" w6 ["_law_what","_law_sheet_here","_law_cell","_law_bad"] 9 xJ:=by
 have sc:=Zh;refine fkx C (qh (qf (k:=8) (fb:=zh) C.F sc [false,false,false,false] (by decide) λcdv A outer s H E Ah hr=>?_) (qX zh));have hu:=hr.units
 exact (kC (qe (qo (wB hu) x9 (ko (i:=0)) ku)
  (kH (kN (qd cx_changed hr (kT.passes kI rfl) (kg (kr (i:=1)) (kg (kr (i:=2)) (kg (kr (i:=3)) ki))))))
  kU)
  (kH (kN (qd cx_gone_and_come hr (kT.passes kI rfl) (kg (kr (i:=1)) (kg ku (kg (kr (i:=2)) (kg (kr (i:=3)) ki))))))))
abbrev K3:Stmt:=top 94
def kby:kQ ["_law_sheet_here","_law_kind","_law_what","_law_cell","_law_cells_here","_law_bad","_law_some"] ["_law_sheet_here","_law_kind","_law_what","_law_cell"] (kL K3):=⟨rfl,rfl,rfl,by decide +kernel,rfl,by decide +kernel,by decide +kernel⟩
def jV {f:Addr}{fd:FuncData}(T:Txt K mg)(C:Fn1 K mg "_law_case" K3 ["_law_sheet_here","_law_kind","_law_what","_law_cell"] f fd)(XS:Xs K mg ca)(c_l_cells:Fk PP w K mg base (CL ca) "_law_cells" Qo ["_law_sheet_here"] 1 VQ)(cx__law_with_sheet:FkX PP w K mg base (CL ca) "_law_with_sheet" w5 ["_law_what","_law_bad","_law_good"] 11 xO)(cx__law_with_cell:FkX PP w K mg base (CL ca) "_law_with_cell" xC ["_law_what","_law_sheet_here","_law_bad","_law_number"] 9 x6)(cx_tears:FkX PP w K mg base (CL ca) "tears" Qh ["sheet","parts"] 9 yX)(cx__law_with_number:FkX PP w K mg base (CL ca) "_law_with_number" wI ["_law_what","_law_sheet_here","_law_cell","_law_bad"] 10 xw)(cx__law_with_worth:FkX PP w K mg base (CL ca) "_law_with_worth" w6 ["_law_what","_law_sheet_here","_law_cell","_law_bad"] 9 xJ)(cx_torn:FkX PP w K mg base (CL ca) "torn" Qt ["sheet","wants"] 7 ze)(cx_fewest_tears:FkX PP w K mg base (CL ca) "fewest_tears" we ["sheet","wants"] 8 vW) :
 FkX PP w K mg base (CL ca) "_law_case" K3 ["_law_sheet_here","_law_kind","_law_what","_law_cell"] 12 wD:=by
 have sc:=kby;refine fkx C (qh (qf (k:=11) (fb:=Ww) C.F sc [false,false,false,false,false,false,false] (by decide) λcdv A outer s H E Ah hr=>?_) (qX Ww));have hu:=hr.units;refine kC ?_ ?_
 ·exact (qL (i:=4) sc.nd (qu c_l_cells hr (kg (kr (i:=0)) ki)))
 refine kC ?_ ?_
 ·exact (qe (qo (wB hu) x9 (ko (i:=1)) ku)
   (kH (kN (qd cx__law_with_sheet hr (kT.passes kI rfl) (kg (Snd.any (kO vn (ko (i:=2)) ku)) (kg (qx (qF.s (k6 (kg vt (kg (vC Y6.s T.b_list (by kernel_rfl) (kg (ko (i:=0)) ki)) (kg (vq ki) (kg (vq (kg (vq (kg ku ki)) ki)) (kg (vq (kg (vq (kg vt ki)) ki)) (kg (vq (kg (vq (kg vN ki)) ki)) ki)))))))) (Snd.any (kO vn (ko (i:=3)) ku))) (kg (kr (i:=0)) ki))))))
   kU)
 refine kC ?_ ?_
 ·exact (qe (qo (wB hu) x9 (ko (i:=1)) ku)
   (kC (by refine JY (i:=5) ?he ?hs ?hnd ?ho ?hi ?hx ?hf;(case hs=>kernel_rfl);(case hnd=>exact sc.nd);(case ho=>decide);(case hi=>rfl);(case hx=>first | exact Or.inl rfl | exact Or.inr rfl);(case hf=>first | exact .inl rfl | exact .inr rfl | assumption);(case he=>exact (qx (qF.s (k6 (kg (vq (kg ku (kg ku ki))) (kg (vq (kg ku (kg ku ki))) (kg (vq (kg (Snd.any (Xk Wd ku)) (kg ku ki))) (kg (qF.s (k6 (kg ku (kg ku ki)))) (kg (vq (kg vN (kg ku ki))) (kg (vq (kg ku ki)) (kg vt (kg Xx (kg (Snd.any (kO vp (qx (ko (i:=4)) ku) (vq (kg ku ki)))) ki))))))))))) (Snd.any (kO vn (ko (i:=3)) ku)))))
   (kH (kN (qd cx__law_with_cell hr (kT.passes kI rfl) (kg (Snd.any (kO vn (ko (i:=2)) ku)) (kg (kr (i:=0)) (kg (kr (i:=5)) (kg (qx (qF.s (k6 (kg vt (kg ku ki)))) (Snd.any (kO vn (Snd.any (kO kag (ko (i:=3)) ku)) ku))) ki))))))))
   kU)
 refine kC ?_ ?_
 ·exact (qe (qo (wB hu) x9 (ko (i:=1)) ku)
   (kC (qL (i:=6) sc.nd (qF.s (k6 (kg (Snd.any (kO UX (qF.s (k6 (kg (vC vP T.b_tuple (by kernel_rfl) (kg (ko (i:=4)) ki)) ki))) ku)) (kg (qF.s (k6 (kg (vC vP T.b_tuple (by kernel_rfl) (kg (uE (ko (i:=4)) (jl ku) jz) ki)) ki))) (kg (vC vP T.b_tuple (by kernel_rfl) (kg (qF.s (k6 (kg (vC vP T.b_tuple (by kernel_rfl) (kg (ko (i:=4)) ki)) ki))) ki)) (kg vt (kg (qF.s (k6 ki)) (kg (qF.s (k6 (kg (vC Y6.s T.b_list (by kernel_rfl) (kg (ko (i:=4)) ki)) ki))) ki)))))))))
   (kH (kN (qd cx_tears hr (kT.passes kI rfl) (kg (kr (i:=0)) (kg (qx (Snd.any (kO vp (ko (i:=6)) (qF.s (k6 (kg (qF.s (k6 (kg (vC vP T.b_tuple (by kernel_rfl) (kg (ko (i:=4)) ki)) (kg vt ki)))) ki))))) (Snd.any (kO vn (ko (i:=3)) ku))) ki))))))
   kU)
 refine kC ?_ ?_
 ·exact (qe (qo (wB hu) x9 (ko (i:=1)) ku)
   (kC (qL (i:=5) sc.nd (qx (qF.s (k6 (kg ku (kg (Snd.any (Xk Wd ku)) (kg vN (kg Xx (kg vt (kg ku ki)))))))) (Snd.any (kO vn (ko (i:=3)) ku))))
   (kC (qe (qo (yu hu) yT (Snd.any (kO vn (ko (i:=2)) ku)) ku)
   (kH (kN (qd cx__law_with_number hr (kT.passes kI rfl) (kg (Snd.any (kO vn (ko (i:=2)) ku)) (kg (kr (i:=0)) (kg (qx (ko (i:=4)) ku) (kg (kr (i:=5)) ki)))))))
   kU)
   (kH (kN (qd cx__law_with_worth hr (kT.passes kI rfl) (kg (Snd.any (kO Kn (Snd.any (kO vn (ko (i:=2)) ku)) ku)) (kg (kr (i:=0)) (kg (qx (ko (i:=4)) ku) (kg (qx (qF.s (k6 (kg ku (kg (Snd.any (Xk Wd ku)) (kg vN (kg Xx (kg vt (kg ku ki)))))))) (Snd.any (kO vn (ko (i:=3)) ku))) ki)))))))))
   kU)
 refine kC ?_ ?_
 ·exact (by refine JY (i:=5) ?he ?hs ?hnd ?ho ?hi ?hx ?hf;(case hs=>kernel_rfl);(case hnd=>exact sc.nd);(case ho=>decide);(case hi=>rfl);(case hx=>first | exact Or.inl rfl | exact Or.inr rfl);(case hf=>first | exact .inl rfl | exact .inr rfl | assumption);(case he=>exact (qx (qF.s (k6 (kg (vq (kg ku ki)) (kg (qF.s (k6 ki)) (kg (qF.s (k6 (kg ku ki))) (kg (qF.s (k6 (kg ku (kg (Snd.any (Xk Wd ku)) ki)))) (kg (qF.s (k6 (kg vN ki))) (kg (qF.s (k6 (kg Xx ki))) (kg vt (kg (Snd.any (kO UX (qF.s (k6 (kg ku ki))) ku)) (kg (qF.s (k6 (kg ku (kg vt ki)))) ki))))))))))) (Snd.any (kO vn (ko (i:=3)) ku)))))
 exact (kH (kN (VB (wL cx_torn hr (kT.passes kI rfl) (wL cx_fewest_tears hr (kT.passes kI rfl) .nil)) (Snd.any (kO vn (ko (i:=2)) ku)) (kg (kr (i:=0)) (kg (kr (i:=5)) ki)))))
abbrev WR:Stmt:=top 95
def kgA:kQ ["_law_script","_law_sheet_here","_law_kind","e","_law_own"] ["_law_script"] (kL WR):=⟨rfl,rfl,rfl,by decide +kernel,rfl,by decide +kernel,by decide +kernel⟩
def khA {f:Addr}{fd:FuncData}(T:Txt K mg)(F:Fun K "law" "law" WR f fd)(XS:Xs K mg ca)(c_l_sheet:Fk PP w K mg base (CL ca) "_law_sheet" Qy ["_law_script","_law_at","_law_most"] 3 Qu)(c_l_mixed:Fk PP w K mg base (CL ca) "_law_mixed" Kf ["_law_script","_law_k","_law_many"] 2 vO)(cx__law_case:FkX PP w K mg base (CL ca) "_law_case" K3 ["_law_sheet_here","_law_kind","_law_what","_law_cell"] 12 wD) :
 wg PP w K mg base CX0 13 f fd ["_law_script"] (spP K (CL ca) 1 Wn):=by
 have sc:=kgA;refine qh (qf (k:=12) (fb:=λenv=>(kbj env).nx) F sc [false,false,false,false,true] (by decide) λcdv A outer s H E Ah hr=>qV ?_) (v7 kbj);have hu:=hr.units
 exact (kC (qL (i:=1) sc.nd (qu c_l_sheet hr (kg (kr (i:=0)) (kg ku (kg ku ki)))))
  (kC (qL (i:=2) sc.nd (qu c_l_mixed hr (kg (kr (i:=0)) (kg ku (kg ku ki)))))
  (kC (kdl (i:=3) (ik:=2) rfl rfl sc.nd XS.m_SheetError XS.u_SheetError (up5 XS.w_NoSheet XS.w_NoCell XS.w_NoPiece XS.w_NoNumber XS.w_NoWants) cx__law_case hr
  (λp EE E1=>(kg (kr (i:=1)) (kg (kr (i:=2)) (kg (qu c_l_mixed hr (kg (kr (i:=0)) (kg ku (kg (Snd.any (kO Kh ku ku)) ki)))) (kg (qu c_l_mixed hr (kg (kr (i:=0)) (kg ku (kg (Snd.any (kO kgb ku ku)) ki)))) ki)))))
  (tk5 (Y9 (io:=4) (c:=0) (λp A2 EE ea oe mem hce=>Xc (io:=4) (ik:=2) (c:=0) (by decide) sc.nd (qK XS.e_NoSheet mem hce XS.k_NoSheet_NoSheet T.b_isinstance XS.m_NoSheet) (qK XS.e_NoSheet mem hce XS.k_NoSheet_NoCell T.b_isinstance XS.m_NoCell) (qK XS.e_NoSheet mem hce XS.k_NoSheet_NoPiece T.b_isinstance XS.m_NoPiece) (qK XS.e_NoSheet mem hce XS.k_NoSheet_NoNumber T.b_isinstance XS.m_NoNumber) (qK XS.e_NoSheet mem hce XS.k_NoSheet_NoWants T.b_isinstance XS.m_NoWants) (qK XS.e_NoSheet mem hce XS.k_NoSheet_NoText T.b_isinstance XS.m_NoText) (Xj (TT:="ValueError") XS.e_NoSheet mem hce XS.k_NoSheet_ValueError T.b_isinstance T.b_ValueError)) (hio:=(show 4 < 5 from by decide)))
  (Y9 (io:=4) (c:=1) (λp A2 EE ea oe mem hce=>Xc (io:=4) (ik:=2) (c:=1) (by decide) sc.nd (qK XS.e_NoCell mem hce XS.k_NoCell_NoSheet T.b_isinstance XS.m_NoSheet) (qK XS.e_NoCell mem hce XS.k_NoCell_NoCell T.b_isinstance XS.m_NoCell) (qK XS.e_NoCell mem hce XS.k_NoCell_NoPiece T.b_isinstance XS.m_NoPiece) (qK XS.e_NoCell mem hce XS.k_NoCell_NoNumber T.b_isinstance XS.m_NoNumber) (qK XS.e_NoCell mem hce XS.k_NoCell_NoWants T.b_isinstance XS.m_NoWants) (qK XS.e_NoCell mem hce XS.k_NoCell_NoText T.b_isinstance XS.m_NoText) (Xj (TT:="ValueError") XS.e_NoCell mem hce XS.k_NoCell_ValueError T.b_isinstance T.b_ValueError)) (hio:=(show 4 < 5 from by decide)))
  (Y9 (io:=4) (c:=2) (λp A2 EE ea oe mem hce=>Xc (io:=4) (ik:=2) (c:=2) (by decide) sc.nd (qK XS.e_NoPiece mem hce XS.k_NoPiece_NoSheet T.b_isinstance XS.m_NoSheet) (qK XS.e_NoPiece mem hce XS.k_NoPiece_NoCell T.b_isinstance XS.m_NoCell) (qK XS.e_NoPiece mem hce XS.k_NoPiece_NoPiece T.b_isinstance XS.m_NoPiece) (qK XS.e_NoPiece mem hce XS.k_NoPiece_NoNumber T.b_isinstance XS.m_NoNumber) (qK XS.e_NoPiece mem hce XS.k_NoPiece_NoWants T.b_isinstance XS.m_NoWants) (qK XS.e_NoPiece mem hce XS.k_NoPiece_NoText T.b_isinstance XS.m_NoText) (Xj (TT:="ValueError") XS.e_NoPiece mem hce XS.k_NoPiece_ValueError T.b_isinstance T.b_ValueError)) (hio:=(show 4 < 5 from by decide)))
  (Y9 (io:=4) (c:=3) (λp A2 EE ea oe mem hce=>Xc (io:=4) (ik:=2) (c:=3) (by decide) sc.nd (qK XS.e_NoNumber mem hce XS.k_NoNumber_NoSheet T.b_isinstance XS.m_NoSheet) (qK XS.e_NoNumber mem hce XS.k_NoNumber_NoCell T.b_isinstance XS.m_NoCell) (qK XS.e_NoNumber mem hce XS.k_NoNumber_NoPiece T.b_isinstance XS.m_NoPiece) (qK XS.e_NoNumber mem hce XS.k_NoNumber_NoNumber T.b_isinstance XS.m_NoNumber) (qK XS.e_NoNumber mem hce XS.k_NoNumber_NoWants T.b_isinstance XS.m_NoWants) (qK XS.e_NoNumber mem hce XS.k_NoNumber_NoText T.b_isinstance XS.m_NoText) (Xj (TT:="ValueError") XS.e_NoNumber mem hce XS.k_NoNumber_ValueError T.b_isinstance T.b_ValueError)) (hio:=(show 4 < 5 from by decide)))
  (Y9 (io:=4) (c:=4) (λp A2 EE ea oe mem hce=>Xc (io:=4) (ik:=2) (c:=4) (by decide) sc.nd (qK XS.e_NoWants mem hce XS.k_NoWants_NoSheet T.b_isinstance XS.m_NoSheet) (qK XS.e_NoWants mem hce XS.k_NoWants_NoCell T.b_isinstance XS.m_NoCell) (qK XS.e_NoWants mem hce XS.k_NoWants_NoPiece T.b_isinstance XS.m_NoPiece) (qK XS.e_NoWants mem hce XS.k_NoWants_NoNumber T.b_isinstance XS.m_NoNumber) (qK XS.e_NoWants mem hce XS.k_NoWants_NoWants T.b_isinstance XS.m_NoWants) (qK XS.e_NoWants mem hce XS.k_NoWants_NoText T.b_isinstance XS.m_NoText) (Xj (TT:="ValueError") XS.e_NoWants mem hce XS.k_NoWants_ValueError T.b_isinstance T.b_ValueError)) (hio:=(show 4 < 5 from by decide)))))
  (kH (kN vN)))))
end
def all_mk {l:PySem.W.OpenLaw}{w:World}{K:zFr}{h:Heap}{mg:Str->Option Value}{fa:Addr}{a_SheetError:Addr}{a_NoSheet:Addr}{a_NoCell:Addr}{a_NoPiece:Addr}{a_NoNumber:Addr}{a_NoWants:Addr}{a_NoText:Addr}(X:K.In h)(Gn:h.Ns mainGlobals mg)(hfa:mg "law" = some (.ref fa))
 (a2:∃f,Df K "_law_sheet" Qy f)
 (a3:∃f,Df K "_law_mixed" Kf f)
 (a4:∃f,Df K "_law_cell_at" zE f)
 (a5:∃f,Df K "_law_case" K3 f)
 (a6:∃f,Df K "_law_cells" Qo f)
 (a7:∃f,Df K "_law_with_sheet" w5 f)
 (a8:∃f,Df K "stamps" zX f)
 (a9:∃f,Df K "stamp_cells" wM f)
 (a10:∃f,Df K "checked" qP f)
 (a11:∃f,Df K "is_sheet" KG f)
 (a12:∃f,Df K "is_row" Vz f)
 (a13:∃f,Df K "is_place" Ku f)
 (a14:∃f,Df K "is_whole" wW f)
 (a15:∃f,Df K "is_whole_from" vU f)
 (a16:∃f,Df K "counts" Qe f)
 (a17:∃f,Df K "needless" zg f)
 (a18:∃f,Df K "pieces" yi f)
 (a19:∃f,Df K "checked_number" vz f)
 (a20:∃f,Df K "turned" zV f)
 (a21:∃f,Df K "column_from_below" wc f)
 (a22:∃f,Df K "mirrored" yj f)
 (a23:∃f,Df K "least" K1 f)
 (a24:∃f,Df K "all_eight" zD f)
 (a25:∃f,Df K "sheet_rank" yQ f)
 (a26:∃f,Df K "place_rank" y9 f)
 (a27:∃f,Df K "shown" Ve f)
 (a28:∃f,Df K "near" Vi f)
 (a29:∃f,Df K "near_cells" yg f)
 (a30:∃f,Df K "is_cell" yM f)
 (a31:∃f,Df K "checked_cell" wj f)
 (a32:∃f,Df K "is_piece" xS f)
 (a33:∃f,Df K "is_rising" zF f)
 (a34:∃f,Df K "hangs_together" xm f)
 (a35:∃f,Df K "worth" Q6 f)
 (a36:∃f,Df K "worths" yW f)
 (a37:∃f,Df K "rising_worths" xQ f)
 (a38:∃f,Df K "first_missing" vV f)
 (a39:∃f,Df K "least_missing" xK f)
 (a40:∃f,Df K "piece_for" xW f)
 (a41:∃f,Df K "torn" Qt f)
 (a42:∃f,Df K "checked_wants" wH f)
 (a43:∃f,Df K "fewest_tears" we f)
 (a44:∃f,Df K "tears" Qh f)
 (a45:∃f,Df K "are_parts" zJ f)
 (a46:∃f,Df K "fair" Vs f)
 (a47:∃f,Df K "alike" Q4 f)
 (a48:∃f,Df K "changed" xE f)
 (a49:∃f,Df K "gone_and_come" vj f)
 (a50:∃f,Df K "_law_with_cell" xC f)
 (a51:∃f,Df K "_law_with_number" wI f)
 (a52:∃f,Df K "best_strip" ye f)
 (a53:∃f,Df K "_law_with_worth" w6 f)
 (g1:∃t,PySem.W.nsIn K mainGlobals "MOST_COLUMNS" = some (some (.int 5 t)))
 (g2:∃t,PySem.W.nsIn K mainGlobals "MOST_ROWS" = some (some (.int 5 t)))
 (g3:∃t,PySem.W.nsIn K mainGlobals "MOST_STAMPS" = some (some (.int 12 t)))
 (g4:∃t,PySem.W.nsIn K mainGlobals "MOST_STRIP_STAMPS" = some (some (.int 4 t)))
 (g5:∃t,PySem.W.nsIn K mainGlobals "MOST_WANTS" = some (some (.int 12 t)))
 (g6:∃t,PySem.W.nsIn K mainGlobals "MOST_WORTH" = some (some (.int 9999 t)))
 (z1:PySem.W.nsIn K mainGlobals "ValueError" = some none)
 (z2:PySem.W.nsIn K mainGlobals "all" = some none)
 (z3:PySem.W.nsIn K mainGlobals "any" = some none)
 (z4:PySem.W.nsIn K mainGlobals "bool" = some none)
 (z5:PySem.W.nsIn K mainGlobals "enumerate" = some none)
 (z6:PySem.W.nsIn K mainGlobals "int" = some none)
 (z7:PySem.W.nsIn K mainGlobals "isinstance" = some none)
 (z8:PySem.W.nsIn K mainGlobals "len" = some none)
 (z9:PySem.W.nsIn K mainGlobals "list" = some none)
 (z10:PySem.W.nsIn K mainGlobals "min" = some none)
 (z11:PySem.W.nsIn K mainGlobals "range" = some none)
 (z12:PySem.W.nsIn K mainGlobals "reversed" = some none)
 (z13:PySem.W.nsIn K mainGlobals "sorted" = some none)
 (z14:PySem.W.nsIn K mainGlobals "tuple" = some none)
 (z15:PySem.W.nsIn K mainGlobals "zip" = some none)
 (y_SheetError:PySem.W.nsIn K mainGlobals "SheetError" = some (some (.ref a_SheetError)))
 (y_NoSheet:PySem.W.nsIn K mainGlobals "NoSheet" = some (some (.ref a_NoSheet)))
 (y_NoCell:PySem.W.nsIn K mainGlobals "NoCell" = some (some (.ref a_NoCell)))
 (y_NoPiece:PySem.W.nsIn K mainGlobals "NoPiece" = some (some (.ref a_NoPiece)))
 (y_NoNumber:PySem.W.nsIn K mainGlobals "NoNumber" = some (some (.ref a_NoNumber)))
 (y_NoWants:PySem.W.nsIn K mainGlobals "NoWants" = some (some (.ref a_NoWants)))
 (y_NoText:PySem.W.nsIn K mainGlobals "NoText" = some (some (.ref a_NoText)))
 (v_NoCell:zS K a_NoCell)
 (v_NoNumber:zS K a_NoNumber)
 (v_NoPiece:zS K a_NoPiece)
 (v_NoSheet:zS K a_NoSheet)
 (v_NoWants:zS K a_NoWants)
 (k_NoCell_NoCell:PySem.W.kitOne K (.ref a_NoCell) (.ref a_NoCell)=some true)
 (k_NoCell_NoNumber:PySem.W.kitOne K (.ref a_NoCell) (.ref a_NoNumber)=some false)
 (k_NoCell_NoPiece:PySem.W.kitOne K (.ref a_NoCell) (.ref a_NoPiece)=some false)
 (k_NoCell_NoSheet:PySem.W.kitOne K (.ref a_NoCell) (.ref a_NoSheet)=some false)
 (k_NoCell_NoText:PySem.W.kitOne K (.ref a_NoCell) (.ref a_NoText)=some false)
 (k_NoCell_NoWants:PySem.W.kitOne K (.ref a_NoCell) (.ref a_NoWants)=some false)
 (k_NoCell_ValueError:PySem.W.kitOne K (.ref a_NoCell) (.type "ValueError")=some true)
 (k_NoNumber_NoCell:PySem.W.kitOne K (.ref a_NoNumber) (.ref a_NoCell)=some false)
 (k_NoNumber_NoNumber:PySem.W.kitOne K (.ref a_NoNumber) (.ref a_NoNumber)=some true)
 (k_NoNumber_NoPiece:PySem.W.kitOne K (.ref a_NoNumber) (.ref a_NoPiece)=some false)
 (k_NoNumber_NoSheet:PySem.W.kitOne K (.ref a_NoNumber) (.ref a_NoSheet)=some false)
 (k_NoNumber_NoText:PySem.W.kitOne K (.ref a_NoNumber) (.ref a_NoText)=some false)
 (k_NoNumber_NoWants:PySem.W.kitOne K (.ref a_NoNumber) (.ref a_NoWants)=some false)
 (k_NoNumber_ValueError:PySem.W.kitOne K (.ref a_NoNumber) (.type "ValueError")=some true)
 (k_NoPiece_NoCell:PySem.W.kitOne K (.ref a_NoPiece) (.ref a_NoCell)=some false)
 (k_NoPiece_NoNumber:PySem.W.kitOne K (.ref a_NoPiece) (.ref a_NoNumber)=some false)
 (k_NoPiece_NoPiece:PySem.W.kitOne K (.ref a_NoPiece) (.ref a_NoPiece)=some true)
 (k_NoPiece_NoSheet:PySem.W.kitOne K (.ref a_NoPiece) (.ref a_NoSheet)=some false)
 (k_NoPiece_NoText:PySem.W.kitOne K (.ref a_NoPiece) (.ref a_NoText)=some false)
 (k_NoPiece_NoWants:PySem.W.kitOne K (.ref a_NoPiece) (.ref a_NoWants)=some false)
 (k_NoPiece_ValueError:PySem.W.kitOne K (.ref a_NoPiece) (.type "ValueError")=some true)
 (k_NoSheet_NoCell:PySem.W.kitOne K (.ref a_NoSheet) (.ref a_NoCell)=some false)
 (k_NoSheet_NoNumber:PySem.W.kitOne K (.ref a_NoSheet) (.ref a_NoNumber)=some false)
 (k_NoSheet_NoPiece:PySem.W.kitOne K (.ref a_NoSheet) (.ref a_NoPiece)=some false)
 (k_NoSheet_NoSheet:PySem.W.kitOne K (.ref a_NoSheet) (.ref a_NoSheet)=some true)
 (k_NoSheet_NoText:PySem.W.kitOne K (.ref a_NoSheet) (.ref a_NoText)=some false)
 (k_NoSheet_NoWants:PySem.W.kitOne K (.ref a_NoSheet) (.ref a_NoWants)=some false)
 (k_NoSheet_ValueError:PySem.W.kitOne K (.ref a_NoSheet) (.type "ValueError")=some true)
 (k_NoWants_NoCell:PySem.W.kitOne K (.ref a_NoWants) (.ref a_NoCell)=some false)
 (k_NoWants_NoNumber:PySem.W.kitOne K (.ref a_NoWants) (.ref a_NoNumber)=some false)
 (k_NoWants_NoPiece:PySem.W.kitOne K (.ref a_NoWants) (.ref a_NoPiece)=some false)
 (k_NoWants_NoSheet:PySem.W.kitOne K (.ref a_NoWants) (.ref a_NoSheet)=some false)
 (k_NoWants_NoText:PySem.W.kitOne K (.ref a_NoWants) (.ref a_NoText)=some false)
 (k_NoWants_NoWants:PySem.W.kitOne K (.ref a_NoWants) (.ref a_NoWants)=some true)
 (k_NoWants_ValueError:PySem.W.kitOne K (.ref a_NoWants) (.type "ValueError")=some true)
 (u_SheetError:PySem.W.ktsIn K a_SheetError "BaseException" = true)
 (w_NoSheet:PySem.W.mroIn K a_NoSheet (.ref a_SheetError)=some true)
 (w_NoCell:PySem.W.mroIn K a_NoCell (.ref a_SheetError)=some true)
 (w_NoPiece:PySem.W.mroIn K a_NoPiece (.ref a_SheetError)=some true)
 (w_NoNumber:PySem.W.mroIn K a_NoNumber (.ref a_SheetError)=some true)
 (w_NoWants:PySem.W.mroIn K a_NoWants (.ref a_SheetError)=some true)
 (al:∃f,Df K "law" WR f) :
 ∃fd:FuncData,(∀ (s:Shared) (v:Value),BindsTo s fd ⟨[v],[]⟩ [("_law_script",v)])/\∀base:Heap,K.In base->base.Ns mainGlobals mg->wg l.prog w K mg base CX0 13 fa fd ["_law_script"] (spP K (λ_=>.none) 1 Wn):=by
 obtain⟨fl,ln,oc,od,sl,kV,dc,pm,an,cd,ct,ll,lc,lk⟩:=al;have e:=hfa.symm.trans (PySem.W.mg_of X Gn ln);cases e;obtain⟨f2,a2⟩:=a2;obtain⟨d2,C2⟩:=qi (ps:=["_law_script","_law_at","_law_most"]) X Gn a2 λ_ F=>V2 F λ_ _ _ _ _ _ _ _ _=>rfl
 obtain⟨f3,a3⟩:=a3;obtain⟨d3,C3⟩:=qi (ps:=["_law_script","_law_k","_law_many"]) X Gn a3 λ_ F=>V2 F λ_ _ _ _ _ _ _ _ _=>rfl
 obtain⟨f4,a4⟩:=a4;obtain⟨d4,C4⟩:=qi (ps:=["_law_script","_law_k"]) X Gn a4 λ_ F=>vf F λ_ _ _ _ _ _ _ _=>rfl
 obtain⟨f5,a5⟩:=a5;obtain⟨d5,C5⟩:=qi (ps:=["_law_sheet_here","_law_kind","_law_what","_law_cell"]) X Gn a5 λ_ F=>Wc F λ_ _ _ _ _ _ _ _ _ _=>rfl
 obtain⟨f6,a6⟩:=a6;obtain⟨d6,C6⟩:=qi (ps:=["_law_sheet_here"]) X Gn a6 λ_ F=>ve F λ_ _ _ _ _ _ _=>rfl
 obtain⟨f7,a7⟩:=a7;obtain⟨d7,C7⟩:=qi (ps:=["_law_what","_law_bad","_law_good"]) X Gn a7 λ_ F=>V2 F λ_ _ _ _ _ _ _ _ _=>rfl
 obtain⟨f8,a8⟩:=a8;obtain⟨d8,C8⟩:=qi (ps:=["sheet"]) X Gn a8 λ_ F=>ve F λ_ _ _ _ _ _ _=>rfl
 obtain⟨f9,a9⟩:=a9;obtain⟨d9,C9⟩:=qi (ps:=["sheet"]) X Gn a9 λ_ F=>ve F λ_ _ _ _ _ _ _=>rfl
 obtain⟨f10,a10⟩:=a10;obtain⟨d10,C10⟩:=qi (ps:=["sheet"]) X Gn a10 λ_ F=>ve F λ_ _ _ _ _ _ _=>rfl
 obtain⟨f11,a11⟩:=a11;obtain⟨d11,C11⟩:=qi (ps:=["thing"]) X Gn a11 λ_ F=>ve F λ_ _ _ _ _ _ _=>rfl
 obtain⟨f12,a12⟩:=a12;obtain⟨d12,C12⟩:=qi (ps:=["thing"]) X Gn a12 λ_ F=>ve F λ_ _ _ _ _ _ _=>rfl
 obtain⟨f13,a13⟩:=a13;obtain⟨d13,C13⟩:=qi (ps:=["thing"]) X Gn a13 λ_ F=>ve F λ_ _ _ _ _ _ _=>rfl
 obtain⟨f14,a14⟩:=a14;obtain⟨d14,C14⟩:=qi (ps:=["thing","lowest","highest"]) X Gn a14 λ_ F=>V2 F λ_ _ _ _ _ _ _ _ _=>rfl
 obtain⟨f15,a15⟩:=a15;obtain⟨d15,C15⟩:=qi (ps:=["thing","lowest"]) X Gn a15 λ_ F=>vf F λ_ _ _ _ _ _ _ _=>rfl
 obtain⟨f16,a16⟩:=a16;obtain⟨d16,C16⟩:=qi (ps:=["sheet"]) X Gn a16 λ_ F=>ve F λ_ _ _ _ _ _ _=>rfl
 obtain⟨f17,a17⟩:=a17;obtain⟨d17,C17⟩:=qi (ps:=["sheet"]) X Gn a17 λ_ F=>ve F λ_ _ _ _ _ _ _=>rfl
 obtain⟨f18,a18⟩:=a18;obtain⟨d18,C18⟩:=qi (ps:=["sheet","most"]) X Gn a18 λ_ F=>vf F λ_ _ _ _ _ _ _ _=>rfl
 obtain⟨f19,a19⟩:=a19;obtain⟨d19,C19⟩:=qi (ps:=["number"]) X Gn a19 λ_ F=>ve F λ_ _ _ _ _ _ _=>rfl
 obtain⟨f20,a20⟩:=a20;obtain⟨d20,C20⟩:=qi (ps:=["sheet"]) X Gn a20 λ_ F=>ve F λ_ _ _ _ _ _ _=>rfl
 obtain⟨f21,a21⟩:=a21;obtain⟨d21,C21⟩:=qi (ps:=["sheet","column"]) X Gn a21 λ_ F=>vf F λ_ _ _ _ _ _ _ _=>rfl
 obtain⟨f22,a22⟩:=a22;obtain⟨d22,C22⟩:=qi (ps:=["sheet"]) X Gn a22 λ_ F=>ve F λ_ _ _ _ _ _ _=>rfl
 obtain⟨f23,a23⟩:=a23;obtain⟨d23,C23⟩:=qi (ps:=["sheet"]) X Gn a23 λ_ F=>ve F λ_ _ _ _ _ _ _=>rfl
 obtain⟨f24,a24⟩:=a24;obtain⟨d24,C24⟩:=qi (ps:=["sheet"]) X Gn a24 λ_ F=>ve F λ_ _ _ _ _ _ _=>rfl
 obtain⟨f25,a25⟩:=a25;obtain⟨d25,C25⟩:=qi (ps:=["sheet"]) X Gn a25 λ_ F=>ve F λ_ _ _ _ _ _ _=>rfl
 obtain⟨f26,a26⟩:=a26;obtain⟨d26,C26⟩:=qi (ps:=["place"]) X Gn a26 λ_ F=>ve F λ_ _ _ _ _ _ _=>rfl
 obtain⟨f27,a27⟩:=a27;obtain⟨d27,C27⟩:=qi (ps:=["sheet"]) X Gn a27 λ_ F=>ve F λ_ _ _ _ _ _ _=>rfl
 obtain⟨f28,a28⟩:=a28;obtain⟨d28,C28⟩:=qi (ps:=["sheet","cell"]) X Gn a28 λ_ F=>vf F λ_ _ _ _ _ _ _ _=>rfl
 obtain⟨f29,a29⟩:=a29;obtain⟨d29,C29⟩:=qi (ps:=["sheet","cell"]) X Gn a29 λ_ F=>vf F λ_ _ _ _ _ _ _ _=>rfl
 obtain⟨f30,a30⟩:=a30;obtain⟨d30,C30⟩:=qi (ps:=["sheet","thing"]) X Gn a30 λ_ F=>vf F λ_ _ _ _ _ _ _ _=>rfl
 obtain⟨f31,a31⟩:=a31;obtain⟨d31,C31⟩:=qi (ps:=["sheet","cell"]) X Gn a31 λ_ F=>vf F λ_ _ _ _ _ _ _ _=>rfl
 obtain⟨f32,a32⟩:=a32;obtain⟨d32,C32⟩:=qi (ps:=["sheet","thing"]) X Gn a32 λ_ F=>vf F λ_ _ _ _ _ _ _ _=>rfl
 obtain⟨f33,a33⟩:=a33;obtain⟨d33,C33⟩:=qi (ps:=["cells"]) X Gn a33 λ_ F=>ve F λ_ _ _ _ _ _ _=>rfl
 obtain⟨f34,a34⟩:=a34;obtain⟨d34,C34⟩:=qi (ps:=["sheet","cells"]) X Gn a34 λ_ F=>vf F λ_ _ _ _ _ _ _ _=>rfl
 obtain⟨f35,a35⟩:=a35;obtain⟨d35,C35⟩:=qi (ps:=["sheet","piece"]) X Gn a35 λ_ F=>vf F λ_ _ _ _ _ _ _ _=>rfl
 obtain⟨f36,a36⟩:=a36;obtain⟨d36,C36⟩:=qi (ps:=["sheet","most"]) X Gn a36 λ_ F=>vf F λ_ _ _ _ _ _ _ _=>rfl
 obtain⟨f37,a37⟩:=a37;obtain⟨d37,C37⟩:=qi (ps:=["sheet","some"]) X Gn a37 λ_ F=>vf F λ_ _ _ _ _ _ _ _=>rfl
 obtain⟨f38,a38⟩:=a38;obtain⟨d38,C38⟩:=qi (ps:=["sheet","most"]) X Gn a38 λ_ F=>vf F λ_ _ _ _ _ _ _ _=>rfl
 obtain⟨f39,a39⟩:=a39;obtain⟨d39,C39⟩:=qi (ps:=["rising"]) X Gn a39 λ_ F=>ve F λ_ _ _ _ _ _ _=>rfl
 obtain⟨f40,a40⟩:=a40;obtain⟨d40,C40⟩:=qi (ps:=["sheet","number"]) X Gn a40 λ_ F=>vf F λ_ _ _ _ _ _ _ _=>rfl
 obtain⟨f41,a41⟩:=a41;obtain⟨d41,C41⟩:=qi (ps:=["sheet","wants"]) X Gn a41 λ_ F=>vf F λ_ _ _ _ _ _ _ _=>rfl
 obtain⟨f42,a42⟩:=a42;obtain⟨d42,C42⟩:=qi (ps:=["wants"]) X Gn a42 λ_ F=>ve F λ_ _ _ _ _ _ _=>rfl
 obtain⟨f43,a43⟩:=a43;obtain⟨d43,C43⟩:=qi (ps:=["sheet","wants"]) X Gn a43 λ_ F=>vf F λ_ _ _ _ _ _ _ _=>rfl
 obtain⟨f44,a44⟩:=a44;obtain⟨d44,C44⟩:=qi (ps:=["sheet","parts"]) X Gn a44 λ_ F=>vf F λ_ _ _ _ _ _ _ _=>rfl
 obtain⟨f45,a45⟩:=a45;obtain⟨d45,C45⟩:=qi (ps:=["sheet","thing"]) X Gn a45 λ_ F=>vf F λ_ _ _ _ _ _ _ _=>rfl
 obtain⟨f46,a46⟩:=a46;obtain⟨d46,C46⟩:=qi (ps:=["sheet","many"]) X Gn a46 λ_ F=>vf F λ_ _ _ _ _ _ _ _=>rfl
 obtain⟨f47,a47⟩:=a47;obtain⟨d47,C47⟩:=qi (ps:=["one","other"]) X Gn a47 λ_ F=>vf F λ_ _ _ _ _ _ _ _=>rfl
 obtain⟨f48,a48⟩:=a48;obtain⟨d48,C48⟩:=qi (ps:=["sheet","cell","number"]) X Gn a48 λ_ F=>V2 F λ_ _ _ _ _ _ _ _ _=>rfl
 obtain⟨f49,a49⟩:=a49;obtain⟨d49,C49⟩:=qi (ps:=["sheet","most","cell","number"]) X Gn a49 λ_ F=>Wc F λ_ _ _ _ _ _ _ _ _ _=>rfl
 obtain⟨f50,a50⟩:=a50;obtain⟨d50,C50⟩:=qi (ps:=["_law_what","_law_sheet_here","_law_bad","_law_number"]) X Gn a50 λ_ F=>Wc F λ_ _ _ _ _ _ _ _ _ _=>rfl
 obtain⟨f51,a51⟩:=a51;obtain⟨d51,C51⟩:=qi (ps:=["_law_what","_law_sheet_here","_law_cell","_law_bad"]) X Gn a51 λ_ F=>Wc F λ_ _ _ _ _ _ _ _ _ _=>rfl
 obtain⟨f52,a52⟩:=a52;obtain⟨d52,C52⟩:=qi (ps:=["many"]) X Gn a52 λ_ F=>ve F λ_ _ _ _ _ _ _=>rfl
 obtain⟨f53,a53⟩:=a53;obtain⟨d53,C53⟩:=qi (ps:=["_law_what","_law_sheet_here","_law_cell","_law_bad"]) X Gn a53 λ_ F=>Wc F λ_ _ _ _ _ _ _ _ _ _=>rfl
 have T:Txt K mg:=⟨PySem.W.mg_none_of X Gn z1,PySem.W.mg_none_of X Gn z2,PySem.W.mg_none_of X Gn z3,PySem.W.mg_none_of X Gn z4,PySem.W.mg_none_of X Gn z5,PySem.W.mg_none_of X Gn z6,PySem.W.mg_none_of X Gn z7,PySem.W.mg_none_of X Gn z8,PySem.W.mg_none_of X Gn z9,PySem.W.mg_none_of X Gn z10,PySem.W.mg_none_of X Gn z11,PySem.W.mg_none_of X Gn z12,PySem.W.mg_none_of X Gn z13,PySem.W.mg_none_of X Gn z14,PySem.W.mg_none_of X Gn z15,XF X Gn g1,XF X Gn g2,XF X Gn g3,XF X Gn g4,XF X Gn g5,XF X Gn g6⟩;refine⟨PySem.W.fnOf "law" "law" (yc WR) (xB WR) (kL WR) .none kV dc pm an cd ct,λs v=>.of_eq rfl,λbase _ _=>?_⟩
 have XS:Xs K mg (λk=>match k with | 0=>a_SheetError | 1=>a_NoSheet | 2=>a_NoCell | 3=>a_NoPiece | 4=>a_NoNumber | 5=>a_NoWants | 6=>a_NoText | _=>0):=⟨PySem.W.mg_of X Gn y_SheetError,PySem.W.mg_of X Gn y_NoSheet,PySem.W.mg_of X Gn y_NoCell,PySem.W.mg_of X Gn y_NoPiece,PySem.W.mg_of X Gn y_NoNumber,PySem.W.mg_of X Gn y_NoWants,PySem.W.mg_of X Gn y_NoText,v_NoCell,v_NoNumber,v_NoPiece,v_NoSheet,v_NoWants,k_NoCell_NoCell,k_NoCell_NoNumber,k_NoCell_NoPiece,k_NoCell_NoSheet,k_NoCell_NoText,k_NoCell_NoWants,k_NoCell_ValueError,k_NoNumber_NoCell,k_NoNumber_NoNumber,k_NoNumber_NoPiece,k_NoNumber_NoSheet,k_NoNumber_NoText,k_NoNumber_NoWants,k_NoNumber_ValueError,k_NoPiece_NoCell,k_NoPiece_NoNumber,k_NoPiece_NoPiece,k_NoPiece_NoSheet,k_NoPiece_NoText,k_NoPiece_NoWants,k_NoPiece_ValueError,k_NoSheet_NoCell,k_NoSheet_NoNumber,k_NoSheet_NoPiece,k_NoSheet_NoSheet,k_NoSheet_NoText,k_NoSheet_NoWants,k_NoSheet_ValueError,k_NoWants_NoCell,k_NoWants_NoNumber,k_NoWants_NoPiece,k_NoWants_NoSheet,k_NoWants_NoText,k_NoWants_NoWants,k_NoWants_ValueError,u_SheetError,w_NoSheet,w_NoCell,w_NoPiece,w_NoNumber,w_NoWants⟩
 have G4:=JW (PP:=l.prog) (w:=w) (base:=base) T C4 XS;have G6:=kaL (PP:=l.prog) (w:=w) (base:=base) T C6 XS;have G9:=Z6 (PP:=l.prog) (w:=w) (base:=base) T C9 XS;have G15:=X6 (PP:=l.prog) (w:=w) (base:=base) T C15 XS;have G21:=WB (PP:=l.prog) (w:=w) (base:=base) T C21 XS;have G26:=j8 (PP:=l.prog) (w:=w) (base:=base) T C26 XS;have G33:=uW (PP:=l.prog) (w:=w) (base:=base) T C33 XS;have G37:=Yh (PP:=l.prog) (w:=w) (base:=base) T C37 XS;have G39:=Yo (PP:=l.prog) (w:=w) (base:=base) T C39 XS;have G3:=kam (PP:=l.prog) (w:=w) (base:=base) T C3 XS G4;have G14:=Ur (PP:=l.prog) (w:=w) (base:=base) T C14 XS G15
 have G25:=jW (PP:=l.prog) (w:=w) (base:=base) T C25 XS G26;have GX42:=XN (PP:=l.prog) (w:=w) (base:=base) T C42 XS G15;have G42:Fk l.prog w K mg base _ "checked_wants" wH ["wants"] 2 YV:=GX42.nox;have G2:=kav (PP:=l.prog) (w:=w) (base:=base) T C2 XS G3;have G13:=Um (PP:=l.prog) (w:=w) (base:=base) T C13 XS G14;have GX19:=W7 (PP:=l.prog) (w:=w) (base:=base) T C19 XS G14;have G19:Fk l.prog w K mg base _ "checked_number" vz ["number"] 3 X9:=GX19.nox;have G30:=kbb (PP:=l.prog) (w:=w) (base:=base) T C30 XS G14;have GX52:=Z3 (PP:=l.prog) (w:=w) (base:=base) T C52 XS G14;have G52:Fk l.prog w K mg base _ "best_strip" ye ["many"] 3 Ji:=GX52.nox
 have G12:=kbL (PP:=l.prog) (w:=w) (base:=base) T C12 XS G13;have G29:=jT (PP:=l.prog) (w:=w) (base:=base) T C29 XS G30;have GX31:=X7 (PP:=l.prog) (w:=w) (base:=base) T C31 XS G30;have G31:Fk l.prog w K mg base _ "checked_cell" wj ["sheet","cell"] 4 ZG:=GX31.nox;have G11:=UG (PP:=l.prog) (w:=w) (base:=base) T C11 XS G12 G9;have G34:=XJ (PP:=l.prog) (w:=w) (base:=base) T C34 XS G29;have GX10:=Uk (PP:=l.prog) (w:=w) (base:=base) T C10 XS G11;have G10:Fk l.prog w K mg base _ "checked" qP ["sheet"] 6 kcb:=GX10.nox;have GX8:=kaV (PP:=l.prog) (w:=w) (base:=base) T C8 XS G9 GX10;have G8:Fk l.prog w K mg base _ "stamps" zX ["sheet"] 7 keh:=GX8.nox
 have GX18:=kay (PP:=l.prog) (w:=w) (base:=base) T C18 XS GX10 GX19;have G18:Fk l.prog w K mg base _ "pieces" yi ["sheet","most"] 7 kdp:=GX18.nox;have GX20:=kaO (PP:=l.prog) (w:=w) (base:=base) T C20 XS G21 GX10;have G20:Fk l.prog w K mg base _ "turned" zV ["sheet"] 7 WC:=GX20.nox;have GX22:=Js (PP:=l.prog) (w:=w) (base:=base) T C22 XS GX10;have G22:Fk l.prog w K mg base _ "mirrored" yj ["sheet"] 7 QU:=GX22.nox;have GX27:=kbB (PP:=l.prog) (w:=w) (base:=base) T C27 XS GX10;have G27:Fk l.prog w K mg base _ "shown" Ve ["sheet"] 7 kfB:=GX27.nox;have GX28:=kd5 (PP:=l.prog) (w:=w) (base:=base) T C28 XS G29 GX10 GX31
 have G28:Fk l.prog w K mg base _ "near" Vi ["sheet","cell"] 7 khk:=GX28.nox;have GX32:=J0 (PP:=l.prog) (w:=w) (base:=base) T C32 XS G30 G33 G34 GX10;have G32:Fk l.prog w K mg base _ "is_piece" xS ["sheet","thing"] 7 wA:=GX32.nox;have GX40:=j4 (PP:=l.prog) (w:=w) (base:=base) T C40 XS G15 GX10;have G40:Fk l.prog w K mg base _ "piece_for" xW ["sheet","number"] 7 Ul:=GX40.nox;have GX41:=kc9 (PP:=l.prog) (w:=w) (base:=base) T C41 XS GX10 GX42;have G41:Fk l.prog w K mg base _ "torn" Qt ["sheet","wants"] 7 khG:=GX41.nox;have GX46:=kdi (PP:=l.prog) (w:=w) (base:=base) T C46 XS GX10 GX19;have G46:Fk l.prog w K mg base _ "fair" Vs ["sheet","many"] 7 khq:=GX46.nox
 have GX48:=Uz (PP:=l.prog) (w:=w) (base:=base) T C48 XS G14 GX10 GX31;have G48:Fk l.prog w K mg base _ "changed" xE ["sheet","cell","number"] 7 kbr:=GX48.nox;have GX16:=kaX (PP:=l.prog) (w:=w) (base:=base) T C16 XS GX8;have G16:Fk l.prog w K mg base _ "counts" Qe ["sheet"] 8 kd4:=GX16.nox;have GX17:=uF (PP:=l.prog) (w:=w) (base:=base) T C17 XS GX18;have G17:Fk l.prog w K mg base _ "needless" zg ["sheet"] 8 ka3:=GX17.nox;have G24:=uB (PP:=l.prog) (w:=w) (base:=base) T C24 XS G22 G20;have GX35:=kbO (PP:=l.prog) (w:=w) (base:=base) T C35 XS GX32;have G35:Fk l.prog w K mg base _ "worth" Q6 ["sheet","piece"] 8 kfl:=GX35.nox
 have GX36:=kau (PP:=l.prog) (w:=w) (base:=base) T C36 XS G37 GX18;have G36:Fk l.prog w K mg base _ "worths" yW ["sheet","most"] 8 ker:=GX36.nox;have GX43:=Yn (PP:=l.prog) (w:=w) (base:=base) T C43 XS GX41;have G43:Fk l.prog w K mg base _ "fewest_tears" we ["sheet","wants"] 8 ZH:=GX43.nox;have G45:=uU (PP:=l.prog) (w:=w) (base:=base) T C45 XS G32 G9;have GX49:=XH (PP:=l.prog) (w:=w) (base:=base) T C49 XS GX10 GX19 GX48;have G49:Fk l.prog w K mg base _ "gone_and_come" vj ["sheet","most","cell","number"] 8 YW:=GX49.nox;have GX23:=kbk (PP:=l.prog) (w:=w) (base:=base) T C23 XS G24 G25 GX10;have G23:Fk l.prog w K mg base _ "least" K1 ["sheet"] 9 kfm:=GX23.nox
 have GX38:=XO (PP:=l.prog) (w:=w) (base:=base) T C38 XS G39 GX36;have G38:Fk l.prog w K mg base _ "first_missing" vV ["sheet","most"] 9 Zp:=GX38.nox;have GX44:=kbX (PP:=l.prog) (w:=w) (base:=base) T C44 XS G45 GX10;have G44:Fk l.prog w K mg base _ "tears" Qh ["sheet","parts"] 9 ke5:=GX44.nox;have GX50:=W4 (PP:=l.prog) (w:=w) (base:=base) T C50 XS GX28 GX48 GX49;have G50:Fk l.prog w K mg base _ "_law_with_cell" xC ["_law_what","_law_sheet_here","_law_bad","_law_number"] 9 jS:=GX50.nox;have GX53:=WW (PP:=l.prog) (w:=w) (base:=base) T C53 XS GX48 GX49;have G53:Fk l.prog w K mg base _ "_law_with_worth" w6 ["_law_what","_law_sheet_here","_law_cell","_law_bad"] 9 Zz:=GX53.nox
 have GX47:=kct (PP:=l.prog) (w:=w) (base:=base) T C47 XS GX23;have G47:Fk l.prog w K mg base _ "alike" Q4 ["one","other"] 10 kfD:=GX47.nox;have GX51:=Wu (PP:=l.prog) (w:=w) (base:=base) T C51 XS GX18 GX36 GX38 GX46 GX52 GX49 GX40;have G51:Fk l.prog w K mg base _ "_law_with_number" wI ["_law_what","_law_sheet_here","_law_cell","_law_bad"] 10 Zt:=GX51.nox;have GX7:=WX (PP:=l.prog) (w:=w) (base:=base) T C7 XS GX8 GX16 GX17 GX20 GX22 GX23 GX27 GX28 GX32 GX18 GX35 GX36 GX38 GX40 GX41 GX43 GX44 GX46 GX47 GX48 GX49;have G7:Fk l.prog w K mg base _ "_law_with_sheet" w5 ["_law_what","_law_bad","_law_good"] 11 ZM:=GX7.nox
 have GX5:=jV (PP:=l.prog) (w:=w) (base:=base) T C5 XS G6 GX7 GX50 GX44 GX51 GX53 GX41 GX43;have G5:Fk l.prog w K mg base _ "_law_case" K3 ["_law_sheet_here","_law_kind","_law_what","_law_cell"] 12 kd8:=GX5.nox;exact kgq (khA (PP:=l.prog) (w:=w) (base:=base) T (uN (st:=WR) ll lc lk) XS G2 G3 GX5)
def Yj:∀ns:List Int,ns.length<=63->Wn [.lsf (ns.map .int)] = .ok (.bl true):=khr
def walk {l:PySem.W.OpenLaw}{q:Program}{loose:List Str}{XP:(Str->Option Value)->Heap->Prop}{YP:World->Heap->Prop}{d:DefRec}{K:Params->PySem.W.Frag}(hn:l.most=some 63)(hdf:d.params.defaults=[])
 (Yj:∀ns:List Int,ns.length<=63->Wn [.lsf (ns.map .int)] = .ok (.bl true))
 (hY:∀ (w:World) (h:Heap),YP w h->(K w.params).In h)
 (F:∀ (w:World) (mg:Str->Option Value) (fa:Addr) (h:Heap),(K w.params).In h->h.Ns mainGlobals mg->mg d.name=some (.ref fa) →
  ∃fd:FuncData,(∀ (s:Shared) (u:Value),BindsTo s fd ⟨[u],[]⟩ [("_law_script",u)])/\∀base:Heap,(K w.params).In base->base.Ns mainGlobals mg->wg l.prog w (K w.params) mg base CX0 13 fa fd ["_law_script"] (spP (K w.params) (λ_=>.none) 1 Wn)) :
 PySem.W.WalkO q loose XP YP l.row.toRowW d [] (λf vs=>PySem.call f vs) :=
 L2.kf2 (n:=63) (k:=13) (x:="_law_script") (CX:=λ_=>CX0) (sp:=λw=>spP (K w.params) (λ_=>.none) 1 Wn) hn (by decide) hdf ⟨rfl,by decide,by decide⟩ hY F (λw H a ns hl hO hS=>ke2 (Yj ns hl) hO hS) λ_ _ _ _ _ z=>z
end G
def _root_.PySem.W.Fast.tw17331297051029681083 : Unit := ()
def _root_.PySem.W.Fast.tw5267338111436425212 : Unit := ()
def _root_.PySem.W.Fast.tw9142218153796155133 : Unit := ()
def _root_.PySem.W.Fast.tw8485301658240307832 : Unit := ()
def _root_.PySem.W.Fast.tw13469184967050733545 : Unit := ()
def _root_.PySem.W.Fast.tw2382681038249327192 : Unit := ()
def _root_.PySem.W.Fast.tw7255170480788782811 : Unit := ()
def _root_.PySem.W.Fast.tw1794332915859407840 : Unit := ()
def _root_.PySem.W.Fast.tw17994493686500774296 : Unit := ()
def _root_.PySem.W.Fast.tw2781416322093310906 : Unit := ()
def _root_.PySem.W.Fast.tw1521806210746465594 : Unit := ()
def _root_.PySem.W.Fast.tw5963924569707845885 : Unit := ()
def _root_.PySem.W.Fast.tw11497156473835728792 : Unit := ()
def _root_.PySem.W.Fast.tw2690154611051708552 : Unit := ()
def _root_.PySem.W.Fast.tw17911566482811894623 : Unit := ()
def _root_.PySem.W.Fast.tw2495389726687271808 : Unit := ()
def _root_.PySem.W.Fast.tw1563543011175514510 : Unit := ()
def _root_.PySem.W.Fast.tw14782552193915055070 : Unit := ()
def _root_.PySem.W.Fast.tw16660630844120015594 : Unit := ()
def _root_.PySem.W.Fast.tw13381831873469824096 : Unit := ()
def _root_.PySem.W.Fast.tw2999422815179116768 : Unit := ()
def _root_.PySem.W.Fast.tw5914571974902391568 : Unit := ()
def _root_.PySem.W.Fast.tw17794076774668469277 : Unit := ()
def _root_.PySem.W.Fast.tw9081986189807021320 : Unit := ()
def _root_.PySem.W.Fast.tw11369212214704287904 : Unit := ()
def _root_.PySem.W.Fast.tw15562295900768681659 : Unit := ()
def _root_.PySem.W.Fast.tw17209617084769824346 : Unit := ()
def _root_.PySem.W.Fast.tw7801048836775085593 : Unit := ()
def _root_.PySem.W.Fast.tw15485264794237907238 : Unit := ()
def _root_.PySem.W.Fast.tw2715858047253469314 : Unit := ()
def _root_.PySem.W.Fast.tw1291932392429394228 : Unit := ()
def _root_.PySem.W.Fast.tw3013269230665145236 : Unit := ()
def _root_.PySem.W.Fast.tw6286879516559148333 : Unit := ()
def _root_.PySem.W.Fast.tw5359562296687296843 : Unit := ()
def _root_.PySem.W.Fast.tw9127197153628960731 : Unit := ()
def _root_.PySem.W.Fast.tw5848396481729681375 : Unit := ()
def _root_.PySem.W.Fast.tw11300263565688490290 : Unit := ()
def _root_.PySem.W.Fast.tw9917976846534198533 : Unit := ()
def _root_.PySem.W.Fast.tw14611706312361826894 : Unit := ()
def _root_.PySem.W.Fast.tw2196594265792641536 : Unit := ()
def _root_.PySem.W.Fast.tw703444990627926411 : Unit := ()
def _root_.PySem.W.Fast.tw4232334851622077460 : Unit := ()
def _root_.PySem.W.Fast.tw13199995699571185278 : Unit := ()
def _root_.PySem.W.Fast.tw5807297802618701711 : Unit := ()
def _root_.PySem.W.Fast.tw17086738424795916126 : Unit := ()
def _root_.PySem.W.Fast.tw237526539931915226 : Unit := ()
def _root_.PySem.W.Fast.tw2022482532216405693 : Unit := ()
def _root_.PySem.W.Fast.tw9013061609677962044 : Unit := ()
def _root_.PySem.W.Fast.tw8353039771665725601 : Unit := ()
def _root_.PySem.W.Fast.tw7218344227181904747 : Unit := ()
def _root_.PySem.W.Fast.tw13757658301109065563 : Unit := ()
def _root_.PySem.W.Fast.tw4870709164985579511 : Unit := ()
def _root_.PySem.W.Fast.tw17718251295642503370 : Unit := ()
def _root_.PySem.W.Fast.tw5239771018735383055 : Unit := ()
def _root_.PySem.W.Fast.tw10104119912999567619 : Unit := ()
def _root_.PySem.W.Fast.tw1465735751631322255 : Unit := ()
def _root_.PySem.W.Fast.tw4700029152986098170 : Unit := ()
def _root_.PySem.W.Fast.tw11227954144061598556 : Unit := ()
def _root_.PySem.W.Fast.tw18183255655866984144 : Unit := ()
def _root_.PySem.W.Fast.tw16504807923826281265 : Unit := ()
def _root_.PySem.W.Fast.tw4316139940356482475 : Unit := ()
def _root_.PySem.W.Fast.tw11121532949167404385 : Unit := ()
def _root_.PySem.W.Fast.tw12091292831947803144 : Unit := ()
def _root_.PySem.W.Fast.tw4048430258779876735 : Unit := ()
def _root_.PySem.W.Fast.tw408479706091805186 : Unit := ()
def _root_.PySem.W.Fast.tw6271120731886208291 : Unit := ()
def _root_.PySem.W.Fast.tw6200056846232296431 : Unit := ()
def _root_.PySem.W.Fast.tw15057479550977169684 : Unit := ()
def _root_.PySem.W.Fast.tw5567577542834838937 : Unit := ()
def _root_.PySem.W.Fast.tw10354568771601507700 : Unit := ()
def _root_.PySem.W.Fast.tw17080414842177917635 : Unit := ()
def _root_.PySem.W.Fast.tw15255816996532420389 : Unit := ()
def _root_.PySem.W.Fast.tw9547324372667049270 : Unit := ()
def _root_.PySem.W.Fast.tw3176324107811599415 : Unit := ()
def _root_.PySem.W.Fast.tw8135840910310899014 : Unit := ()
def _root_.PySem.W.Fast.tw4113741808037684537 : Unit := ()
def _root_.PySem.W.Fast.tw166665135080855252 : Unit := ()
def _root_.PySem.W.Fast.tw2299122050804116472 : Unit := ()
def _root_.PySem.W.Fast.tw1421784851873330051 : Unit := ()
def _root_.PySem.W.Fast.tw16581206850008324762 : Unit := ()
def _root_.PySem.W.Fast.tw8758065335613144968 : Unit := ()
def _root_.PySem.W.Fast.tw4659316038634380888 : Unit := ()
def _root_.PySem.W.Fast.tw13621209221170770608 : Unit := ()
def _root_.PySem.W.Fast.tw2316261045597482715 : Unit := ()
def _root_.PySem.W.Fast.tw7727493633716634972 : Unit := ()
def _root_.PySem.W.Fast.tw6534985748380735733 : Unit := ()
def _root_.PySem.W.Fast.tw8717023004686019761 : Unit := ()
def _root_.PySem.W.Fast.tw11906967510317245116 : Unit := ()
def _root_.PySem.W.Fast.tw6665111345801784577 : Unit := ()
def _root_.PySem.W.Fast.tw787891752010280178 : Unit := ()
def _root_.PySem.W.Fast.tw15637657213256296054 : Unit := ()
def _root_.PySem.W.Fast.tw16450286129736411707 : Unit := ()
def _root_.PySem.W.Fast.tw11925737962823006829 : Unit := ()
def _root_.PySem.W.Fast.tw5770724513552373951 : Unit := ()
def _root_.PySem.W.Fast.tw9499327298234321376 : Unit := ()
def _root_.PySem.W.Fast.tw4716149125141063293 : Unit := ()
def _root_.PySem.W.Fast.tw17697112587256277404 : Unit := ()
def _root_.PySem.W.Fast.tw7171719533405197048 : Unit := ()
def _root_.PySem.W.Fast.tw8298375231962032046 : Unit := ()
def _root_.PySem.W.Fast.tw5587819604717280754 : Unit := ()
def _root_.PySem.W.Fast.tw10328983413176377649 : Unit := ()
def _root_.PySem.W.Fast.tw12148301822660109062 : Unit := ()
def _root_.PySem.W.Fast.tw2526280114688021072 : Unit := ()
def _root_.PySem.W.Fast.tw4102945950275165865 : Unit := ()
def _root_.PySem.W.Fast.tw1329538051899043512 : Unit := ()
def _root_.PySem.W.Fast.tw6265872711818578031 : Unit := ()
def _root_.PySem.W.Fast.tw14337718419954663797 : Unit := ()
def _root_.PySem.W.Fast.tw11476132689926682698 : Unit := ()
def _root_.PySem.W.Fast.tw2092085212724301714 : Unit := ()
def _root_.PySem.W.Fast.tw13077376684919323664 : Unit := ()
def _root_.PySem.W.Fast.tw7816263390927967009 : Unit := ()
def _root_.PySem.W.Fast.tw6689502463527833285 : Unit := ()
def _root_.PySem.W.Fast.tw12913835751835764622 : Unit := ()
def _root_.PySem.W.Fast.tw14203242860157673340 : Unit := ()
def _root_.PySem.W.Fast.tw801765350592395036 : Unit := ()
def _root_.PySem.W.Fast.tw5455871394185830324 : Unit := ()
def _root_.PySem.W.Fast.tw11806494207425484379 : Unit := ()
def _root_.PySem.W.Fast.tw13962763191284763812 : Unit := ()
def _root_.PySem.W.Fast.tw8448863972018882170 : Unit := ()
def _root_.PySem.W.Fast.tw14369724968757338474 : Unit := ()
def _root_.PySem.W.Fast.tw9850784848970203162 : Unit := ()
def _root_.PySem.W.Fast.tw12221773498887066061 : Unit := ()
def _root_.PySem.W.Fast.tw5884222174930278737 : Unit := ()
def _root_.PySem.W.Fast.tw8373653728387677935 : Unit := ()
def _root_.PySem.W.Fast.tw4997595219491267568 : Unit := ()
def _root_.PySem.W.Fast.tw5426350717490053561 : Unit := ()
def _root_.PySem.W.Fast.tw9747739311853476324 : Unit := ()
def _root_.PySem.W.Fast.tw17193932684773625760 : Unit := ()
def _root_.PySem.W.Fast.tw16456426489109862612 : Unit := ()
def _root_.PySem.W.Fast.tw385407093911424144 : Unit := ()
def _root_.PySem.W.Fast.tw14634786461257977913 : Unit := ()
def _root_.PySem.W.Fast.tw14504036371343061738 : Unit := ()
def _root_.PySem.W.Fast.tw1416812508001031243 : Unit := ()
def _root_.PySem.W.Fast.tw6394069057293474397 : Unit := ()
def _root_.PySem.W.Fast.tw15946511229866972266 : Unit := ()
def _root_.PySem.W.Fast.tw7507851039583979425 : Unit := ()
def _root_.PySem.W.Fast.tw378145961245132515 : Unit := ()
def _root_.PySem.W.Fast.tw8883024327298467695 : Unit := ()
def _root_.PySem.W.Fast.tw9051359478839483743 : Unit := ()
def _root_.PySem.W.Fast.tw6550319219160072974 : Unit := ()
def _root_.PySem.W.Fast.tw7041006652503440727 : Unit := ()
def _root_.PySem.W.Fast.tw2029955342549611852 : Unit := ()
def _root_.PySem.W.Fast.tw13627958139158234137 : Unit := ()
def _root_.PySem.W.Fast.tw471438697714297297 : Unit := ()
def _root_.PySem.W.Fast.tw10346076282575723373 : Unit := ()
def _root_.PySem.W.Fast.tw1696413136687379336 : Unit := ()
open PySem PySem.W PyProof.Rows
set_option maxRecDepth 100000 in
set_option maxHeartbeats 0 in
theorem PySem.Challenge.cw_stampsheet_k15_refused_holds : PySem.Challenge.rw_stampsheet_k15_refused.Holds := by
 w_on;o_law;k_head;(case hw=>w_witness2)
 k_fill
 refine G.walk (l:=PySem.Challenge.rw_stampsheet_k15_refused) rfl rfl G.Yj (λw h Y=>PySem.W.kIn_of Y) ?F
 case F=>
  intro w mg fa h KX Gn hmg;refine' G.all_mk KX Gn hmg ?_ ?_ ?_ ?_ ?_ ?_ ?_ ?_ ?_ ?_ ?_ ?_ ?_ ?_ ?_ ?_ ?_ ?_ ?_ ?_ ?_ ?_ ?_ ?_ ?_ ?_ ?_ ?_ ?_ ?_ ?_ ?_ ?_ ?_ ?_ ?_ ?_ ?_ ?_ ?_ ?_ ?_ ?_ ?_ ?_ ?_ ?_ ?_ ?_ ?_ ?_ ?_ ?_ ?_ ?_ ?_ ?_ ?_ ?_ ?_ ?_ ?_ ?_ ?_ ?_ ?_ ?_ ?_ ?_ ?_ ?_ ?_ ?_ ?_ ?_ ?_ ?_ ?_ ?_ ?_ ?_ ?_ ?_ ?_ ?_ ?_ ?_ ?_ ?_ ?_ ?_ ?_ ?_ ?_ ?_ ?_ ?_ ?_ ?_ ?_ ?_ ?_ ?_ ?_ ?_ ?_ ?_ ?_ ?_ ?_ ?_ ?_ ?_ ?_ ?_ ?_ ?_ ?_ ?_ ?_ ?_ ?_ ?_ ?_ ?_ ?_ ?_
  all_goals first | (refine' L3.kil ?a ?l ?c ?k;(case a=>k_is);(case l=>k_is);(case c=>k_is);(case k=>k_is)) | (refine' L3.khQ ?_ ?_ ?_ ?_ ?_ ?_ ?_ <;> kernel_rfl) | (refine' L3.kig ?a;(case a=>k_is)) | k_is | kernel_rfl | skip
end
